import PyProof.Rows.All
import Wide.All
import OpenK.AllK
import Wide.FinOn
import Lean
import PyProof.EqAt
import PyProof.EqKinds
import PyProof.TupleCall
import PyProof.NeKinds
import PyProof.ZipIter
import PySem.Challenge.RW_chanceduel_k14_whole_any_rows
set_option Elab.async false
set_option linter.all false
set_option maxRecDepth 100000
namespace L2
open PySem PySem.Spec PyProof.Rows
abbrev Key := Sum Int Str
def keyIs : Key → Value → Bool
  | .inl k, v => Value.isInt k v
  | .inr x, v => Value.isStrOf x v
def keyH (w : World) : Key → Int
  | .inl k => hashInt k
  | .inr x => hashStr w x
theorem keyIs_shape : ∀ {k : Key} {v : Value}, keyIs k v = true → (∃ i t, k = Sum.inl i ∧ v = Value.int i t) ∨ (∃ x t, k = Sum.inr x ∧ v = Value.str x t)
  | .inl i, v, h => by
    obtain ⟨t, e⟩ := Value.isInt_shape (k := i) (v := v) h
    exact .inl ⟨i, t, rfl, e⟩
  | .inr x, v, h => by
    obtain ⟨t, e⟩ := Value.isStrOf_shape (x := x) (v := v) h
    exact .inr ⟨x, t, rfl, e⟩
theorem key_ll (a b : Int) : decide ((Sum.inl a : Key) = Sum.inl b) = (a == b) := by
  by_cases e : a = b
  · subst e; simp
  · have h : ¬ (Sum.inl a : Key) = Sum.inl b := fun q => e (Sum.inl.inj q)
    rw [decide_eq_false h]
    exact (beq_eq_false_iff_ne.mpr e).symm
theorem key_rr (a b : Str) : decide ((Sum.inr a : Key) = Sum.inr b) = decide (a = b) := by
  by_cases e : a = b
  · subst e; simp
  · have h : ¬ (Sum.inr a : Key) = Sum.inr b := fun q => e (Sum.inr.inj q)
    rw [decide_eq_false h, decide_eq_false e]
theorem key_lr (a : Int) (b : Str) : decide ((Sum.inl a : Key) = Sum.inr b) = false := decide_eq_false (fun q => nomatch q)
theorem key_rl (a : Str) (b : Int) : decide ((Sum.inr a : Key) = Sum.inl b) = false := decide_eq_false (fun q => nomatch q)
def mixKind (prog : Program) (w : World) : PySem.KeyKind prog w Key where
  is := keyIs
  hash := keyH w
  inj := fun v a b ha hb => by
    rcases keyIs_shape ha with ⟨i, t, rfl, rfl⟩ | ⟨x, t, rfl, rfl⟩
    · rcases keyIs_shape hb with ⟨j, u, rfl, e⟩ | ⟨y, u, rfl, e⟩
      · injection e with e1 _; rw [e1]
      · exact nomatch e
    · rcases keyIs_shape hb with ⟨j, u, rfl, e⟩ | ⟨y, u, rfl, e⟩
      · exact nomatch e
      · injection e with e1 _; rw [e1]
  byValue := fun k v h => by
    rcases keyIs_shape h with ⟨i, t, rfl, rfl⟩ | ⟨x, t, rfl, rfl⟩ <;> rfl
  pyHash := fun hv h => by
    rcases keyIs_shape hv with ⟨i, t, rfl, rfl⟩ | ⟨x, t, rfl, rfl⟩
    · exact wpAny_pyHash_int h
    · exact wpAny_pyHash_str h
  eqBool := fun hu hv h => by
    rcases keyIs_shape hu with ⟨i, t, rfl, rfl⟩ | ⟨x, t, rfl, rfl⟩
    · rcases keyIs_shape hv with ⟨j, u, rfl, rfl⟩ | ⟨y, u, rfl, rfl⟩
      · rw [key_ll] at h; exact wpAny_eqBool_int h
      · rw [key_lr] at h; exact SeqAt.EqAt.int_str i t y u _ _ _ _ h
    · rcases keyIs_shape hv with ⟨j, u, rfl, rfl⟩ | ⟨y, u, rfl, rfl⟩
      · rw [key_rl] at h; exact SeqAt.EqAt.str_int x t j u _ _ _ _ h
      · rw [key_rr] at h; exact wpAny_eqBool_str h
  «strs» := fun k x t v h => by
    rcases keyIs_shape h with ⟨i, u, rfl, e⟩ | ⟨y, u, rfl, e⟩
    · exact nomatch e
    · injection e with e1 _
      subst e1
      cases v <;> rfl
end L2
namespace L2
open PySem PySem.Spec PyProof.Rows
inductive V where
  | non | bl (b : Bool) | int (i : Int) | str (x : Str) | byt (b : Array UInt8) | flt (b : UInt64) | ref (a : Addr) | ty (n : String)
  deriving DecidableEq
def RelV : V → Value → Prop
  | .non, u => u = Value.none
  | .bl b, u => u = Value.bool b
  | .int i, u => ∃ t, u = Value.int i t
  | .str x, u => ∃ t, u = Value.str x t
  | .byt b, u => ∃ t, u = Value.bytes b t
  | .flt b, u => ∃ t, u = Value.float b t
  | .ref a, u => u = Value.ref a
  | .ty n, u => u = Value.type n
abbrev Vals : List V → List Value → Prop := Paired RelV
theorem Vals.length {xs : List V} {us : List Value} (r : Vals xs us) : xs.length = us.length := Paired.length r
theorem Vals.get : ∀ {xs : List V} {us : List Value} {i : Nat} {x : V}, Vals xs us → xs[i]? = some x → ∃ u, us[i]? = some u ∧ RelV x u
  | _, _, _, _, .nil, e => by simp at e
  | _, _, 0, _, .cons r _, e => by simp at e; subst e; exact ⟨_, rfl, r⟩
  | _, _, i + 1, x, .cons _ t, e => by
    obtain ⟨u, h1, h2⟩ := Vals.get (i := i) (x := x) t (by simpa using e)
    exact ⟨u, by simpa using h1, h2⟩
theorem Vals.set {x : V} {u : Value} (r : RelV x u) : ∀ {xs : List V} {us : List Value} (i : Nat), Vals xs us → Vals (xs.set i x) (us.set i u)
  | _, _, _, .nil => .nil
  | _, _, 0, .cons _ t => .cons r t
  | _, _, i + 1, .cons q t => .cons q (Vals.set r i t)
theorem Vals.append : ∀ {xs ys : List V} {us ws : List Value}, Vals xs us → Vals ys ws → Vals (xs ++ ys) (us ++ ws)
  | _, _, _, _, .nil, s => s
  | _, _, _, _, .cons r t, s => .cons r (Vals.append t s)
theorem Vals.take : ∀ {xs : List V} {us : List Value} (n : Nat), Vals xs us → Vals (xs.take n) (us.take n)
  | _, _, 0, _ => .nil
  | _, _, _ + 1, .nil => .nil
  | _, _, n + 1, .cons r t => .cons r (Vals.take n t)
theorem Vals.drop : ∀ {xs : List V} {us : List Value} (n : Nat), Vals xs us → Vals (xs.drop n) (us.drop n)
  | _, _, 0, r => r
  | _, _, _ + 1, .nil => .nil
  | _, _, n + 1, .cons _ t => Vals.drop n t
def RelO : Option V → Option Value → Prop
  | some v, some u => RelV v u
  | none, none => True
  | _, _ => False
def KV {κ : Type} : List (κ × V) → List (κ × Value) → Prop := Paired fun (p : κ × V) (q : κ × Value) => p.1 = q.1 ∧ RelV p.2 q.2
def kV : Key → V
  | .inl i => .int i
  | .inr x => .str x
inductive HO where
  | lst (xs : List V)
  | tup (xs : List V)
  | dK (kvs : List (Key × V)) | dT (kvs : List (List Key × V))
  | set (S : Int → Bool) (n : Nat)
  | ins (C dx : Addr) (fs : List (Str × V))
  | own (x : Addr)
  | xd (fs : List (Str × V))
  | met (f x : Addr)
  | rng (lo hi : Int)
  | frz (o : Obj) (u : HO)
  | tbl (ps : Array Value)
  | ext (φ : Heap → Prop)
abbrev Hp := Addr → Option HO
def upd (H : Hp) (a : Addr) (o : HO) : Hp := fun b => if b = a then some o else H b
theorem upd_same {H : Hp} {a : Addr} {o : HO} : upd H a o a = some o := by unfold upd; rw [if_pos rfl]
theorem upd_ne {H : Hp} {a b : Addr} {o : HO} (h : b ≠ a) : upd H a o b = H b := by unfold upd; rw [if_neg h]
theorem ne_of_none {H : Hp} {a b : Addr} {o : HO} (h : H a = some o) (h' : H b = none) : a ≠ b := by
  intro e; subst e; rw [h] at h'; cases h'
section
variable (P : Program) (w : World)
def ObjOk (H : Hp) (h : Heap) (a : Addr) : HO → Prop
  | .lst xs => xs.length ≤ sizeLine ∧ ∃ (its : List Value) (n : Nat), Vals xs its ∧ h.get? a = some { cls := .type "list", data := .seq its.toArray n }
  | .tup xs => xs.length ≤ sizeLine ∧ ∃ its : List Value, Vals xs its ∧ IsTup h a its.toArray
  | .dK kvs => kvs.length ≤ sizeLine ∧ (a == sysModules) = false ∧ ∃ vs, KV kvs vs ∧ h.DictOf (mixKind P w) a vs
  | .dT kvs => kvs.length ≤ sizeLine ∧ (a == sysModules) = false ∧ ∃ xs : List (List Key × Addr × Value),
      Paired (fun (p : List Key × V) (q : List Key × Addr × Value) => p.1 = q.1 ∧ H q.2.1 = some (.tup (p.1.map kV)) ∧ RelV p.2 q.2.2) kvs xs ∧
      ∃ o es ep, h.get? a = some o ∧ o.ExactDict ∧ o.data = .dict es ep ∧ es.toList = xs.map (entryOfKey (tupleKind (mixKind P w))) ∧ (xs.map (·.1)).Nodup
  | .set S n => h.SetOf (intKind P w) a S n
  | .ins C dx fs => H dx = some (.own a) ∧ fs.length ≤ 1000 ∧ dx ≠ a ∧ h.get? a = some (PySem.W.instObj C dx) ∧
      ∃ mA, h.Ns1 dx mA ∧ (∀ f, RelO (fs.lookup f) (mA f)) ∧ PySem.Within mA (fs.map (·.1))
  | .own _ => ∃ o, h.get? a = some o
  | .xd fs => ∃ mA, h.Ns1 a mA ∧ ∀ f, RelO (fs.lookup f) (mA f)
  | .rng lo hi => ∃ t u v, h.get? a = some { cls := .type "range", data := .fields #[.int lo t, .int hi u, .int 1 v] }
  | .frz o u => h.get? a = some o ∧ ObjOk H h a u
  | .tbl ps => h.get? a = some { cls := .none, data := .fields ps }
  | .met f x => h.get? a = some (PySem.W.methodObj (.ref f) (.ref x))
  | .ext φ => φ h ∧ (∃ o, h.get? a = some o) ∧ ∀ h1 h2 : Heap, φ h1 → (∀ o, h1.get? a = some o → h2.get? a = some o) → φ h2
def HOk (H : Hp) (h : Heap) : Prop := ∀ a o, H a = some o → ObjOk P w H h a o
end
section
variable {P : Program} {w : World} {H H' : Hp} {h h' : Heap} {a : Addr} {o : HO}
theorem ObjOk.lt (x : ObjOk P w H h a o) : a < h.objs.size := by
  cases o with
  | lst xs => obtain ⟨_, _, _, _, e⟩ := x; exact Heap.lt_size e
  | tup xs => obtain ⟨_, _, _, p⟩ := x; exact p.lt
  | dK kvs => obtain ⟨_, _, _, _, o, _, _, e, _⟩ := x; exact Heap.lt_size e
  | dT kvs => obtain ⟨_, _, _, _, o, _, _, e, _⟩ := x; exact Heap.lt_size e
  | set S n => obtain ⟨o, _, _, _, e, _⟩ := x; exact Heap.lt_size e
  | ins C dx fs => obtain ⟨_, _, _, e, _⟩ := x; exact Heap.lt_size e
  | own y => obtain ⟨_, e⟩ := x; exact Heap.lt_size e
  | xd fs => obtain ⟨_, ⟨_, _, _, e, _⟩, _⟩ := x; exact Heap.lt_size e
  | rng lo hi => obtain ⟨_, _, _, e⟩ := x; exact Heap.lt_size e
  | frz ob u => obtain ⟨e, _⟩ := x; exact Heap.lt_size e
  | tbl ps => exact Heap.lt_size (show h.get? a = some _ from x)
  | met f y => exact Heap.lt_size (show h.get? a = some _ from x)
  | ext φ => obtain ⟨_, ⟨_, e⟩, _⟩ := x; exact Heap.lt_size e
theorem Paired.mapP {α β : Type} {F G : α → β → Prop} : ∀ {l₁ : List α} {l₂ : List β}, Paired F l₁ l₂ → (∀ a b, F a b → G a b) → Paired G l₁ l₂
  | _, _, .nil, _ => .nil
  | _, _, .cons r t, f => .cons (f _ _ r) (Paired.mapP t f)
theorem ObjOk.stay (x : ObjOk P w H h a o) (k : ∀ b u, (b = a ∨ H b = some (.own a)) → h.get? b = some u → h'.get? b = some u)
    (ho : ∀ b, H b = some (.own a) → H' b = some (.own a)) (ht : ∀ b xs, H b = some (.tup xs) → H' b = some (.tup xs)) : ObjOk P w H' h' a o := by
  induction o with
  | lst xs => obtain ⟨z, its, n, r, e⟩ := x; exact ⟨z, its, n, r, k _ _ (.inl rfl) e⟩
  | tup xs => obtain ⟨z, its, r, ob, e, c⟩ := x; exact ⟨z, its, r, ob, k _ _ (.inl rfl) e, c⟩
  | dK kvs => obtain ⟨z, y, vs, r, ob, es, ep, e, c⟩ := x; exact ⟨z, y, vs, r, ob, es, ep, k _ _ (.inl rfl) e, c⟩
  | dT kvs =>
    obtain ⟨z, y, xs, r, ob, es, ep, e, c⟩ := x
    exact ⟨z, y, xs, Paired.mapP r fun p q z => ⟨z.1, ht _ _ z.2.1, z.2.2⟩, ob, es, ep, k _ _ (.inl rfl) e, c⟩
  | set S n => obtain ⟨ob, es, ep, t, e, c⟩ := x; exact ⟨ob, es, ep, t, k _ _ (.inl rfl) e, c⟩
  | ins C dx fs =>
    obtain ⟨d, z, ne, e, mA, ⟨od, es, ep, e2, c⟩, r⟩ := x
    exact ⟨ho _ d, z, ne, k _ _ (.inl rfl) e, mA, ⟨od, es, ep, k _ _ (.inr d) e2, c⟩, r⟩
  | own y => obtain ⟨ob, e⟩ := x; exact ⟨ob, k _ _ (.inl rfl) e⟩
  | xd fs => obtain ⟨mA, ⟨od, es, ep, e, c⟩, r⟩ := x; exact ⟨mA, ⟨od, es, ep, k _ _ (.inl rfl) e, c⟩, r⟩
  | rng lo hi => obtain ⟨t, u, v, e⟩ := x; exact ⟨t, u, v, k _ _ (.inl rfl) e⟩
  | frz ob u ih => obtain ⟨e, q⟩ := x; exact ⟨k _ _ (.inl rfl) e, ih q⟩
  | tbl ps =>
    have e : h.get? a = some { cls := .none, data := .fields ps } := x
    show h'.get? a = some { cls := .none, data := .fields ps }
    exact k a _ (.inl rfl) e
  | met f y =>
    have e : h.get? a = some (PySem.W.methodObj (.ref f) (.ref y)) := x
    show h'.get? a = some (PySem.W.methodObj (.ref f) (.ref y))
    exact k a _ (.inl rfl) e
  | ext φ => obtain ⟨p, ⟨o, e⟩, st⟩ := x; exact ⟨st _ _ p fun o q => k _ _ (.inl rfl) q, ⟨o, k _ _ (.inl rfl) e⟩, st⟩
theorem HOk.lt (x : HOk P w H h) (e : H a = some o) : a < h.objs.size := (x a o e).lt
theorem HOk.fresh (x : HOk P w H h) (e : h.objs.size ≤ a) : H a = none := by
  cases q : H a with
  | none => rfl
  | some u => exact absurd (Nat.lt_of_lt_of_le (x.lt q) e) (Nat.lt_irrefl _)
theorem HOk.kept (x : HOk P w H h) (k : ∀ b u, h.get? b = some u → h'.get? b = some u) : HOk P w H h' := fun a o e =>
  (x a o e).stay (fun b u _ q => k b u q) (fun _ q => q) fun _ _ q => q
theorem HOk.laid (x : HOk P w H h) (k : ∀ b u, h.get? b = some u → h'.get? b = some u) (hp : h.objs.size ≤ a) (new : ObjOk P w (upd H a o) h' a o) : HOk P w (upd H a o) h' := fun b u e => by
  have hn := x.fresh hp
  by_cases hb : b = a
  · subst hb; rw [upd_same] at e; cases e; exact new
  · rw [upd_ne hb] at e
    exact (x b u e).stay (fun c v _ q => k c v q) (fun c q => by rw [upd_ne (ne_of_none q hn)]; exact q) fun c xs q => by rw [upd_ne (ne_of_none q hn)]; exact q
end
def Rd (H : Hp) (a : Addr) (u : HO) : Prop := H a = some u ∨ ∃ o, H a = some (.frz o u)
theorem Rd.ok {P : Program} {w : World} {H : Hp} {h : Heap} {a : Addr} {u : HO} (r : Rd H a u) (x : HOk P w H h) : ObjOk P w H h a u := by
  rcases r with r | ⟨o, r⟩
  · exact x a u r
  · obtain ⟨_, q⟩ := x a _ r
    exact q
def Mut : Option HO → Prop
  | some (.lst _) => True
  | some (.dK _) => True
  | some (.dT _) => True
  | some (.set _ _) => True
  | some (.ins _ _ _) => True
  | some (.ext _) => True
  | _ => False
section
variable {P : Program} {w : World} {H : Hp} {h h' : Heap} {x e : Addr} {o' : HO}
theorem HOk.write (ok : HOk P w H h) (mu : Mut (H x)) (he : e = x ∨ H e = some (.own x)) (k : ∀ b u, b ≠ e → h.get? b = some u → h'.get? b = some u) (heo : ∃ u, h'.get? e = some u)
    (new : ObjOk P w (upd H x o') h' x o') : HOk P w (upd H x o') h' := fun b u q => by
  have nown : ∀ c y, H c = some (.own y) → c ≠ x := fun c y r z => by subst z; rw [r] at mu; exact mu
  have ntup : ∀ c xs, H c = some (.tup xs) → c ≠ x := fun c xs r z => by subst z; rw [r] at mu; exact mu
  by_cases hb : b = x
  · subst hb; rw [upd_same] at q; cases q; exact new
  · rw [upd_ne hb] at q
    by_cases hbe : b = e
    · have q' : H b = some (.own x) := by
        rcases he with z | z
        · exact absurd (hbe.trans z) hb
        · rw [hbe]; exact z
      rw [q] at q'; cases q'
      obtain ⟨v, hv⟩ := heo
      exact ⟨v, by rw [hbe]; exact hv⟩
    · refine (ok b u q).stay (fun c v hc r => k c v ?_ r) (fun c r => by rw [upd_ne (nown c b r)]; exact r) fun c xs r => by rw [upd_ne (ntup c xs r)]; exact r
      rcases hc with rfl | hc
      · exact hbe
      · rintro rfl
        rcases he with z | z
        · exact nown c b hc z
        · rw [hc] at z; cases z; exact hb rfl
end
structure Un (fs ex : List Addr) (H H' : Hp) (h h' : Heap) : Prop where
  keep : ∀ b o, h.get? b = some o → H b = none → b ∉ fs → b ∉ ex → h'.get? b = some o
  slot : ∀ b o, h.get? b = some o → H b = none → b ∈ fs → b ∉ ex → ∃ sl, h'.get? b = some { o with slots := sl }
  free : ∀ b o, h.get? b = some o → H b = none → b ∉ ex → H' b = none
  there : ∀ b o, h.get? b = some o → b ∉ ex → ∃ o', h'.get? b = some o'
  tups : ∀ b xs, H b = some (.tup xs) → H' b = some (.tup xs)
  frzs : ∀ b o u, H b = some (.frz o u) → H' b = some (.frz o u)
  tbls : ∀ b ps, H b = some (.tbl ps) → ∃ more, H' b = some (.tbl (ps ++ more))
section
variable {fs fs' ex ex' : List Addr} {H H1 H2 : Hp} {h h1 h2 h' : Heap} {a x e : Addr} {o : HO}
theorem Un.any (u : Un fs ex H H1 h h1) {b : Addr} {ob : Obj} (q : h.get? b = some ob) (n : H b = none) (hx : b ∉ ex) : ∃ sl, h1.get? b = some { ob with slots := sl } := by
  by_cases hb : b ∈ fs
  · exact u.slot b ob q n hb hx
  · exact ⟨ob.slots, u.keep b ob q n hb hx⟩
theorem Un.kept (k : ∀ b u, h.get? b = some u → h'.get? b = some u) : Un fs ex H H h h' :=
  ⟨fun b ob q _ _ _ => k b ob q, fun b ob q _ _ _ => ⟨ob.slots, k b ob q⟩, fun _ _ _ n _ => n, fun b ob q _ => ⟨ob, k b ob q⟩, fun _ _ q => q, fun _ _ _ q => q, fun _ ps q => ⟨#[], by rw [q]; simp⟩⟩
theorem Un.refl : Un fs ex H H h h := Un.kept fun _ _ q => q
theorem Un.laid (k : ∀ b u, h.get? b = some u → h'.get? b = some u) (hp : h.objs.size ≤ a) (hn : H a = none) : Un fs ex H (upd H a o) h h' where
  keep := fun b u q _ _ _ => k b u q
  slot := fun b u q _ _ _ => ⟨u.slots, k b u q⟩
  free := fun b u q n _ => by rw [upd_ne (Nat.ne_of_lt (Nat.lt_of_lt_of_le (Heap.lt_size q) hp))]; exact n
  there := fun b u q _ => ⟨u, k b u q⟩
  tups := fun b xs q => by rw [upd_ne (ne_of_none q hn)]; exact q
  frzs := fun b u xs q => by rw [upd_ne (ne_of_none q hn)]; exact q
  tbls := fun b ps q => ⟨#[], by rw [upd_ne (ne_of_none q hn), q]; simp⟩
theorem Un.write (mu : Mut (H x)) (he : e = x ∨ H e = some (.own x)) (k : ∀ b u, b ≠ e → h.get? b = some u → h'.get? b = some u) (heo : ∃ u, h'.get? e = some u) : Un fs ex H (upd H x o) h h' := by
  have hx : ∀ b, H b = none → b ≠ x := fun b n z => by subst z; rw [n] at mu; exact mu
  have hb : ∀ b, H b = none → b ≠ e := fun b n z => by
    subst z
    rcases he with r | r
    · exact hx b n r
    · rw [n] at r; cases r
  have hm : ∀ b u, H b = some u → ¬ Mut (some u) → b ≠ x := fun b u q nm z => by subst z; rw [q] at mu; exact nm mu
  refine ⟨fun b u q n _ _ => k b u (hb b n) q, fun b u q n _ _ => ⟨u.slots, k b u (hb b n) q⟩, fun b u q n _ => by rw [upd_ne (hx b n)]; exact n, fun b u q _ => ?_,
    fun b xs q => by rw [upd_ne (hm b _ q fun z => z)]; exact q, fun b u xs q => by rw [upd_ne (hm b _ q fun z => z)]; exact q, fun b ps q => ⟨#[], by rw [upd_ne (hm b _ q fun z => z), q]; simp⟩⟩
  by_cases hbe : b = e
  · subst hbe; exact heo
  · exact ⟨u, k b u hbe q⟩
end
def trk (h : Heap) (H : Hp) : List Addr := (List.range h.objs.size).filter fun a => (H a).isSome
def hidT (h : Heap) (H : Hp) : Heap := PySem.W.hideAll h (trk h H)
theorem hidT_size (h : Heap) (H : Hp) : (hidT h H).objs.size = h.objs.size := PySem.W.hideAll_size _ _
theorem hidT_get {h : Heap} {H : Hp} {b : Addr} {o : Obj} (e : h.get? b = some o) (n : H b = none) : (hidT h H).get? b = some o :=
  PySem.W.hideAll_get _ e fun hm => by
    have q : (H b).isSome = true := (List.mem_filter.mp hm).2
    rw [n] at q; simp at q
theorem of_hidT {h : Heap} {H : Hp} {b : Addr} {o : Obj} (e : (hidT h H).get? b = some o) : h.get? b = some o ∧ H b = none := by
  have e' : h.get? b = some o := PySem.W.of_hideAll (trk h H) e
  refine ⟨e', ?_⟩
  cases q : H b with
  | none => rfl
  | some x =>
    have hm : b ∈ trk h H := List.mem_filter.mpr ⟨List.mem_range.mpr (Heap.lt_size e'), by simp [q]⟩
    have z : (hidT h H).get? b = none := PySem.W.hideAll_none (trk h H) hm
    rw [z] at e; cases e
end L2
namespace L2
open PySem PySem.Spec PyProof.Rows
structure Mod (K : PySem.W.Frag) (mg : Str → Option Value) (base : Heap) : Prop where
  kin : K.In base
  glob : base.Ns mainGlobals mg
  blt : ∃ mb, base.Ns builtinsNs mb ∧ ∀ x : Str, x ≠ "__name__" → mb x = bootBuiltins x
  nolimit : base.NoLimit
structure Cx where
  prog : Program
  w : World
  K : PySem.W.Frag
  mg : Str → Option Value
  base : Heap
  A : Around
  N : List Str
  s₀ : Shared
  H₀ : Hp
  env : Env
  outer : List Env
  stack : List Env
  ex : List Addr
  fn : Str → Bool
  calm : Bool
  pn : List (Addr × Obj)
  xe : Value → Shared → Prop
def frs (l : List Env) : List Addr := l.filterMap (·.frame)
abbrev Cx.fs (X : Cx) : List Addr := frs X.outer
def Vis (sc : Scope) (x : Str) : Prop := sc.names.lookup x = some .local ∨ sc.names.lookup x = some .cell ∨ sc.names.lookup x = some .free
def Loc (sc : Scope) (x : Str) : Prop := sc.names.lookup x = some .local ∨ sc.names.lookup x = some .cell
def Look (env : Env) (h : Heap) (m : Str → Option Value) (x : Str) (u : Value) : Prop :=
  (env.kindOf x = some .local ∧ m x = some u) ∨ ((env.kindOf x = some .cell ∨ env.kindOf x = some .free) ∧ ∃ c, env.cells.lookup x = some c ∧ h.IsCell c (some u))
structure Cx.Ok (X : Cx) : Prop where
  mod : Mod X.K X.mg X.base
  kind : X.env.scope.kind = .function
  glob : X.env.globals = mainGlobals
  blt : X.env.builtins = builtinsNs
  above : X.s₀.heap.objs.size ≤ X.env.locals
  inj : ∀ x y c, X.env.cells.lookup x = some c → X.env.cells.lookup y = some c → x = y
  has : ∀ x, (X.env.kindOf x = some .cell ∨ X.env.kindOf x = some .free) → ∃ c, X.env.cells.lookup x = some c
  cab : ∀ x c, X.fn x = true → X.env.cells.lookup x = some c → X.s₀.heap.objs.size ≤ c
  hd : X.calm = true → X.A.handled = none
  frames : X.A.frames = some X.stack
  stk : X.stack = X.outer ∨ (X.stack = X.env :: X.outer ∧ X.env.frame = some X.env.locals)
  exf : ∀ b ∈ X.ex, b ≠ X.env.locals ∧ ∀ x c, X.env.cells.lookup x = some c → c ≠ b
  bs : ∀ b o, X.base.get? b = some o → X.s₀.heap.get? b = some o ∧ X.H₀ b = none
  bsz : X.base.objs.size ≤ X.s₀.heap.objs.size
  noex : ∀ b o, X.base.get? b = some o → b ∉ X.ex
  exfs : ∀ b ∈ X.ex, b ∉ X.fs
  funs : X.s₀.heap.FunFrames X.base X.outer
  frf : ∀ b ∈ X.fs, X.H₀ b = none
structure Inv (X : Cx) (pins : List (Addr × Obj)) (σ : List (Option V)) (H : Hp) (s : Shared) : Prop where
  ok : X.Ok
  os : s.os = X.s₀.os
  bare : AllBare s.gens
  base : Un X.fs X.ex X.H₀ H X.s₀.heap s.heap
  loc : ∃ m, s.heap.Ns X.env.locals m ∧ ∀ (i : Nat) (x : Str) (v : V), X.N[i]? = some x → σ[i]? = some (some v) → Vis X.env.scope x → ∃ u, RelV v u ∧ Look X.env s.heap m x u
  cell : ∀ x c, X.env.cells.lookup x = some c → ∃ v, s.heap.IsCell c v
  free : H X.env.locals = none
  freeC : ∀ x c, X.env.cells.lookup x = some c → H c = none
  pin : ∀ p ∈ X.pn ++ pins, s.heap.get? p.1 = some p.2 ∧ H p.1 = none ∧ p.1 ≠ X.env.locals ∧ p.1 ∉ X.fs ∧ ∀ v, p.2.data ≠ .cell v
  hok : HOk X.prog X.w H s.heap
  len : σ.length = X.N.length
section
variable {X : Cx} {pins : List (Addr × Obj)} {σ : List (Option V)} {H H' : Hp} {s : Shared} {h' : Heap}
theorem Cx.Ok.nofr (ok : X.Ok) {b : Addr} {o : Obj} (e : X.base.get? b = some o) : b ∉ X.fs := fun hb => by
  have := (ok.funs.mem hb).1
  rw [e] at this; cases this
theorem Inv.bs (I : Inv X pins σ H s) : ∀ b o, X.base.get? b = some o → s.heap.get? b = some o ∧ H b = none := fun b o e =>
  ⟨I.base.keep b o (I.ok.bs b o e).1 (I.ok.bs b o e).2 (I.ok.nofr e) (I.ok.noex b o e), I.base.free b o (I.ok.bs b o e).1 (I.ok.bs b o e).2 (I.ok.noex b o e)⟩
theorem Inv.bk (I : Inv X pins σ H s) : ∀ b o, X.base.get? b = some o → s.heap.get? b = some o := fun b o e => (I.bs b o e).1
theorem Inv.mod (I : Inv X pins σ H s) : Mod X.K X.mg X.base := I.ok.mod
theorem Inv.kIn (I : Inv X pins σ H s) : X.K.In s.heap := I.ok.mod.kin.keeps I.bk
theorem Inv.lt (I : Inv X pins σ H s) : X.env.locals < s.heap.objs.size := let ⟨_, hn, _⟩ := I.loc; hn.lt
theorem Inv.sz (I : Inv X pins σ H s) : X.s₀.heap.objs.size ≤ s.heap.objs.size := Nat.le_trans I.ok.above (Nat.le_of_lt I.lt)
theorem Inv.nofs (I : Inv X pins σ H s) {a : Addr} (h : s.heap.objs.size ≤ a) : a ∉ X.fs := fun hb => by
  obtain ⟨_, o, ho, _⟩ := I.ok.funs.mem hb
  exact absurd (Nat.lt_of_lt_of_le (Heap.lt_size ho) (Nat.le_trans I.sz h)) (Nat.lt_irrefl _)
theorem Inv.cne (I : Inv X pins σ H s) : ∀ x c, X.env.cells.lookup x = some c → c ≠ X.env.locals := fun x c e z => by
  obtain ⟨v, o, ho, hd⟩ := I.cell x c e
  obtain ⟨m, ⟨o', es, ep, ho', hd', _⟩, _⟩ := I.loc
  rw [z, ho'] at ho; cases ho; rw [hd'] at hd; cases hd
theorem Inv.funs (I : Inv X pins σ H s) : s.heap.FunFrames X.base X.outer := by
  have all : ∀ (l : List Env), (∀ b ∈ frs l, b ∈ X.fs) → X.s₀.heap.FunFrames X.base l → s.heap.FunFrames X.base l := by
    intro l
    induction l with
    | nil => intro _ _; trivial
    | cons env r ih =>
      intro hs hl
      obtain ⟨hk, ⟨L, o, hf, hn, ho, hd⟩, hr⟩ := hl
      have hL : L ∈ X.fs := hs L (by unfold frs; rw [List.filterMap_cons, hf]; exact List.mem_cons_self)
      obtain ⟨sl, e⟩ := I.base.slot L o ho (I.ok.frf L hL) hL fun z => I.ok.exfs L z hL
      exact ⟨hk, ⟨L, _, hf, hn, e, hd⟩, ih (fun b hb => hs b (by unfold frs; rw [List.filterMap_cons, hf]; exact List.mem_cons_of_mem _ hb)) hr⟩
  exact all X.outer (fun _ hb => hb) I.ok.funs
theorem Inv.stack (I : Inv X pins σ H s) : s.heap.FunFrames X.base X.stack := by
  rcases I.ok.stk with e | ⟨e, hf⟩
  · rw [e]; exact I.funs
  · rw [e]
    obtain ⟨m, hn, _⟩ := I.loc
    refine .cons (by rw [I.ok.kind]; decide) hf hn ?_ I.funs
    exact Heap.get?_none_of_le (Nat.le_trans I.ok.bsz I.ok.above)
theorem Inv.stkSub (I : Inv X pins σ H s) : ∀ b ∈ frs X.stack, b ∈ X.env.locals :: X.fs := fun b hb => by
  rcases I.ok.stk with e | ⟨e, hf⟩
  · rw [e] at hb; exact List.mem_cons_of_mem _ hb
  · rw [e] at hb
    unfold frs at hb
    rw [List.filterMap_cons, hf] at hb
    exact hb
theorem Inv.stkFree (I : Inv X pins σ H s) : ∀ b ∈ frs X.stack, H b = none := fun b hb => by
  rcases List.mem_cons.mp (I.stkSub b hb) with e | hb
  · rw [e]; exact I.free
  · obtain ⟨_, o, ho, _⟩ := I.ok.funs.mem hb
    exact I.base.free b o ho (I.ok.frf b hb) fun z => I.ok.exfs b z hb
theorem Inv.step {g' : Array GenState} {t' : Nat} {d' : Drawn} {ch : List Addr} (I : Inv X pins σ H s)
    (hch : ∀ b ∈ ch, (b ∈ X.ex ∨ X.s₀.heap.objs.size ≤ b) ∧ b ≠ X.env.locals ∧ (∀ x c, X.env.cells.lookup x = some c → c ≠ b) ∧ ∀ p ∈ X.pn ++ pins, p.1 ≠ b)
    (keep : ∀ b o, b ≠ X.env.locals → b ∉ X.fs → b ∉ ch → s.heap.get? b = some o → H b = none → h'.get? b = some o)
    (slot : ∀ b o, b ≠ X.env.locals → b ∈ X.fs → b ∉ ch → s.heap.get? b = some o → H b = none → ∃ sl, h'.get? b = some { o with slots := sl }) (free : ∀ b o, b ∉ ch → s.heap.get? b = some o → H b = none → H' b = none)
    (there : ∀ b o, b ∉ ch → s.heap.get? b = some o → ∃ o', h'.get? b = some o')
    (tups : ∀ b xs, H b = some (.tup xs) → H' b = some (.tup xs)) (frzs : ∀ b o u, H b = some (.frz o u) → H' b = some (.frz o u)) (tbls : ∀ b ps, H b = some (.tbl ps) → ∃ more, H' b = some (.tbl (ps ++ more)))
    (ns : ∀ m, s.heap.Ns X.env.locals m → h'.Ns X.env.locals m) (hok : HOk X.prog X.w H' h') (hg : AllBare g') :
    Inv X pins σ H' { s with heap := h', gens := g', drawn := d', toks := t' } := by
  have neL : ∀ b o, X.s₀.heap.get? b = some o → b ≠ X.env.locals := fun b o e => Nat.ne_of_lt (Nat.lt_of_lt_of_le (Heap.lt_size e) I.ok.above)
  have neC : ∀ b o, X.s₀.heap.get? b = some o → b ∉ X.ex → b ∉ ch := fun b o e hx hb => by
    rcases (hch b hb).1 with z | z
    · exact hx z
    · exact absurd (Nat.lt_of_lt_of_le (Heap.lt_size e) z) (Nat.lt_irrefl _)
  have cellK : ∀ x c, X.env.cells.lookup x = some c → ∀ v, s.heap.IsCell c v → h'.IsCell c v := fun x c e v ⟨o, ho, hd⟩ => by
    have nch : c ∉ ch := fun z => (hch c z).2.2.1 x c e rfl
    by_cases hc : c ∈ X.fs
    · obtain ⟨sl, q⟩ := slot c o (I.cne x c e) hc nch ho (I.freeC x c e)
      exact ⟨_, q, hd⟩
    · exact ⟨o, keep c o (I.cne x c e) hc nch ho (I.freeC x c e), hd⟩
  refine ⟨I.ok, I.os, hg, ⟨fun b o e n hb hx => ?_, fun b o e n hb hx => ?_, fun b o e n hx => ?_, fun b o e hx => ?_, fun b xs e => tups b xs (I.base.tups b xs e), fun b o xs e => frzs b o xs (I.base.frzs b o xs e), fun b ps e => ?_⟩, ?_, fun x c e => ?_, ?_, fun x c e => ?_, fun p hp => ?_, hok, I.len⟩
  · exact keep b o (neL b o e) hb (neC b o e hx) (I.base.keep b o e n hb hx) (I.base.free b o e n hx)
  · obtain ⟨sl, e1⟩ := I.base.slot b o e n hb hx
    obtain ⟨sl', e2⟩ := slot b _ (neL b o e) hb (neC b o e hx) e1 (I.base.free b o e n hx)
    exact ⟨sl', e2⟩
  · obtain ⟨o', e1⟩ := I.base.there b o e hx
    exact free b o' (neC b o e hx) e1 (I.base.free b o e n hx)
  · obtain ⟨o', e1⟩ := I.base.there b o e hx
    exact there b o' (neC b o e hx) e1
  · obtain ⟨m1, e1⟩ := I.base.tbls b ps e
    obtain ⟨m2, e2⟩ := tbls b _ e1
    exact ⟨m1 ++ m2, by rw [e2, Array.append_assoc]⟩
  · obtain ⟨m, hn, hl⟩ := I.loc
    refine ⟨m, ns m hn, fun i x v e1 e2 e3 => ?_⟩
    obtain ⟨u, r, l⟩ := hl i x v e1 e2 e3
    refine ⟨u, r, ?_⟩
    rcases l with l | ⟨k, c, e, z⟩
    · exact .inl l
    · exact .inr ⟨k, c, e, cellK x c e _ z⟩
  · obtain ⟨v, z⟩ := I.cell x c e
    exact ⟨v, cellK x c e v z⟩
  · obtain ⟨m, ⟨o, _, _, ho, _⟩, _⟩ := I.loc
    exact free _ o (fun z => (hch _ z).2.1 rfl) ho I.free
  · obtain ⟨v, o, ho, hd⟩ := I.cell x c e
    exact free c o (fun z => (hch c z).2.2.1 x c e rfl) ho (I.freeC x c e)
  · obtain ⟨e, n, ne, nf, d⟩ := I.pin p hp
    have nch : p.1 ∉ ch := fun z => (hch p.1 z).2.2.2 p hp rfl
    exact ⟨keep p.1 p.2 ne nf nch e n, free p.1 p.2 nch e n, ne, nf, d⟩
theorem Inv.un {t' : Nat} (I : Inv X pins σ H s) (u : Un X.fs [] H H' s.heap h') (hok : HOk X.prog X.w H' h') : Inv X pins σ H' { s with heap := h', toks := t' } := by
  obtain ⟨m, ⟨o, es, ep, ho, r⟩, _⟩ := id I.loc
  obtain ⟨sl, hL⟩ := u.any ho I.free (by simp)
  exact I.step (g' := s.gens) (d' := s.drawn) (ch := []) (fun _ z => nomatch z) (fun b o _ hb _ e n => u.keep b o e n hb (by simp)) (fun b o _ hb _ e n => u.slot b o e n hb (by simp)) (fun b o _ e n => u.free b o e n (by simp)) (fun b o _ e => u.there b o e (by simp)) u.tups u.frzs u.tbls (fun m' hm => by
    obtain ⟨o', es', ep', ho', r'⟩ := hm
    rw [ho] at ho'; cases ho'
    exact ⟨_, es', ep', hL, r'⟩) hok I.bare
theorem Inv.call {g' : Array GenState} {t' : Nat} {d' : Drawn} {ch : List Addr} (I : Inv X pins σ H s) (u : Un (frs X.stack) ch H H' s.heap h') (hok : HOk X.prog X.w H' h') (hg : AllBare g')
    (hch : ∀ b ∈ ch, (b ∈ X.ex ∨ X.s₀.heap.objs.size ≤ b) ∧ b ≠ X.env.locals ∧ (∀ x c, X.env.cells.lookup x = some c → c ≠ b) ∧ ∀ p ∈ X.pn ++ pins, p.1 ≠ b) :
    Inv X pins σ H' { s with heap := h', gens := g', drawn := d', toks := t' } := by
  obtain ⟨m, ⟨o, es, ep, ho, r⟩, _⟩ := id I.loc
  obtain ⟨sl, hL⟩ := u.any ho I.free fun z => (hch _ z).2.1 rfl
  exact I.step (ch := ch) hch (fun b o hL hb hc e n => u.keep b o e n (fun z => (List.mem_cons.mp (I.stkSub b z)).elim hL hb) hc) (fun b o _ _ hc e n => u.any e n hc) (fun b o hc e n => u.free b o e n hc) (fun b o hc e => u.there b o e hc) u.tups u.frzs u.tbls (fun m' hm => by
    obtain ⟨o', es', ep', ho', r'⟩ := hm
    rw [ho] at ho'; cases ho'
    exact ⟨_, es', ep', hL, r'⟩) hok hg
theorem Inv.turned {t' : Nat} {it : Addr} (I : Inv X pins σ H s) (k : ∀ b o, b ≠ it → s.heap.get? b = some o → h'.get? b = some o) (hn : H it = none) (hL : it ≠ X.env.locals)
    (h1 : it ∈ X.ex ∨ X.s₀.heap.objs.size ≤ it) (h2 : ∀ x c, X.env.cells.lookup x = some c → c ≠ it) (h3 : ∀ p ∈ X.pn ++ pins, p.1 ≠ it) : Inv X pins σ H { s with heap := h', toks := t' } := by
  have nit : ∀ b u, H b = some u → b ≠ it := fun b u e z => by rw [z, hn] at e; cases e
  refine I.step (g' := s.gens) (d' := s.drawn) (ch := [it]) (fun b hb => ?_) (fun b o _ _ hc e _ => k b o (fun z => hc (by simp [z])) e) (fun b o _ _ hc e _ => ⟨o.slots, k b o (fun z => hc (by simp [z])) e⟩) (fun _ _ _ _ n => n)
    (fun b o hc e => ⟨o, k b o (fun z => hc (by simp [z])) e⟩) (fun _ _ e => e) (fun _ _ _ e => e) (fun b ps e => ⟨#[], by rw [e]; simp⟩) (fun m hm => ?_) (fun b u e => ?_) I.bare
  · have e : b = it := by simpa using hb
    subst e
    exact ⟨h1, hL, h2, h3⟩
  · obtain ⟨o, es, ep, ho, r⟩ := hm
    exact ⟨o, es, ep, k _ o (Ne.symm hL) ho, r⟩
  · refine (I.hok b u e).stay (fun c v hc q => k c v ?_ q) (fun _ q => q) fun _ _ q => q
    rcases hc with z | z
    · rw [z]; exact nit b u e
    · exact nit c _ z
theorem Inv.tok (I : Inv X pins σ H s) (t : Nat) : Inv X pins σ H { s with toks := t } := I.un (h' := s.heap) (t' := t) Un.refl I.hok
theorem Inv.kept {t' : Nat} (I : Inv X pins σ H s) (k : ∀ b u, s.heap.get? b = some u → h'.get? b = some u) : Inv X pins σ H { s with heap := h', toks := t' } := I.un (Un.kept k) (I.hok.kept k)
theorem Inv.laid {a : Addr} {o : HO} {t' : Nat} (I : Inv X pins σ H s) (k : ∀ b u, s.heap.get? b = some u → h'.get? b = some u) (hp : s.heap.objs.size ≤ a) (new : ObjOk X.prog X.w (upd H a o) h' a o) :
    Inv X pins σ (upd H a o) { s with heap := h', toks := t' } := I.un (Un.laid k hp (I.hok.fresh hp)) (I.hok.laid k hp new)
theorem Inv.write {x e : Addr} {o : HO} {t' : Nat} (I : Inv X pins σ H s) (mu : Mut (H x)) (he : e = x ∨ H e = some (.own x)) (k : ∀ b u, b ≠ e → s.heap.get? b = some u → h'.get? b = some u) (heo : ∃ u, h'.get? e = some u)
    (new : ObjOk X.prog X.w (upd H x o) h' x o) : Inv X pins σ (upd H x o) { s with heap := h', toks := t' } := I.un (Un.write mu he k heo) (I.hok.write mu he k heo new)
theorem Inv.pins_of {pins' : List (Addr × Obj)} (I : Inv X pins σ H s) (h : ∀ p ∈ pins', s.heap.get? p.1 = some p.2 ∧ H p.1 = none ∧ p.1 ≠ X.env.locals ∧ p.1 ∉ X.fs ∧ ∀ v, p.2.data ≠ .cell v) : Inv X pins' σ H s :=
  ⟨I.ok, I.os, I.bare, I.base, I.loc, I.cell, I.free, I.freeC, fun p hp => (List.mem_append.mp hp).elim (fun z => I.pin p (List.mem_append_left _ z)) (h p), I.hok, I.len⟩
theorem nodup_ix {N : List Str} (hN : N.Nodup) {i j : Nat} {x : Str} (a : N[i]? = some x) (b : N[j]? = some x) : i = j := by
  obtain ⟨h1, e1⟩ := List.getElem?_eq_some_iff.mp a
  obtain ⟨h2, e2⟩ := List.getElem?_eq_some_iff.mp b
  exact (List.getElem_inj hN).mp (e1.trans e2.symm)
theorem store_ok2 {M : Model} {A : Around} {E : Value → Shared → Prop} {i : Nat} {x : Str} {v : V} {u : Value} {Q : Unit → Shared → Prop} (I : Inv X pins σ H s) (hN : X.N.Nodup) (hi : X.N[i]? = some x) (hx : Loc X.env.scope x) (r : RelV v u)
    (h : ∀ s', Inv X pins (σ.set i (some v)) H s' → (∃ a, Heap.SameBut a s.heap s'.heap ∧ (a = X.env.locals ∨ X.env.cells.lookup x = some a)) → Q () s') (hf : X.fn x = true ∨ X.env.scope.names.lookup x = some .local := by first | exact .inl rfl | exact .inr rfl | assumption) : wpAny M A (storeName X.env x u) Q E s := by
  obtain ⟨m, hn, hl⟩ := id I.loc
  have hcls : (X.env.scope.kind == .class || (X.env.scope.kind == .module && X.env.locals != X.env.globals)) = false := by rw [I.ok.kind]; rfl
  have hiσ : i < σ.length := by rw [I.len]; exact (List.getElem?_eq_some_iff.mp hi).1
  have cne := I.cne
  have tracked : ∀ {a : Addr} {h' : Heap}, (∃ o, s.heap.get? a = some o ∧ H a = none) → Heap.SameBut a s.heap h' → HOk X.prog X.w H h' := fun {a h'} ha hs b ob e => by
    obtain ⟨_, _, hfree⟩ := ha
    refine (I.hok b ob e).stay (fun c w' hc q => (hs.2 c ?_).trans q) (fun _ q => q) fun _ _ q => q
    rintro rfl
    rcases hc with rfl | hc
    · rw [hfree] at e; cases e
    · rw [hfree] at hc; cases hc
  rcases hx with hk | hk
  · refine wpAny_storeName_local hk hn (fun h' hn' hs => ?_) hcls
    obtain ⟨oL, _, _, hoL, _⟩ := id hn
    refine h _ ⟨I.ok, I.os, I.bare, ⟨fun b o e n hb hx => ?_, fun b o e n hb hx => ?_, I.base.free, fun b o e hx => ?_, I.base.tups, I.base.frzs, I.base.tbls⟩, ⟨_, hn', fun j y v' e1 e2 e3 => ?_⟩, fun y c e => ?_, I.free, I.freeC, fun p hp => ?_, tracked ⟨oL, hoL, I.free⟩ hs, by simpa using I.len⟩ ⟨_, hs, .inl rfl⟩
    · exact (hs.2 b (Nat.ne_of_lt (Nat.lt_of_lt_of_le (Heap.lt_size e) I.ok.above))).trans (I.base.keep b o e n hb hx)
    · obtain ⟨sl, e1⟩ := I.base.slot b o e n hb hx
      exact ⟨sl, (hs.2 b (Nat.ne_of_lt (Nat.lt_of_lt_of_le (Heap.lt_size e) I.ok.above))).trans e1⟩
    · obtain ⟨o', e1⟩ := I.base.there b o e hx
      exact ⟨o', (hs.2 b (Nat.ne_of_lt (Nat.lt_of_lt_of_le (Heap.lt_size e) I.ok.above))).trans e1⟩
    · by_cases hj : j = i
      · subst hj
        rw [hi] at e1; cases e1
        rw [List.getElem?_set_self hiσ] at e2
        cases e2
        exact ⟨u, r, .inl ⟨hk, by simp⟩⟩
      · rw [List.getElem?_set_ne (Ne.symm hj)] at e2
        obtain ⟨u', r', q⟩ := hl j y v' e1 e2 e3
        refine ⟨u', r', ?_⟩
        rcases q with ⟨k, e⟩ | ⟨k, c, e, z⟩
        · refine .inl ⟨k, ?_⟩
          have : y ≠ x := fun e => hj (nodup_ix hN e1 (e ▸ hi))
          simp [this, e]
        · exact .inr ⟨k, c, e, z.sameBut hs (cne y c e)⟩
    · obtain ⟨w', z⟩ := I.cell y c e
      exact ⟨w', z.sameBut hs (cne y c e)⟩
    · obtain ⟨e, n, ne, nf, d⟩ := I.pin p hp
      exact ⟨(hs.2 p.1 ne).trans e, n, ne, nf, d⟩
  · have hfn : X.fn x = true := by
      rcases hf with z | z
      · exact z
      · rw [z] at hk; cases hk
    obtain ⟨c, hc⟩ := I.ok.has x (.inl hk)
    obtain ⟨w', z⟩ := I.cell x c hc
    refine wpAny_storeName_cell I.ok.kind hk hc z (fun h' hc' hs => ?_)
    obtain ⟨oc, hoc, hocd⟩ := id z
    refine h { s with heap := h' } ⟨I.ok, I.os, I.bare, ⟨fun b o e n hb hx => ?_, fun b o e n hb hx => ?_, I.base.free, fun b o e hx => ?_, I.base.tups, I.base.frzs, I.base.tbls⟩, ⟨m, hn.sameBut hs (Ne.symm (cne x c hc)), fun j y v' e1 e2 e3 => ?_⟩, fun y c' e => ?_, I.free, I.freeC, fun p hp => ?_, tracked ⟨oc, hoc, I.freeC x c hc⟩ hs, by simpa using I.len⟩ ⟨c, hs, .inr hc⟩
    · exact (hs.2 b (Nat.ne_of_lt (Nat.lt_of_lt_of_le (Heap.lt_size e) (I.ok.cab x c hfn hc)))).trans (I.base.keep b o e n hb hx)
    · obtain ⟨sl, e1⟩ := I.base.slot b o e n hb hx
      exact ⟨sl, (hs.2 b (Nat.ne_of_lt (Nat.lt_of_lt_of_le (Heap.lt_size e) (I.ok.cab x c hfn hc)))).trans e1⟩
    · obtain ⟨o', e1⟩ := I.base.there b o e hx
      exact ⟨o', (hs.2 b (Nat.ne_of_lt (Nat.lt_of_lt_of_le (Heap.lt_size e) (I.ok.cab x c hfn hc)))).trans e1⟩
    · by_cases hj : j = i
      · subst hj
        rw [hi] at e1; cases e1
        rw [List.getElem?_set_self hiσ] at e2
        cases e2
        exact ⟨u, r, .inr ⟨.inl hk, c, hc, hc'⟩⟩
      · rw [List.getElem?_set_ne (Ne.symm hj)] at e2
        obtain ⟨u', r', q⟩ := hl j y v' e1 e2 e3
        refine ⟨u', r', ?_⟩
        rcases q with q | ⟨k, c', e, z'⟩
        · exact .inl q
        · refine .inr ⟨k, c', e, z'.sameBut hs ?_⟩
          rintro rfl
          exact hj (nodup_ix hN e1 (I.ok.inj _ _ _ e hc ▸ hi))
    · by_cases hcc : c' = c
      · subst hcc; exact ⟨_, hc'⟩
      · obtain ⟨w2, z2⟩ := I.cell y c' e
        exact ⟨w2, z2.sameBut hs hcc⟩
    · obtain ⟨e, n, ne, nf, d⟩ := I.pin p hp
      refine ⟨(hs.2 p.1 ?_).trans e, n, ne, nf, d⟩
      intro q
      rw [q, hoc] at e
      have q' : oc = p.2 := Option.some.inj e
      exact d w' (by rw [← q']; exact hocd)
theorem store_ok {M : Model} {A : Around} {E : Value → Shared → Prop} {i : Nat} {x : Str} {v : V} {u : Value} {Q : Unit → Shared → Prop} (I : Inv X pins σ H s) (hN : X.N.Nodup) (hi : X.N[i]? = some x) (hx : Loc X.env.scope x) (r : RelV v u)
    (h : ∀ s', Inv X pins (σ.set i (some v)) H s' → Q () s') (hf : X.fn x = true ∨ X.env.scope.names.lookup x = some .local := by first | exact .inl rfl | exact .inr rfl | assumption) : wpAny M A (storeName X.env x u) Q E s :=
  store_ok2 I hN hi hx r (fun s' I' _ => h s' I') hf
theorem Inv.call' {s' : Shared} {ch : List Addr} (I : Inv X pins σ H s) (ho : s'.os = s.os) (u : Un (frs X.stack) ch H H' s.heap s'.heap) (hok : HOk X.prog X.w H' s'.heap) (hg : AllBare s'.gens)
    (hch : ∀ b ∈ ch, (b ∈ X.ex ∨ X.s₀.heap.objs.size ≤ b) ∧ b ≠ X.env.locals ∧ (∀ x c, X.env.cells.lookup x = some c → c ≠ b) ∧ ∀ p ∈ X.pn ++ pins, p.1 ≠ b) : Inv X pins σ H' s' := by
  obtain ⟨h', g', d', t', o'⟩ := s'
  have e : o' = s.os := ho
  subst e
  exact I.call (g' := g') (t' := t') (d' := d') u hok hg hch
end
abbrev XK := Value → Option Addr → Hp → Prop
abbrev St := List (Option V)
abbrev VK := V → Hp → Prop
abbrev TE := St → Hp → VK → Prop
abbrev TT := St → Hp → (Bool → Hp → Prop) → Prop
abbrev TA := St → Hp → (List V → Hp → Prop) → Prop
structure Ends where
  nx : St → Hp → Prop
  rt : VK
  bk : St → Hp → Prop := fun _ _ => False
  ct : St → Hp → Prop := fun _ _ => False
abbrev TS := Ends → St → Hp → Prop
def EP (X : Cx) (pins : List (Addr × Obj)) (σ : St) (Q : VK) (u : Value) (s' : Shared) : Prop := ∃ v H', Inv X pins σ H' s' ∧ RelV v u ∧ Q v H'
def TP (X : Cx) (pins : List (Addr × Obj)) (σ : St) (Q : Bool → Hp → Prop) (b : Bool) (s' : Shared) : Prop := ∃ H', Inv X pins σ H' s' ∧ Q b H'
def AP (X : Cx) (pins : List (Addr × Obj)) (σ : St) (Q : List V → Hp → Prop) (us : List Value) (s' : Shared) : Prop := ∃ vs H', Inv X pins σ H' s' ∧ Vals vs us ∧ Q vs H'
def SP (X : Cx) (pins : List (Addr × Obj)) (D : Ends) (f : Flow) (s' : Shared) : Prop :=
  match f with
  | .next => ∃ σ' H', Inv X pins σ' H' s' ∧ D.nx σ' H'
  | .brk => ∃ σ' H', Inv X pins σ' H' s' ∧ D.bk σ' H'
  | .cont => ∃ σ' H', Inv X pins σ' H' s' ∧ D.ct σ' H'
  | .ret u => ∃ v σ' H', Inv X pins σ' H' s' ∧ RelV v u ∧ D.rt v H'
def PE (X : Cx) (e : Expr) (t : TE) : Prop :=
  ∀ (pins : List (Addr × Obj)) (s : Shared) (σ : St) (H : Hp) (Q : VK), Inv X pins σ H s → t σ H Q → wpAny (model X.prog X.w) X.A (eval e X.env) (EP X pins σ Q) X.xe s
def PT (X : Cx) (e : Expr) (t : TT) : Prop :=
  ∀ (pins : List (Addr × Obj)) (s : Shared) (σ : St) (H : Hp) (Q : Bool → Hp → Prop), Inv X pins σ H s → t σ H Q → wpAny (model X.prog X.w) X.A (isTrue e X.env (eval e X.env)) (TP X pins σ Q) X.xe s
def PW (X : Cx) (e : Expr) (t : TT) : Prop :=
  ∀ (whole : Sem Value) (pins : List (Addr × Obj)) (s : Shared) (σ : St) (H : Hp) (Q : Bool → Hp → Prop), Inv X pins σ H s → t σ H Q → wpAny (model X.prog X.w) X.A (isTrue e X.env whole) (TP X pins σ Q) X.xe s
def PA (X : Cx) (es : List Expr) (t : TA) : Prop :=
  ∀ (pos : Pos) (pins : List (Addr × Obj)) (s : Shared) (σ : St) (H : Hp) (Q : List V → Hp → Prop), Inv X pins σ H s → t σ H Q → wpAny (model X.prog X.w) X.A (spliced (backTo pos (starEach es X.env))) (AP X pins σ Q) X.xe s
def PS (X : Cx) (st : Stmt) (t : TS) : Prop :=
  ∀ (pins : List (Addr × Obj)) (s : Shared) (σ : St) (H : Hp) (D : Ends), Inv X pins σ H s → t D σ H → wpAny (model X.prog X.w) X.A (exec st X.env) (SP X pins D) X.xe s
def PSs (X : Cx) (st : List Stmt) (t : TS) : Prop :=
  ∀ (pins : List (Addr × Obj)) (s : Shared) (σ : St) (H : Hp) (D : Ends), Inv X pins σ H s → t D σ H → wpAny (model X.prog X.w) X.A (execs st X.env) (SP X pins D) X.xe s
theorem thn {α : Type} {t : Sem α} {Q Q' : α → Shared → Prop} {M : Model} {A : Around} {E : Value → Shared → Prop} {s : Shared} (h : wpAny M A t Q E s) (hQ : ∀ a s, Q a s → Q' a s) : wpAny M A t Q' E s := wpAny_mono h hQ fun _ _ x => x
end L2
namespace L2
open PySem PySem.Spec PyProof.Rows
section
variable {X : Cx}
def tVar (i : Nat) : TE := fun σ H Q => ∃ v, σ[i]? = some (some v) ∧ Q v H
def tC (v : V) : TE := fun _ H Q => Q v H
theorem pe_var {i : Nat} {x : Str} {pos : Pos} (hN : X.N[i]? = some x) (hv : Vis X.env.scope x) (hd : (x == ("__debug__" : Str)) = false := by decide) (hcd : (x == ("__classdict__" : Str)) = false := by decide) : PE X (.Name x pos) (tVar i) := by
  intro pins s σ H Q I h
  obtain ⟨v, e, h⟩ := h
  obtain ⟨m, hn, hl⟩ := I.loc
  obtain ⟨u, r, l⟩ := hl i x v hN e hv
  have fin : EP X pins σ Q u s := ⟨v, H, I, r, h⟩
  rcases l with ⟨hk, hm⟩ | ⟨hk, c, hc, hcell⟩
  · exact wpAny_Name (wpAny_loadName_local I.ok.kind hk hn hm fin) hd
  · rcases hk with hk | hk
    · exact wpAny_Name (wpAny_loadName_cell I.ok.kind hk hc hcell fin) hd
    · exact wpAny_Name (wpAny_loadName_free I.ok.kind hk hc hcell fin hcd) hd
theorem pe_int {i j pos} : PE X (.Constant (.int i) j pos) (tC (.int i)) := fun _ _ _ H _ I h => wpAny_Constant_int ⟨.int i, H, I.tok _, ⟨_, rfl⟩, h⟩
theorem pe_bl {b j pos} : PE X (.Constant (.bool b) j pos) (tC (.bl b)) := fun _ _ _ H _ I h => Constant_bool ⟨.bl b, H, I, rfl, h⟩
theorem pe_non {j pos} : PE X (.Constant .none j pos) (tC .non) := fun _ _ _ H _ I h => Constant_none ⟨.non, H, I, rfl, h⟩
theorem pe_str {x j pos} : PE X (.Constant (.str x) j pos) (tC (.str x)) := fun _ _ _ H _ I h => Calls.Constant_str ⟨.str x, H, I.tok _, ⟨_, rfl⟩, h⟩
def Gl (X : Cx) (x : Str) : Prop := X.env.kindOf x = some .globalImplicit
theorem ld_glob {E : Value → Shared → Prop} {pins : List (Addr × Obj)} {s : Shared} {σ : St} {H : Hp} {x : Str} {u : Value} {pos : Pos} {Q : Value → Shared → Prop} (I : Inv X pins σ H s) (hg : Gl X x) (hm : X.mg x = some u) (h : Q u s)
    (hd : (x == ("__debug__" : Str)) = false := by decide) : wpAny (model X.prog X.w) X.A (eval (.Name x pos) X.env) Q E s :=
  Calls.Name_function_global I.ok.kind hg (Calls.loadGlobal_global (by rw [I.ok.glob]; exact I.mod.glob.keeps I.bk) hm h) hd
theorem ld_blt {E : Value → Shared → Prop} {pins : List (Addr × Obj)} {s : Shared} {σ : St} {H : Hp} {x : Str} {u : Value} {pos : Pos} {Q : Value → Shared → Prop} (I : Inv X pins σ H s) (hg : Gl X x) (hm : X.mg x = none) (hv : bootBuiltins x = some u) (h : Q u s)
    (hn : x ≠ "__name__" := by decide) (hd : (x == ("__debug__" : Str)) = false := by decide) : wpAny (model X.prog X.w) X.A (eval (.Name x pos) X.env) Q E s := by
  obtain ⟨mb, h1, h2⟩ := I.mod.blt
  exact Calls.Name_function_global I.ok.kind hg (Calls.loadGlobal_builtin (by rw [I.ok.glob]; exact I.mod.glob.keeps I.bk) hm (by rw [I.ok.blt]; exact h1.keeps I.bk) ((h2 x hn).trans hv) h) hd
theorem pe_glob {x : Str} {v : V} {u : Value} {pos : Pos} (hg : Gl X x) (hm : X.mg x = some u) (r : RelV v u) (hd : (x == ("__debug__" : Str)) = false := by decide) : PE X (.Name x pos) (tC v) :=
  fun _ _ _ H _ I h => ld_glob I hg hm ⟨v, H, I, r, h⟩ hd
theorem pe_bltn {x : Str} {v : V} {u : Value} {pos : Pos} (hg : Gl X x) (hm : X.mg x = none) (hv : bootBuiltins x = some u) (r : RelV v u) (hn : x ≠ "__name__" := by decide) (hd : (x == ("__debug__" : Str)) = false := by decide) : PE X (.Name x pos) (tC v) :=
  fun _ _ _ H _ I h => ld_blt I hg hm hv ⟨v, H, I, r, h⟩ hn hd
variable {a b : Expr} {ta tb : TE} {pos : Pos}
def tB (t : TE) : TT := fun σ H Q => t σ H fun x H1 => ∃ c, x = .bl c ∧ Q c H1
theorem pt_val {e : Expr} {t : TE} (h : PE X e t) (he : ∀ whole, isTrue e X.env whole = (do let v ← whole; standAt e.pos; holding [v] (truthy v)) := by intro _; rfl) : PT X e (tB t) := by
  intro pins s σ H Q I hw
  refine isTrue_plain (thn (h pins s σ H _ I hw) fun v s1 ⟨x, H1, I1, r1, q1⟩ => ?_) (he _)
  obtain ⟨d, rfl, q⟩ := q1
  cases r1
  exact wpAny_truthy_bool ⟨H1, I1, q⟩
variable {tA tB' : TT} {rest : List Expr}
def tOr (t u : TT) : TT := fun σ H Q => t σ H fun c H1 => if c = true then Q true H1 else u σ H1 Q
def tNot (t : TT) : TT := fun σ H Q => t σ H fun c H1 => Q (!c) H1
theorem pw_or1 (ha : PT X a tA) : PW X (.BoolOp .Or [a] pos) tA := by
  intro wh pins s σ H Q I h
  refine isTrue_or (thn (ha pins s σ H Q I h) fun c s1 e => ?_)
  cases c with
  | false => exact isTrue_or_nil e
  | true => exact e
theorem pw_or (ha : PT X a tA) (hb : PW X (.BoolOp .Or (b :: rest) pos) tB') : PW X (.BoolOp .Or (a :: b :: rest) pos) (tOr tA tB') := by
  intro wh pins s σ H Q I h
  refine isTrue_or (thn (ha pins s σ H _ I h) fun c s1 ⟨H1, I1, q1⟩ => ?_)
  cases c with
  | true => exact ⟨H1, I1, q1⟩
  | false => exact hb wh pins s1 σ H1 Q I1 q1
theorem pt_not (ha : PT X a tA) : PT X (.UnaryOp .Not a pos) (tNot tA) := by
  intro pins s σ H Q I h
  exact isTrue_not (ha pins s σ H (fun c H1 => Q (!c) H1) I h)
def tAndV (ta tb : TE) : TE := fun σ H Q => ta σ H fun x H1 => ∃ c, x = .bl c ∧ if c = true then tb σ H1 Q else Q (.bl false) H1
def tNotV (ta : TE) : TE := fun σ H Q => ta σ H fun x H1 => ∃ c, x = .bl c ∧ Q (.bl (!c)) H1
theorem pe_one {op} {t : TE} (h : PE X a t) : PE X (.BoolOp op [a] pos) t := fun pins s σ H Q I hw => BoolOp_one (h pins s σ H Q I hw)
theorem pe_and (ha : PE X a ta) (hb : PE X (.BoolOp .And (b :: rest) pos) tb) : PE X (.BoolOp .And (a :: b :: rest) pos) (tAndV ta tb) := by
  intro pins s σ H Q I h
  refine BoolOp_and (thn (ha pins s σ H _ I h) fun v s1 ⟨x, H1, I1, r1, q1⟩ => ?_)
  obtain ⟨c, rfl, q1⟩ := q1
  cases r1
  refine wpAny_truthy_bool ?_
  cases c with
  | true => exact hb pins s1 σ H1 Q I1 q1
  | false => exact ⟨.bl false, H1, I1, rfl, q1⟩
theorem pe_not (ha : PE X a ta) : PE X (.UnaryOp .Not a pos) (tNotV ta) := by
  intro pins s σ H Q I h
  refine UnaryOp_ (thn (ha pins s σ H _ I h) fun v s1 ⟨x, H1, I1, r1, q1⟩ => ?_)
  obtain ⟨c, rfl, q1⟩ := q1
  cases r1
  exact not_of (wpAny_truthy_bool ⟨.bl (!c), H1, I1, rfl, q1⟩)
end
end L2
namespace L2
open PySem PySem.Spec PyProof.Rows
def SqL (K : PySem.W.Frag) (H : Hp) (a : Addr) (xs : List V) : Prop :=
  Rd H a (.lst xs) ∨
    ∃ (o : Obj) (its : Array Value) (n : Nat), K.lookup a = some o ∧ o.cls = .type "list" ∧ o.dict = none ∧ o.data = .seq its n ∧ its.size ≤ sizeLine ∧ Vals xs its.toList
def SqT (K : PySem.W.Frag) (H : Hp) (a : Addr) (xs : List V) : Prop :=
  Rd H a (.tup xs) ∨
    ∃ (o : Obj) (its : Array Value) (n : Nat), K.lookup a = some o ∧ o.cls = .type "tuple" ∧ o.data = .seq its n ∧ its.size ≤ sizeLine ∧ Vals xs its.toList
def absV : Value → Option V
  | .none => some .non
  | .bool b => some (.bl b)
  | .int i _ => some (.int i)
  | .str x _ => some (.str x)
  | .bytes b _ => some (.byt b)
  | .float b _ => some (.flt b)
  | .ref a => some (.ref a)
  | .type n => some (.ty n)
  | _ => none
theorem RelV.abs {x : V} {u : Value} (r : RelV x u) : absV u = some x := by
  cases x with
  | non => cases r; rfl
  | bl _ => cases r; rfl
  | int _ => obtain ⟨t, rfl⟩ := r; rfl
  | str _ => obtain ⟨t, rfl⟩ := r; rfl
  | byt _ => obtain ⟨t, rfl⟩ := r; rfl
  | flt _ => obtain ⟨t, rfl⟩ := r; rfl
  | ref _ => cases r; rfl
  | ty _ => cases r; rfl
theorem RelV.inj {x y : V} {u : Value} (r : RelV x u) (q : RelV y u) : x = y := Option.some.inj (r.abs.symm.trans q.abs)
theorem Vals.inj : ∀ {xs ys : List V} {us : List Value}, Vals xs us → Vals ys us → xs = ys
  | _, _, _, .nil, .nil => rfl
  | _, _, _, .cons r t, .cons r' t' => by rw [r.inj r', Vals.inj t t']
section
variable {X : Cx} {pins : List (Addr × Obj)} {σ : St} {H : Hp} {s : Shared} {a : Addr} {xs ys : List V}
theorem SqL.of {K : PySem.W.Frag} (h : H a = some (.lst xs)) : SqL K H a xs := .inl (.inl h)
theorem SqT.of {K : PySem.W.Frag} (h : H a = some (.tup xs)) : SqT K H a xs := .inl (.inl h)
theorem Inv.list (I : Inv X pins σ H s) (h : SqL X.K H a xs) : ∃ its : List Value, Vals xs its ∧ PlainL s.heap a its.toArray ∧ xs.length ≤ sizeLine := by
  rcases h with h | ⟨o, its, n, hk, hc, hd, hs, hz, r⟩
  · obtain ⟨z, its, n, r, e⟩ := h.ok I.hok
    exact ⟨its, r, ⟨_, n, e, rfl, rfl, rfl⟩, z⟩
  · refine ⟨its.toList, r, ⟨o, n, I.kIn a o hk, hc, hd, by simpa using hs⟩, ?_⟩
    have e := r.length
    simp only [Array.length_toList] at e
    omega
theorem Inv.tuple (I : Inv X pins σ H s) (h : SqT X.K H a xs) : ∃ its : List Value, Vals xs its ∧ IsTup s.heap a its.toArray ∧ xs.length ≤ sizeLine := by
  rcases h with h | ⟨o, its, n, hk, hc, hs, hz, r⟩
  · obtain ⟨z, its, r, p⟩ := h.ok I.hok
    exact ⟨its, r, p, z⟩
  · refine ⟨its.toList, r, ⟨o, I.kIn a o hk, hc, n, by simpa using hs⟩, ?_⟩
    have e := r.length
    simp only [Array.length_toList] at e
    omega
theorem Inv.list_inj (I : Inv X pins σ H s) (h : SqL X.K H a xs) (h' : SqL X.K H a ys) : xs = ys := by
  obtain ⟨its, r, ⟨o, n, e, _, _, d⟩, _⟩ := I.list h
  obtain ⟨its', r', ⟨o', n', e', _, _, d'⟩, _⟩ := I.list h'
  rw [e] at e'; cases e'
  rw [d] at d'
  injection d' with d1 _
  have : its = its' := by simpa using congrArg Array.toList d1
  subst this
  exact r.inj r'
theorem Inv.tuple_inj (I : Inv X pins σ H s) (h : SqT X.K H a xs) (h' : SqT X.K H a ys) : xs = ys := by
  obtain ⟨its, r, ⟨o, e, _, n, d⟩, _⟩ := I.tuple h
  obtain ⟨its', r', ⟨o', e', _, n', d'⟩, _⟩ := I.tuple h'
  rw [e] at e'; cases e'
  rw [d] at d'
  injection d' with d1 _
  have : its = its' := by simpa using congrArg Array.toList d1
  subst this
  exact r.inj r'
end
section
variable {X : Cx} {pins : List (Addr × Obj)} {σ : St} {H : Hp} {s : Shared} {E : Value → Shared → Prop}
end
section
variable {X : Cx} {st : Stmt} {rest : List Stmt} {t u : TS} {e : Expr} {te : TE} {pos : Pos}
def tNext : TS := fun D σ H => D.nx σ H
def tSeq (t u : TS) : TS := fun D σ H => t { D with nx := u D } σ H
theorem pss_nil : PSs X [] tNext := fun _ _ σ H _ I h => wpAny_execs_nil ⟨σ, H, I, h⟩
theorem pss_cons (h1 : PS X st t) (h2 : PSs X rest u) : PSs X (st :: rest) (tSeq t u) := by
  intro pins s σ H D I h
  refine wpAny_execs_cons (thn (h1 pins s σ H { D with nx := u D } I h) fun f s1 q => ?_)
  cases f with
  | next =>
    obtain ⟨σ', H', I', q⟩ := q
    exact h2 pins s1 σ' H' D I' q
  | ret v => exact q
  | brk => exact q
  | cont => exact q
theorem pss_one (h1 : PS X st t) : PSs X [st] t := by
  intro pins s σ H D I h
  refine wpAny_execs_cons (thn (h1 pins s σ H D I h) fun f s1 q => ?_)
  cases f with
  | next => exact wpAny_execs_nil q
  | ret v => exact q
  | brk => exact q
  | cont => exact q
def tCont : TS := fun D σ H => D.ct σ H
theorem ps_continue : PS X (.Continue pos) tCont := fun _ _ σ H _ I h => wpAny_Continue ⟨σ, H, I, h⟩
theorem Inv.quiet {pins : List (Addr × Obj)} {σ : St} {H : Hp} {s : Shared} (I : Inv X pins σ H s) : interactive X.env = false := by simp [interactive, I.ok.kind]
def tDrop (te : TE) : TS := fun D σ H => te σ H fun _ H1 => D.nx σ H1
theorem ps_expr (he : PE X e te) (hs : swapsWith e none pos.line X.env = pure false := by rfl) : PS X (.Expr e pos) (tDrop te) := by
  intro pins s σ H D I h
  exact wpAny_Expr_any (thn (he pins s σ H _ I h) fun v s1 ⟨x, H1, I1, r1, q1⟩ => ⟨σ, H1, I1, q1⟩) I.quiet hs
def tRet (te : TE) : TS := fun D σ H => te σ H D.rt
theorem ps_ret (he : PE X e te) : PS X (.Return (some e) pos) (tRet te) := by
  intro pins s σ H D I h
  exact wpAny_Return_some (thn (he pins s σ H _ I h) fun v s1 ⟨x, H1, I1, r1, q1⟩ => ⟨x, σ, H1, I1, r1, q1⟩)
def tIfS (c : TT) (t u : TS) : TS := fun D σ H => c σ H fun b H1 => if b = true then t D σ H1 else u D σ H1
theorem ps_if {c : Expr} {a b : List Stmt} {tc : TT} (hc : PT X c tc) (ha : PSs X a t) (hb : PSs X b u) : PS X (.If c a b pos) (tIfS tc t u) := by
  intro pins s σ H D I h
  refine wpAny_If (thn (hc pins s σ H _ I h) fun d s1 ⟨H1, I1, q1⟩ => ?_)
  cases d with
  | true => exact ha pins s1 σ H1 D I1 q1
  | false => exact hb pins s1 σ H1 D I1 q1
end
abbrev TG := V → St → Hp → (St → Hp → Prop) → Prop
abbrev TGs := List V → St → Hp → (St → Hp → Prop) → Prop
def PG (X : Cx) (target : Expr) (t : TG) : Prop :=
  ∀ (pins : List (Addr × Obj)) (s : Shared) (σ : St) (H : Hp) (v : V) (u : Value) (Q : St → Hp → Prop), Inv X pins σ H s → RelV v u → t v σ H Q →
    wpAny (model X.prog X.w) X.A (assign target X.env u) (fun _ s' => ∃ σ' H', Inv X pins σ' H' s' ∧ Q σ' H') X.xe s
def PGs (X : Cx) (ts : List Expr) (t : TGs) : Prop :=
  ∀ (pins : List (Addr × Obj)) (s : Shared) (σ : St) (H : Hp) (vs : List V) (us : List Value) (Q : St → Hp → Prop), Inv X pins σ H s → Vals vs us → t vs σ H Q →
    wpAny (model X.prog X.w) X.A (assignInOrder ((assignEach ts X.env).map (·.2)) us) (fun _ s' => ∃ σ' H', Inv X pins σ' H' s' ∧ Q σ' H') X.xe s
abbrev TSet := V → V → V → Hp → (Hp → Prop) → Prop
def PSet (X : Cx) (t : TSet) : Prop :=
  ∀ (pins : List (Addr × Obj)) (s : Shared) (σ : St) (H : Hp) (o i v : V) (ov iv u : Value) (Q : Hp → Prop), Inv X pins σ H s → RelV o ov → RelV i iv → RelV v u → t o i v H Q →
    wpAny (model X.prog X.w) X.A (setItem ov iv u) (fun _ s' => ∃ H', Inv X pins σ H' s' ∧ Q H') X.xe s
section
variable {X : Cx} {pos : Pos}
def gName (i : Nat) : TG := fun v σ H Q => Q (σ.set i (some v)) H
theorem pg_name {i : Nat} {x : Str} (hN : X.N.Nodup) (hi : X.N[i]? = some x) (hx : Loc X.env.scope x) (hf : X.fn x = true ∨ X.env.scope.names.lookup x = some .local := by first | exact .inl rfl | exact .inr rfl | assumption) : PG X (.Name x pos) (gName i) := by
  intro pins s σ H v u Q I r h
  exact wpAny_assign_Name (store_ok I hN hi hx r (fun s' I' => ⟨_, H, I', h⟩) hf)
def gNil : TGs := fun vs σ H Q => vs = [] ∧ Q σ H
def gCons (t : TG) (u : TGs) : TGs := fun vs σ H Q => ∃ v r, vs = v :: r ∧ t v σ H fun σ' H' => u r σ' H' Q
theorem pgs_nil : PGs X [] gNil := by
  intro pins s σ H vs us Q I r h
  obtain ⟨e, h⟩ := h
  subst e
  cases r
  exact assignInOrder_nil ⟨σ, H, I, h⟩
theorem pgs_cons {e : Expr} {es : List Expr} {t : TG} {u : TGs} (h1 : PG X e t) (h2 : PGs X es u)
    (hs : (assignEach (e :: es) X.env).map (·.2) = assign e X.env :: (assignEach es X.env).map (·.2) := by rfl) : PGs X (e :: es) (gCons t u) := by
  intro pins s σ H vs us Q I r h
  obtain ⟨v, vr, e1, h⟩ := h
  subst e1
  cases r with
  | cons r rr =>
    rw [hs]
    refine assignInOrder_cons (thn (h1 pins s σ H _ _ _ I r h) fun _ s1 ⟨σ1, H1, I1, q1⟩ => ?_)
    exact h2 pins s1 σ1 H1 _ _ Q I1 rr q1
def gTup (K : PySem.W.Frag) (n : Nat) (t : TGs) : TG := fun v σ H Q => ∃ a xs, v = .ref a ∧ SqT K H a xs ∧ xs.length = n ∧ t xs σ H Q
theorem pg_tup {es : List Expr} {k : Nat} {t : TGs} {n : Nat} (hc : X.calm = true) (h : PGs X es t)
    (hn : (assignEach es X.env).length = n := by rfl) (hst : (assignEach es X.env).findIdx? (·.1) = none := by rfl) : PG X (.Tuple es k pos) (gTup X.K n t) := by
  intro pins s σ H v u Q I r hw
  obtain ⟨a, xs, e1, hq, hl, hw⟩ := hw
  subst e1
  cases r
  obtain ⟨its, rv, ht, hz⟩ := I.tuple hq
  refine assign_Tuple_tuple (I.ok.hd hc) ht (by simp [hn, ← hl, rv.length]) hst fun h' hx => ?_
  have I1 : Inv X pins σ H { s with heap := h' } := I.kept (t' := s.toks) fun b o e => hx b o (Nat.ne_of_lt (Heap.lt_size e)) e
  exact h pins _ σ H xs _ Q I1 (by simpa using rv) hw
def gSub (to ti : TE) (t : TSet) : TG := fun v σ H Q => to σ H fun o H1 => ti σ H1 fun i H2 => t o i v H2 fun H3 => Q σ H3
theorem pg_sub {o i : Expr} {to ti : TE} {t : TSet} (ho : PE X o to) (hi : PE X i ti) (hs : PSet X t)
    (ha : ∀ v, assign (.Subscript o i pos) X.env v = (do
      let ov ← holding [v] (eval o X.env)
      let iv ← holding [v, ov] (eval i X.env)
      standAt pos
      holding [v, ov, iv] (setItem ov iv v)
      release [v, ov, iv] []) := by intro _; rfl) : PG X (.Subscript o i pos) (gSub to ti t) := by
  intro pins s σ H v u Q I r h
  rw [ha]
  refine wpAny_bind (wpAny_holding (thn (ho pins s σ H _ I h) fun ov s1 ⟨x, H1, I1, r1, q1⟩ => ?_))
  refine wpAny_bind (wpAny_holding (thn (hi pins s1 σ H1 _ I1 q1) fun iv s2 ⟨y, H2, I2, r2, q2⟩ => ?_))
  refine wpAny_bind (wpAny_standAt (wpAny_bind (wpAny_holding (thn (hs pins s2 σ H2 x y v ov iv u _ I2 r1 r2 r q2) fun _ s3 ⟨H3, I3, q3⟩ => ?_))))
  exact wpAny_release ⟨σ, H3, I3, q3⟩
def tAsg (te : TE) (g : TG) : TS := fun D σ H => te σ H fun x H1 => g x σ H1 D.nx
theorem ps_asg {tg e : Expr} {te : TE} {g : TG} (he : PE X e te) (hg : PG X tg g) (hs : swapsWithSole [tg] e pos.line X.env = pure false := by rfl) (hw : swappedStores [tg] e X.env = pure none := by rfl)
    (h1 : (assignEach [tg] X.env).map (·.2) = [assign tg X.env] := by rfl) : PS X (.Assign [tg] e pos) (tAsg te g) := by
  intro pins s σ H D I h
  refine wpAny_Assign_stores (thn (he pins s σ H _ I h) fun v s1 ⟨x, H1, I1, r1, q1⟩ => ?_) hs hw
  rw [h1]
  exact thn (hg pins s1 σ H1 x v _ I1 r1 q1) fun _ s2 q => q
theorem ps_set {i : Nat} {x : Str} {e : Expr} {te : TE} {pos' : Pos} (hN : X.N.Nodup) (hi : X.N[i]? = some x) (hx : Loc X.env.scope x) (he : PE X e te) (hs : swapsWith e (some (.Name x pos')) pos.line X.env = pure false := by rfl) (hf : X.fn x = true ∨ X.env.scope.names.lookup x = some .local := by first | exact .inl rfl | exact .inr rfl | assumption) :
    PS X (.Assign [.Name x pos'] e pos) (tAsg te (gName i)) := by
  intro pins s σ H D I h
  refine wpAny_Assign_Name (thn (he pins s σ H _ I h) fun v s1 ⟨y, H1, I1, r1, q1⟩ => ?_) hs
  exact store_ok I1 hN hi hx r1 (fun s2 I2 => ⟨_, H1, I2, q1⟩) hf
def tPar (i j : Nat) (ta : TA) : TS := fun D σ H => ta σ H fun vs H1 => ∃ v w, vs = [v, w] ∧ D.nx ((σ.set i (some v)).set j (some w)) H1
theorem ps_par {i j : Nat} {x y : Str} {a b : Expr} {ta : TA} {px py pt : Pos} {kt k2 pt2} (hc : X.calm = true) (hN : X.N.Nodup) (hi : X.N[i]? = some x) (hj : X.N[j]? = some y) (hij : i ≠ j)
    (hx : X.env.scope.names.lookup x = some .local) (hy : X.env.scope.names.lookup y = some .local) (ha : PA X [a, b] ta)
    (hw : swappedStores [.Tuple [.Name x px, .Name y py] kt pt] (.Tuple [a, b] k2 pt2) X.env = pure (some [x, y]))
    (hs : swapsWithSole [.Tuple [.Name x px, .Name y py] kt pt] (.Tuple [a, b] k2 pt2) pos.line X.env = pure false := by rfl) :
    PS X (.Assign [.Tuple [.Name x px, .Name y py] kt pt] (.Tuple [a, b] k2 pt2) pos) (tPar i j ta) := by
  intro pins s σ H D I h
  rw [exec_Assign_arm]
  refine wpAny_bind (wpAny_standAt ?_)
  rw [hs]
  refine wpAny_bind (wpAny_pure ?_)
  rw [if_neg (by decide)]
  refine wpAny_bind (Tuple_ (thn (ha _ pins s σ H _ I h) fun us s1 ⟨vs, H1, I1, r1, q1⟩ => ?_))
  obtain ⟨v, w, e1, q1⟩ := q1
  subst e1
  obtain ⟨u1, u2, rfl, rv, rw'⟩ : ∃ u1 u2, us = [u1, u2] ∧ RelV v u1 ∧ RelV w u2 := by
    cases r1 with
    | cons p q =>
      cases q with
      | cons p' q' =>
        cases q'
        exact ⟨_, _, rfl, p, p'⟩
  refine wpAny_newObj_type ?_ (by show 2 ≤ sizeLine; decide)
  have I2 : Inv X pins σ H1 { s1 with heap := s1.heap.push { cls := .type "tuple", data := .seq [u1, u2].toArray } } := I1.kept (t' := s1.toks) fun b o e => Heap.get?_push_of_some _ e
  rw [hw]
  refine wpAny_bind (wpAny_pure ?_)
  show wpAny (model X.prog X.w) X.A (do rule "assign.swapped-stores"; let items ← unpackItems (.ref s1.heap.objs.size) 2 none; assignInOrder [fun v => bindName X.env y v, fun v => bindName X.env x v] items.reverse; pure Flow.next) _ _ _
  refine wpAny_bind (wpAny_rule (wpAny_bind (unpackItems_tuple (items := #[u1, u2]) (I.ok.hd hc) (IsTup.new s1.heap _) fun h' hx' => ?_)))
  have I3 := I2.kept (h' := h') (t' := s1.toks) fun b o e => hx' b o (Nat.ne_of_lt (Heap.lt_size e)) e
  show wpAny _ _ (assignInOrder [fun v => bindName X.env y v, fun v => bindName X.env x v] [u2, u1] >>= fun _ => pure Flow.next) _ _ _
  refine wpAny_bind (assignInOrder_cons (wpAny_bindName (store_ok I3 hN hj (.inl hy) rw' (fun s2 I4 => ?_) (.inr hy))))
  refine assignInOrder_cons (wpAny_bindName (store_ok I4 hN hi (.inl hx) rv (fun s3 I5 => assignInOrder_nil (wpAny_pure ?_)) (.inr hx)))
  rw [List.set_comm _ _ (Ne.symm hij)] at I5
  exact ⟨_, H1, I5, q1⟩
end
section
variable {X : Cx} {pos : Pos}
def tWhile (c : TT) (tb : TS) : TS := fun D σ H => ∃ W : Nat → St → Hp → Prop, (∃ m, W m σ H) ∧ ∀ m σ H, W m σ H →
  c σ H fun b H1 => if b = true then ∃ N : St → Hp → Prop, (∀ σ' H', N σ' H' → ∃ m', m' < m ∧ W m' σ' H') ∧ tb { D with nx := N, ct := N, bk := D.nx } σ H1 else D.nx σ H1
theorem ps_while {c : Expr} {body : List Stmt} {tc : TT} {tb : TS} (hp : PassesOwn (model X.prog X.w) X.A X.env X.xe) (hc : PT X c tc) (hb : PSs X body tb) : PS X (.While c body [] pos) (tWhile tc tb) := by
  intro pins s σ H D I h
  obtain ⟨W, ⟨m0, w0⟩, turn⟩ := h
  refine wpAny_While (codeAny_whileLoop (fun n s' => ∃ σ' H', Inv X pins σ' H' s' ∧ W n σ' H') ?_ m0 ⟨σ, H, I, w0⟩)
  rintro n s1 ⟨σ1, H1, I1, w1⟩
  refine wpAny_passesOwn hp (thn (hc pins s1 σ1 H1 _ I1 (turn n σ1 H1 w1)) fun b s2 ⟨H2, I2, q2⟩ => ?_)
  cases b with
  | true =>
    obtain ⟨N, hN, q2⟩ := q2
    rw [if_pos rfl]
    refine wpAny_passesOwn hp (thn (hb pins s2 σ1 H2 _ I2 q2) fun f s3 q3 => ?_)
    cases f with
    | next =>
      obtain ⟨σ3, H3, I3, n3⟩ := q3
      obtain ⟨m', hm, w3⟩ := hN σ3 H3 n3
      exact ⟨m', hm, σ3, H3, I3, w3⟩
    | cont =>
      obtain ⟨σ3, H3, I3, n3⟩ := q3
      obtain ⟨m', hm, w3⟩ := hN σ3 H3 n3
      exact ⟨m', hm, σ3, H3, I3, w3⟩
    | brk => exact q3
    | ret v => exact q3
  | false =>
    rw [if_neg Bool.false_ne_true]
    exact wpAny_execs_nil ⟨σ1, H2, I2, q2⟩
end
structure It where
  go : Nat → Hp → Prop
  yld : Nat → Hp → V → Hp → Prop
  stop : Nat → Hp → Prop
def FpOk (X : Cx) (pins : List (Addr × Obj)) (H : Hp) (b : Addr) : Prop :=
  H b = none ∧ b ≠ X.env.locals ∧ b ∉ X.fs ∧ (b ∈ X.ex ∨ X.s₀.heap.objs.size ≤ b) ∧ (∀ x c, X.env.cells.lookup x = some c → c ≠ b) ∧ ∀ p ∈ X.pn ++ pins, p.1 ≠ b
theorem Inv.fpOk {X : Cx} {pins : List (Addr × Obj)} {σ : St} {H H' : Hp} {s : Shared} {b : Addr} (I : Inv X pins σ H s) (hb : s.heap.objs.size ≤ b) (hn : H' b = none) : FpOk X pins H' b := by
  refine ⟨hn, Nat.ne_of_gt (Nat.lt_of_lt_of_le I.lt hb), I.nofs hb, .inr (Nat.le_trans I.sz hb), fun x c e z => ?_, fun p hp z => ?_⟩
  · obtain ⟨v, q⟩ := I.cell x c e
    exact absurd (Nat.lt_of_lt_of_le q.lt (by rw [z]; exact hb)) (Nat.lt_irrefl _)
  · exact absurd (Nat.lt_of_lt_of_le (Heap.lt_size (I.pin p hp).1) (by rw [z]; exact hb)) (Nat.lt_irrefl _)
structure Turn (P : Program) (w : World) (K : PySem.W.Frag) (tg : Expr) (J : It) (fp : List Addr) (it : Addr) (tn : Nat → Heap → Prop) : Prop where
  mem : it ∈ fp
  obj : ∀ i h, tn i h → ∀ b ∈ fp, ∃ o, h.get? b = some o ∧ ∀ v, o.data ≠ .cell v
  keep : ∀ i h h', tn i h → (∀ b ∈ fp, ∀ o, h.get? b = some o → h'.get? b = some o) → tn i h'
  item : ∀ (X : Cx), X.prog = P → X.w = w → X.K = K → X.calm = true → ∀ (i : Nat) (pins : List (Addr × Obj)) (s : Shared) (σ : St) (H : Hp) (E : Value → Shared → Prop), Inv X pins σ H s → (∀ b ∈ fp, FpOk X pins H b) → tn i s.heap → J.go i H →
    wpAny (model P w) X.A (pyNext (.ref it)) (fun r s1 => ∃ u, r = some u ∧
      wpAny (model P w) X.A (letOwnedTupleGo tg (.ref it) u) (fun _ s2 => ∃ x H', Inv X pins σ H' s2 ∧ RelV x u ∧ J.yld i H x H' ∧ tn (i + 1) s2.heap ∧ ∀ b ∈ fp, H' b = none) E s1) E s
  done : ∀ (X : Cx), X.prog = P → X.w = w → X.K = K → X.calm = true → ∀ (i : Nat) (pins : List (Addr × Obj)) (s : Shared) (σ : St) (H : Hp) (E : Value → Shared → Prop), Inv X pins σ H s → (∀ b ∈ fp, FpOk X pins H b) → tn i s.heap → J.stop i H →
    wpAny (model P w) X.A (pyNext (.ref it)) (fun r s1 => r = none ∧ Inv X pins σ H s1) E s
  self : ∀ (A : Around) (i : Nat) (s : Shared) (Q : Value → Shared → Prop) (E : Value → Shared → Prop), tn i s.heap → Q (.ref it) s → wpAny (model P w) A (pyIter (.ref it)) Q E s
abbrev TI := St → Hp → (It → Hp → Prop) → Prop
def PIE (X : Cx) (pins : List (Addr × Obj)) (σ : St) (tg : Expr) (R : It → Hp → Prop) (itv : Value) (s2 : Shared) : Prop :=
  ∃ (it : Addr) (fp : List Addr) (tn : Nat → Heap → Prop) (J : It) (H' : Hp), itv = .ref it ∧ Inv X pins σ H' s2 ∧ Turn X.prog X.w X.K tg J fp it tn ∧ tn 0 s2.heap ∧ (∀ b ∈ fp, FpOk X pins H' b) ∧ R J H'
def PI (X : Cx) (tg iter : Expr) (wi : TI) : Prop :=
  ∀ (pins : List (Addr × Obj)) (s : Shared) (σ : St) (H : Hp) (R : It → Hp → Prop), Inv X pins σ H s → wi σ H R →
    wpAny (model X.prog X.w) X.A (eval iter X.env) (fun v s1 => wpAny (model X.prog X.w) X.A (pyIter v) (PIE X pins σ tg R) X.xe s1) X.xe s
theorem go_of {M : Model} {A : Around} {E : Value → Shared → Prop} {s : Shared} {tg : Expr} {it : Addr} {u : Value} {o : Obj} {n : String} {vs : Array Value} {Q : Unit → Shared → Prop} (ho : s.heap.get? it = some o) (hc : o.cls = .type n) (hd : o.data = .fields vs)
    (hn : ["enumerate", "zip", "dict_itemiterator", "dict_reverseitemiterator", "odict_iterator", "itertools.zip_longest", "itertools.pairwise"].contains n = false) (hQ : Q () s) : wpAny M A (letOwnedTupleGo tg (.ref it) u) Q E s := by
  unfold letOwnedTupleGo
  cases tg <;> first
    | exact wpAny_pure hQ
    | (cases u <;> first
        | exact wpAny_pure hQ
        | (refine wpAny_bind (wpAny_load ho ?_)
           rw [hc, hd]
           show wpAny M A (if (["enumerate", "zip", "dict_itemiterator", "dict_reverseitemiterator", "odict_iterator", "itertools.zip_longest", "itertools.pairwise"].contains n && vs[0]? == some (rawInt _)) = true then _ else _) Q E s
           rw [if_neg (by intro h; rw [hn, Bool.false_and] at h; cases h)]
           exact wpAny_pure hQ))
def Itl (K : PySem.W.Frag) (a : Addr) : It :=
  ⟨fun i H => ∃ xs x, SqL K H a xs ∧ xs[i]? = some x, fun i H x H' => H' = H ∧ ∀ xs, SqL K H a xs → xs[i]? = some x, fun i H => ∃ xs, SqL K H a xs ∧ xs.length ≤ i⟩
def Itt (K : PySem.W.Frag) (a : Addr) : It :=
  ⟨fun i H => ∃ xs x, SqT K H a xs ∧ xs[i]? = some x, fun i H x H' => H' = H ∧ ∀ xs, SqT K H a xs → xs[i]? = some x, fun i H => ∃ xs, SqT K H a xs ∧ xs.length ≤ i⟩
def Itr (lo : Int) (n : Nat) : It := ⟨fun i _ => i < n, fun i H x H' => H' = H ∧ x = .int (lo + i), fun i _ => n ≤ i⟩
theorem turn_list {P : Program} {w : World} {K : PySem.W.Frag} {tg : Expr} (a it : Addr) : Turn P w K tg (Itl K a) [it] it (fun i h => h.IsListIter it a i) where
  mem := by simp
  obj := fun i h st b hb => by
    have e : b = it := by simpa using hb
    subst e
    obtain ⟨o, e, c, d⟩ := st
    exact ⟨o, e, fun v z => by rw [d] at z; cases z⟩
  keep := fun i h h' st k => st.at fun o e => k it (by simp) o e
  item := by
    intro X hP hw hK hc i pins s σ H E I hf st hg
    subst hP hw hK
    obtain ⟨xs, x, hq, hx⟩ := hg
    obtain ⟨its, rv, p, hz⟩ := I.list hq
    obtain ⟨u, hu, ru⟩ := rv.get hx
    obtain ⟨f0, f1, f2, f3, f4, f5⟩ := hf it (by simp)
    refine wpAny_pyNext_list_item st p.isList (x := u) (by simpa using hu) fun h' st' sb => ?_
    have I1 : Inv X pins σ H { s with heap := h' } := I.turned (t' := s.toks) (fun b o hb e => (sb.2 b hb).trans e) f0 f1 f3 f4 f5
    obtain ⟨o, e, c, d⟩ := id st'
    exact ⟨u, rfl, go_of (s := { s with heap := h' }) e c d (by decide) ⟨x, H, I1, ru, ⟨rfl, fun ys hy => by rw [I.list_inj hy hq]; exact hx⟩, st', fun b hb => (hf b hb).1⟩⟩
  done := by
    intro X hP hw hK hc i pins s σ H E I hf st hg
    subst hP hw hK
    obtain ⟨xs, hq, hx⟩ := hg
    obtain ⟨its, rv, p, hz⟩ := I.list hq
    obtain ⟨f0, f1, f2, f3, f4, f5⟩ := hf it (by simp)
    have hl := rv.length
    exact wpAny_pyNext_list_end (I.ok.hd hc) st p.isList (by simp; omega) fun h' eb => ⟨rfl, I.turned (t' := s.toks) (fun b o hb e => eb b o hb e) f0 f1 f3 f4 f5⟩
  self := fun _ _ _ _ _ st h => wpAny_pyIter_listiter st h
theorem turn_tuple {P : Program} {w : World} {K : PySem.W.Frag} {tg : Expr} (a it : Addr) : Turn P w K tg (Itt K a) [it] it (fun i h => h.IsTupleIter it a i) where
  mem := by simp
  obj := fun i h st b hb => by
    have e : b = it := by simpa using hb
    subst e
    obtain ⟨o, e, c, d⟩ := st
    exact ⟨o, e, fun v z => by rw [d] at z; cases z⟩
  keep := fun i h h' st k => st.at fun o e => k it (by simp) o e
  item := by
    intro X hP hw hK hc i pins s σ H E I hf st hg
    subst hP hw hK
    obtain ⟨xs, x, hq, hx⟩ := hg
    obtain ⟨its, rv, p, hz⟩ := I.tuple hq
    obtain ⟨u, hu, ru⟩ := rv.get hx
    obtain ⟨f0, f1, f2, f3, f4, f5⟩ := hf it (by simp)
    refine wpAny_pyNext_tuple_item st (show s.heap.IsTuple a its.toArray from p) (x := u) (by simpa using hu) fun h' st' sb => ?_
    have I1 : Inv X pins σ H { s with heap := h' } := I.turned (t' := s.toks) (fun b o hb e => (sb.2 b hb).trans e) f0 f1 f3 f4 f5
    obtain ⟨o, e, c, d⟩ := id st'
    exact ⟨u, rfl, go_of (s := { s with heap := h' }) e c d (by decide) ⟨x, H, I1, ru, ⟨rfl, fun ys hy => by rw [I.tuple_inj hy hq]; exact hx⟩, st', fun b hb => (hf b hb).1⟩⟩
  done := by
    intro X hP hw hK hc i pins s σ H E I hf st hg
    subst hP hw hK
    obtain ⟨xs, hq, hx⟩ := hg
    obtain ⟨its, rv, p, hz⟩ := I.tuple hq
    obtain ⟨f0, f1, f2, f3, f4, f5⟩ := hf it (by simp)
    have hl := rv.length
    exact wpAny_pyNext_tuple_end (I.ok.hd hc) st (show s.heap.IsTuple a its.toArray from p) (by simp; omega) fun h' eb => ⟨rfl, I.turned (t' := s.toks) (fun b o hb e => eb b o hb e) f0 f1 f3 f4 f5⟩
  self := fun _ _ _ _ _ st h => wpAny_pyIter_tupleiter st h
theorem turn_range {P : Program} {w : World} {K : PySem.W.Frag} {tg : Expr} (it : Addr) (lo : Int) (n : Nat) : Turn P w K tg (Itr lo n) [it] it (fun i h => IsRangeIter h it (lo + (i : Nat) * 1) ((n : Int) - (i : Nat)) 1) where
  mem := by simp
  obj := fun i h st b hb => by
    have e : b = it := by simpa using hb
    subst e
    exact ⟨_, st, fun v z => by
      have z' : Data.fields _ = Data.cell v := z
      cases z'⟩
  keep := fun i h h' st k => k it (by simp) _ st
  item := by
    intro X hP hw hK hc i pins s σ H E I hf st hg
    subst hP hw hK
    obtain ⟨f0, f1, f2, f3, f4, f5⟩ := hf it (by simp)
    have W := Walks.range (prog := X.prog) (w := X.w) (I.ok.hd hc) it lo 1 n
    refine W.item i s _ _ hg st fun v h' tk hv st' kk => ?_
    obtain ⟨t, rfl⟩ := hv
    have I1 : Inv X pins σ H { s with heap := h', toks := tk } := I.turned (fun b o hb e => kk b o (by simpa using hb) e) f0 f1 f3 f4 f5
    refine ⟨_, rfl, go_of (s := { s with heap := h', toks := tk }) (n := "range_iterator") st' rfl rfl (by decide) ⟨.int (lo + i), H, I1, ⟨t, ?_⟩, ⟨rfl, rfl⟩, st', fun b hb => (hf b hb).1⟩⟩
    rw [Int.mul_one]
  done := by
    intro X hP hw hK hc i pins s σ H E I hf st hg
    subst hP hw hK
    obtain ⟨f0, f1, f2, f3, f4, f5⟩ := hf it (by simp)
    exact wpAny_pyNext_range_end (I.ok.hd hc) st (by have : n ≤ i := hg; omega) fun h' eb => ⟨rfl, I.turned (t' := s.toks) (fun b o hb e => eb b o hb e) f0 f1 f3 f4 f5⟩
  self := fun _ _ _ _ _ st h => wpAny_pyIter_rangeiter st h
end L2
namespace L2
open PySem PySem.Spec PyProof.Rows
section
variable {X : Cx} {tg : Expr}
theorem range_it {pins : List (Addr × Obj)} {σ : St} {H : Hp} {s : Shared} {R : It → Hp → Prop} {E : Value → Shared → Prop} {lo hi : Int} {t u v : Tok} {tk : Nat} (I : Inv X pins σ H s) (h1 : -(2 ^ 62) ≤ lo) (h2 : lo < 2 ^ 62) (h3 : -(2 ^ 62) ≤ hi) (h4 : hi < 2 ^ 62)
    (q : R (Itr lo (hi - lo).toNat) H) : wpAny (model X.prog X.w) X.A (pyIter (.ref s.heap.objs.size)) (PIE X pins σ tg R) E { s with heap := s.heap.push { cls := .type "range", data := .fields #[.int lo t, .int hi u, .int 1 v] }, toks := tk } := by
  refine wpAny_pyIter_range (IsRange.new ..) (small_one h1 h2 h3 h4) ?_
  have I1 : Inv X pins σ H { s with heap := s.heap.push { cls := .type "range", data := .fields #[.int lo t, .int hi u, .int 1 v] }, toks := tk } := I.kept fun b o e => Heap.get?_push_of_some _ e
  refine ⟨(s.heap.push { cls := .type "range", data := .fields #[.int lo t, .int hi u, .int 1 v] }).objs.size, [(s.heap.push { cls := .type "range", data := .fields #[.int lo t, .int hi u, .int 1 v] }).objs.size], _, _, H, rfl,
    I1.kept (t' := tk) fun b o e => Heap.get?_push_of_some _ e, turn_range _ lo (hi - lo).toNat, ?_, fun b hb => ?_, q⟩
  · have e1 : lo + ((0 : Nat) : Int) * 1 = lo := by simp
    have e2 : (((hi - lo).toNat : Nat) : Int) - ((0 : Nat) : Int) = Builtin.Range.rangeSize lo hi 1 := by rw [rangeSize_one]; split <;> omega
    show IsRangeIter _ _ (lo + ((0 : Nat) : Int) * 1) ((((hi - lo).toNat : Nat) : Int) - ((0 : Nat) : Int)) 1
    rw [e1, e2]
    exact Heap.get?_push_size _ rfl
  · have e : b = (s.heap.push { cls := .type "range", data := .fields #[.int lo t, .int hi u, .int 1 v] }).objs.size := by simpa using hb
    subst e
    exact I1.fpOk (Nat.le_refl _) (I1.hok.fresh (Nat.le_refl _))
def iRng1 (ta : TA) : TI := fun σ H R => ta σ H fun vs H1 => ∃ j : Int, vs = [.int j] ∧ -(2 ^ 62) ≤ j ∧ j < 2 ^ 62 ∧ R (Itr 0 j.toNat) H1
def iRng2 (ta : TA) : TI := fun σ H R => ta σ H fun vs H1 => ∃ i j : Int, vs = [.int i, .int j] ∧ (-(2 ^ 62) ≤ i ∧ i < 2 ^ 62 ∧ -(2 ^ 62) ≤ j ∧ j < 2 ^ 62) ∧ R (Itr i (j - i).toNat) H1
theorem pi_range1 {a : Expr} {ta : TA} {p pos : Pos} (hg : Gl X "range") (hm : X.mg "range" = none) (ha : PA X [a] ta) (hs : starEach [a] X.env = [(false, eval a X.env)] := by rfl) : PI X tg (.Call (.Name "range" p) [a] [] pos) (iRng1 ta) := by
  intro pins s σ H R I h
  refine Call_ (ld_blt I hg hm boot_range (PyProof.Rows.callWith_type1 (thn (ha pos pins s σ H _ I h) fun us s1 ⟨vs, H1, I1, r1, q1⟩ => ?_) hs rfl))
  obtain ⟨j, e, q1, q2, q⟩ := q1
  subst e
  cases r1 with
  | cons r rr =>
    cases rr
    obtain ⟨t, rfl⟩ := r
    exact call_range_1 (range_it I1 (by omega) (by omega) q1 q2 (by simpa using q))
theorem pi_range2 {a b : Expr} {ta : TA} {p pos : Pos} (hg : Gl X "range") (hm : X.mg "range" = none) (ha : PA X [a, b] ta) (hs : starEach [a, b] X.env = [(false, eval a X.env), (false, eval b X.env)] := by rfl) (hs2 : starEach [b] X.env = [(false, eval b X.env)] := by rfl) :
    PI X tg (.Call (.Name "range" p) [a, b] [] pos) (iRng2 ta) := by
  intro pins s σ H R I h
  refine Call_ (ld_blt I hg hm boot_range (PyProof.Rows.callWith_type1 (thn (ha pos pins s σ H _ I h) fun us s1 ⟨vs, H1, I1, r1, q1⟩ => ?_) (by rw [hs, hs2]) (by rw [hs2]; rfl)))
  obtain ⟨i, j, e, ⟨q1, q2, q3, q4⟩, q⟩ := q1
  subst e
  cases r1 with
  | cons r rr =>
    cases rr with
    | cons r' rr =>
      cases rr
      obtain ⟨t, rfl⟩ := r
      obtain ⟨t', rfl⟩ := r'
      exact call_range_2 (range_it I1 q1 q2 q3 q4 q)
def tFor (wi : TI) (g : TG) (tb : TS) : TS := fun D σ H => wi σ H fun J H1 => ∃ W : Nat → Nat → St → Hp → Prop, (∃ m, W 0 m σ H1) ∧ ∀ i m σ H, W i m σ H →
  (J.stop i H ∧ D.nx σ H) ∨ (J.go i H ∧ ∃ N : St → Hp → Prop, (∀ σ' H', N σ' H' → ∃ m', m' < m ∧ W (i + 1) m' σ' H') ∧ ∀ x H', J.yld i H x H' → g x σ H' fun σ2 H2 => tb { D with nx := N, ct := N, bk := D.nx } σ2 H2)
def pinsAt (fp : List Addr) (h : Heap) : List (Addr × Obj) := fp.filterMap fun b => (h.get? b).map fun o => (b, o)
theorem mem_pinsAt {fp : List Addr} {h : Heap} {b : Addr} {o : Obj} (hb : b ∈ fp) (e : h.get? b = some o) : (b, o) ∈ pinsAt fp h := List.mem_filterMap.mpr ⟨b, hb, by rw [e]; rfl⟩
theorem of_pinsAt {fp : List Addr} {h : Heap} {p : Addr × Obj} (hp : p ∈ pinsAt fp h) : p.1 ∈ fp ∧ h.get? p.1 = some p.2 := by
  obtain ⟨b, hb, e⟩ := List.mem_filterMap.mp hp
  cases q : h.get? b with
  | none => rw [q] at e; cases e
  | some o =>
    rw [q] at e
    have e' : (b, o) = p := Option.some.inj e
    subst e'
    exact ⟨hb, q⟩
theorem Inv.pinned {pins : List (Addr × Obj)} {σ : St} {H : Hp} {s : Shared} {fp : List Addr} (I : Inv X pins σ H s) (hf : ∀ b ∈ fp, FpOk X pins H b) (ho : ∀ b ∈ fp, ∃ o, s.heap.get? b = some o ∧ ∀ v, o.data ≠ .cell v) : Inv X (pins ++ pinsAt fp s.heap) σ H s :=
  I.pins_of fun p hp => (List.mem_append.mp hp).elim (fun z => I.pin p (List.mem_append_right _ z)) fun z => by
    obtain ⟨hb, e⟩ := of_pinsAt z
    obtain ⟨f0, f1, f2, _⟩ := hf p.1 hb
    obtain ⟨o, e', d⟩ := ho p.1 hb
    rw [e] at e'; cases e'
    exact ⟨e, f0, f1, f2, d⟩
theorem Inv.unpinned {pins pl : List (Addr × Obj)} {σ : St} {H : Hp} {s : Shared} (I : Inv X (pins ++ pl) σ H s) : Inv X pins σ H s := I.pins_of fun p hp => I.pin p (List.mem_append_right _ (List.mem_append_left _ hp))
theorem ps_for {iter : Expr} {body : List Stmt} {wi : TI} {g : TG} {tb : TS} {pos : Pos} (hp : PassesOwn (model X.prog X.w) X.A X.env X.xe) (hc : X.calm = true) (hi : PI X tg iter wi) (hg : PG X tg g) (hb : PSs X body tb)
    (hs : ∀ x, foldedSetIterable iter X.env x = pure x := by intro _; rfl) : PS X (.For tg iter body [] pos) (tFor wi g tb) := by
  intro pins s σ H D I h
  refine wpAny_For (thn (hi pins s σ H _ I h) fun v s1 h1 => thn h1 fun itv s2 h2 => ?_) hs
  obtain ⟨it, fp, tn, J, H2, e, I2, T, st2, f2, W, ⟨m0, w0⟩, turn⟩ := h2
  subst e
  have stat : ∀ {H' : Hp}, (∀ b ∈ fp, H' b = none) → ∀ b ∈ fp, FpOk X pins H' b := fun hn b hb => ⟨hn b hb, (f2 b hb).2⟩
  refine codeAny_forLoop_any (fun n s' => ∃ i σ' H', Inv X pins σ' H' s' ∧ tn i s'.heap ∧ (∀ b ∈ fp, H' b = none) ∧ W i n σ' H') ?_ m0 ⟨0, σ, H2, I2, st2, fun b hb => (f2 b hb).1, w0⟩
  rintro n s3 ⟨i, σ3, H3, I3, st3, fr3, w3⟩
  rcases turn i n σ3 H3 w3 with ⟨stop, qn⟩ | ⟨go, N, hN, step⟩
  · refine wpAny_passesOwn hp (thn (T.done X rfl rfl rfl hc i pins s3 σ3 H3 X.xe I3 (stat fr3) st3 stop) fun r s4 ⟨hr, I4⟩ => ?_)
    subst hr
    exact wpAny_execs_nil ⟨σ3, H3, I4, qn⟩
  · refine wpAny_passesOwn hp (thn (T.item X rfl rfl rfl hc i pins s3 σ3 H3 X.xe I3 (stat fr3) st3 go) fun r s4 ⟨u, hr, h4⟩ => ?_)
    subst hr
    refine wpAny_passesOwn hp (thn h4 fun _ s5 ⟨x, H5, I5, r5, y5, st5, fr5⟩ => ?_)
    have I5' := I5.pinned (stat fr5) (T.obj _ _ st5)
    refine wpAny_passesOwn hp (thn (hg _ s5 σ3 H5 x u _ I5' r5 (step x H5 y5)) fun _ s6 ⟨σ6, H6, I6, q6⟩ => ?_)
    refine wpAny_passesOwn hp (thn (hb _ s6 σ6 H6 _ I6 q6) fun f s7 q7 => ?_)
    have again : ∀ {σ7 : St} {H7 : Hp}, Inv X (pins ++ pinsAt fp s5.heap) σ7 H7 s7 → N σ7 H7 → ∃ m, m < n ∧ ∃ i σ' H', Inv X pins σ' H' s7 ∧ tn i s7.heap ∧ (∀ b ∈ fp, H' b = none) ∧ W i m σ' H' := fun {σ7 H7} I7 n7 => by
      obtain ⟨m', hm, w7⟩ := hN σ7 H7 n7
      refine ⟨m', hm, i + 1, σ7, H7, I7.unpinned, T.keep _ _ _ st5 fun b hb o e => (I7.pin (b, o) (List.mem_append_right _ (List.mem_append_right _ (mem_pinsAt hb e)))).1, fun b hb => ?_, w7⟩
      obtain ⟨o, e, d⟩ := T.obj _ _ st5 b hb
      exact (I7.pin (b, o) (List.mem_append_right _ (List.mem_append_right _ (mem_pinsAt hb e)))).2.1
    cases f with
    | next => obtain ⟨σ7, H7, I7, n7⟩ := q7; exact again I7 n7
    | cont => obtain ⟨σ7, H7, I7, n7⟩ := q7; exact again I7 n7
    | brk => obtain ⟨σ7, H7, I7, q7⟩ := q7; exact ⟨σ7, H7, I7.unpinned, q7⟩
    | ret v => obtain ⟨x7, σ7, H7, I7, r7, q7⟩ := q7; exact ⟨x7, σ7, H7, I7.unpinned, r7, q7⟩
end
end L2
namespace L2
open PySem PySem.Spec PyProof.Rows
abbrev R2 := V → V → Hp → VK → Prop
def OpR (X : Cx) (f : Value → Value → Sem Value) (r : R2) : Prop :=
  ∀ (pins : List (Addr × Obj)) (s : Shared) (σ : St) (H : Hp) (x y : V) (v u : Value) (Q : VK), Inv X pins σ H s → RelV x v → RelV y u → r x y H Q →
    wpAny (model X.prog X.w) X.A (f v u) (EP X pins σ Q) X.xe s
def UnR (X : Cx) (f : Value → Sem Value) (r : V → Hp → VK → Prop) : Prop :=
  ∀ (pins : List (Addr × Obj)) (s : Shared) (σ : St) (H : Hp) (x : V) (v : Value) (Q : VK), Inv X pins σ H s → RelV x v → r x H Q →
    wpAny (model X.prog X.w) X.A (f v) (EP X pins σ Q) X.xe s
def CallR (X : Cx) (f : Value) (r : List V → Hp → VK → Prop) : Prop :=
  ∀ (pins : List (Addr × Obj)) (s : Shared) (σ : St) (H : Hp) (xs : List V) (us : List Value) (Q : VK), Inv X pins σ H s → Vals xs us → r xs H Q →
    wpAny (model X.prog X.w) X.A (call f us) (EP X pins σ Q) X.xe s
def tOp (r : R2) (ta tb : TE) : TE := fun σ H Q => ta σ H fun x H1 => tb σ H1 fun y H2 => r x y H2 Q
def tUn (r : V → Hp → VK → Prop) (ta : TE) : TE := fun σ H Q => ta σ H fun x H1 => r x H1 Q
def rI (C : Int → Int → Prop) (g : Int → Int → V) : R2 := fun x y H Q => ∃ i j, x = .int i ∧ y = .int j ∧ C i j ∧ Q (g i j) H
def rI0 (g : Int → Int → V) : R2 := fun x y H Q => ∃ i j, x = .int i ∧ y = .int j ∧ Q (g i j) H
def rU (g : Int → V) : V → Hp → VK → Prop := fun x H Q => ∃ i, x = .int i ∧ Q (g i) H
section
variable {X : Cx} {a b c : Expr} {ta tb tc : TE} {pos : Pos}
theorem binT (ha : PE X a ta) (hb : PE X b tb) {pins : List (Addr × Obj)} {s : Shared} {σ : St} {H : Hp} {R : V → V → Hp → Prop} (I : Inv X pins σ H s)
    (h : ta σ H fun x H1 => tb σ H1 fun y H2 => R x y H2) {Q : Value → Shared → Prop} {f : Value → Value → Sem Value}
    (hf : ∀ v u s2 x y H2, Inv X pins σ H2 s2 → RelV x v → RelV y u → R x y H2 → wpAny (model X.prog X.w) X.A (f v u) Q X.xe s2) :
    wpAny (model X.prog X.w) X.A (eval a X.env) (fun v s₁ => wpAny (model X.prog X.w) X.A (eval b X.env) (fun u s₂ => wpAny (model X.prog X.w) X.A (f v u) Q X.xe s₂) X.xe s₁) X.xe s := by
  refine thn (ha pins s σ H _ I h) fun v s1 ⟨x, H1, I1, r1, q1⟩ => ?_
  refine thn (hb pins s1 σ H1 _ I1 q1) fun u s2 ⟨y, H2, I2, r2, q2⟩ => ?_
  exact hf v u s2 x y H2 I2 r1 r2 q2
theorem pe_op {op : Operator} {r : R2} (ho : OpR X (binaryOp op) r) (ha : PE X a ta) (hb : PE X b tb) : PE X (.BinOp a op b pos) (tOp r ta tb) := by
  intro pins s σ H Q I h
  exact wpAny_BinOp (binT ha hb I h fun v u s2 x y H2 I2 rx ry q => ho pins s2 σ H2 x y v u Q I2 rx ry q)
theorem pe_un {op : UnaryOp} {r : V → Hp → VK → Prop} (ho : UnR X (unaryOp op) r) (ha : PE X a ta) : PE X (.UnaryOp op a pos) (tUn r ta) := by
  intro pins s σ H Q I h
  exact UnaryOp_ (thn (ha pins s σ H _ I h) fun v s1 ⟨x, H1, I1, r1, q1⟩ => ho pins s1 σ H1 x v Q I1 r1 q1)
theorem opI {f : Value → Value → Sem Value} {C : Int → Int → Prop} {g : Int → Int → Int}
    (rule : ∀ (i j : Int) (t u : Tok) (s : Shared) (Q : Value → Shared → Prop) (E : Value → Shared → Prop), C i j → Q (.int (g i j) s.toks) { s with toks := s.toks + 1 } → wpAny (model X.prog X.w) X.A (f (.int i t) (.int j u)) Q E s) :
    OpR X f (rI C fun i j => .int (g i j)) := by
  intro pins s σ H x y v u Q I rx ry h
  obtain ⟨i, j, rfl, rfl, hc, q⟩ := h
  obtain ⟨t, rfl⟩ := rx
  obtain ⟨t', rfl⟩ := ry
  exact rule i j t t' s _ _ hc ⟨.int (g i j), H, I.tok _, ⟨_, rfl⟩, q⟩
theorem opI0 {f : Value → Value → Sem Value} {g : Int → Int → Int}
    (rule : ∀ (i j : Int) (t u : Tok) (s : Shared) (Q : Value → Shared → Prop) (E : Value → Shared → Prop), Q (.int (g i j) s.toks) { s with toks := s.toks + 1 } → wpAny (model X.prog X.w) X.A (f (.int i t) (.int j u)) Q E s) :
    OpR X f (rI0 fun i j => .int (g i j)) := by
  intro pins s σ H x y v u Q I rx ry h
  obtain ⟨i, j, rfl, rfl, q⟩ := h
  obtain ⟨t, rfl⟩ := rx
  obtain ⟨t', rfl⟩ := ry
  exact rule i j t t' s _ _ ⟨.int (g i j), H, I.tok _, ⟨_, rfl⟩, q⟩
theorem opB0 {f : Value → Value → Sem Value} {g : Int → Int → Bool}
    (rule : ∀ (i j : Int) (t u : Tok) (s : Shared) (Q : Value → Shared → Prop) (E : Value → Shared → Prop), Q (.bool (g i j)) s → wpAny (model X.prog X.w) X.A (f (.int i t) (.int j u)) Q E s) :
    OpR X f (rI0 fun i j => .bl (g i j)) := by
  intro pins s σ H x y v u Q I rx ry h
  obtain ⟨i, j, rfl, rfl, q⟩ := h
  obtain ⟨t, rfl⟩ := rx
  obtain ⟨t', rfl⟩ := ry
  exact rule i j t t' s _ _ ⟨.bl (g i j), H, I, rfl, q⟩
def CPow (i j : Int) : Prop := 0 ≤ j ∧ j ≤ 1000000 ∧ i.natAbs < 2 ^ 64
theorem op_add : OpR X (binaryOp .Add) (rI0 fun i j => .int (i + j)) := opI0 fun _ _ _ _ _ _ _ q => add_int q
theorem op_sub : OpR X (binaryOp .Sub) (rI0 fun i j => .int (i - j)) := opI0 fun _ _ _ _ _ _ _ q => sub_int q
theorem op_mod : OpR X (binaryOp .Mod) (rI (fun _ j => 0 < j) fun i j => .int (i % j)) := opI fun i j _ _ _ _ _ hc q => by
  have h1 : (0 : Int) < j := hc
  exact mod_int' (by omega) (by rw [Int.fmod_eq_emod_of_nonneg i (by omega)]; exact q)
theorem op_pow : OpR X (binaryOp .Pow) (rI CPow fun i j => .int (i ^ j.toNat)) := opI fun _ _ _ _ _ _ _ hc q => pow_int_small hc.1 hc.2.1 hc.2.2 q
theorem unI {f : Value → Sem Value} {g : Int → Int}
    (rule : ∀ (i : Int) (t : Tok) (s : Shared) (Q : Value → Shared → Prop) (E : Value → Shared → Prop), Q (.int (g i) s.toks) { s with toks := s.toks + 1 } → wpAny (model X.prog X.w) X.A (f (.int i t)) Q E s) :
    UnR X f (rU fun i => .int (g i)) := by
  intro pins s σ H x v Q I rx h
  obtain ⟨i, rfl, q⟩ := h
  obtain ⟨t, rfl⟩ := rx
  exact rule i t s _ _ ⟨.int (g i), H, I.tok _, ⟨_, rfl⟩, q⟩
theorem un_neg : UnR X (unaryOp .USub) (rU fun i => .int (-i)) := unI fun _ _ _ _ _ q => neg_int q
end
def scal : V → V → Bool
  | .non, .non => true | .non, .int _ => true | .int _, .non => true | .non, .bl _ => true | .bl _, .non => true | .non, .str _ => true | .str _, .non => true
  | .int _, .int _ => true | .bl _, .bl _ => true | .str _, .str _ => true | .byt _, .byt _ => true
  | .int _, .str _ => true | .str _, .int _ => true | .bl _, .str _ => true | .str _, .bl _ => true
  | _, _ => false
def rEq : R2 := fun x y H Q => scal x y = true ∧ Q (.bl (decide (x = y))) H
def rNe : R2 := fun x y H Q => scal x y = true ∧ Q (.bl (!decide (x = y))) H
theorem dec_int {i j : Int} : decide (V.int i = V.int j) = (i == j) := by
  rw [Bool.eq_iff_iff]
  simp
theorem dec_bl {i j : Bool} : decide (V.bl i = V.bl j) = (i == j) := by
  rw [Bool.eq_iff_iff]
  simp
theorem dec_str {i j : Str} : decide (V.str i = V.str j) = (i == j) := by
  rw [Bool.eq_iff_iff]
  simp
theorem dec_byt {i j : Array UInt8} : decide (V.byt i = V.byt j) = (i.toList == j.toList) := by
  rw [Bool.eq_iff_iff]
  cases i
  cases j
  simp
section
variable {X : Cx} {a b c : Expr} {ta tb tc : TE} {pos : Pos}
theorem fin_bl {pins : List (Addr × Obj)} {σ : St} {H : Hp} {s : Shared} {Q : VK} {k k' : Bool} (I : Inv X pins σ H s) (q : Q (.bl k) H) (e : k = k') : EP X pins σ Q (.bool k') s := by
  subst e
  exact ⟨.bl k, H, I, rfl, q⟩
theorem op_eq : OpR X (compareOp .Eq) rEq := by
  intro pins s σ H x y v u Q I rx ry h
  obtain ⟨hs, q⟩ := h
  cases x with
  | non =>
    cases rx
    cases y with
    | non => cases ry; exact PySem.EqNone.eq_none_none (fin_bl I q (by simp))
    | bl j => cases ry; exact PySem.EqNone.eq_none_bool (fin_bl I q (by simp))
    | int j => obtain ⟨t', rfl⟩ := ry; exact PySem.EqNone.eq_none_int (fin_bl I q (by simp))
    | str j => obtain ⟨t', rfl⟩ := ry; exact PySem.EqNone.eq_none_str (fin_bl I q (by simp))
    | _ => exact absurd (show false = true from hs) Bool.false_ne_true
  | bl i =>
    cases rx
    cases y with
    | non => cases ry; exact PySem.EqNone.eq_bool_none (fin_bl I q (by simp))
    | bl j => cases ry; exact eq_bool (fin_bl I q dec_bl)
    | str j => obtain ⟨t', rfl⟩ := ry; exact PySem.EqMixed.eq_bool_str (fin_bl I q (by simp))
    | _ => exact absurd (show false = true from hs) Bool.false_ne_true
  | int i =>
    obtain ⟨t, rfl⟩ := rx
    cases y with
    | non => cases ry; exact PySem.EqNone.eq_int_none (fin_bl I q (by simp))
    | int j => obtain ⟨t', rfl⟩ := ry; exact eq_int (fin_bl I q dec_int)
    | str j => obtain ⟨t', rfl⟩ := ry; exact PySem.EqMixed.eq_int_str (fin_bl I q (by simp))
    | _ => exact absurd (show false = true from hs) Bool.false_ne_true
  | str i =>
    obtain ⟨t, rfl⟩ := rx
    cases y with
    | non => cases ry; exact PySem.EqNone.eq_str_none (fin_bl I q (by simp))
    | bl j => cases ry; exact PySem.EqMixed.eq_str_bool (fin_bl I q (by simp))
    | int j => obtain ⟨t', rfl⟩ := ry; exact PySem.EqMixed.eq_str_int (fin_bl I q (by simp))
    | str j => obtain ⟨t', rfl⟩ := ry; exact eq_str (fin_bl I q dec_str)
    | _ => exact absurd (show false = true from hs) Bool.false_ne_true
  | byt i =>
    obtain ⟨t, rfl⟩ := rx
    cases y with
    | byt j => obtain ⟨t', rfl⟩ := ry; exact PySem.W.eq_bytes (fin_bl I q dec_byt)
    | _ => exact absurd (show false = true from hs) Bool.false_ne_true
  | _ => cases y <;> exact absurd (show false = true from hs) Bool.false_ne_true
theorem op_ne : OpR X (compareOp .NotEq) rNe := by
  intro pins s σ H x y v u Q I rx ry h
  obtain ⟨hs, q⟩ := h
  cases x with
  | non =>
    cases rx
    cases y with
    | non => cases ry; exact PySem.EqNone.ne_none_none (fin_bl I q (by simp))
    | bl j => cases ry; exact PySem.EqNone.ne_none_bool (fin_bl I q (by simp))
    | int j => obtain ⟨t', rfl⟩ := ry; exact PySem.EqNone.ne_none_int (fin_bl I q (by simp))
    | str j => obtain ⟨t', rfl⟩ := ry; exact PySem.EqNone.ne_none_str (fin_bl I q (by simp))
    | _ => exact absurd (show false = true from hs) Bool.false_ne_true
  | bl i =>
    cases rx
    cases y with
    | non => cases ry; exact PySem.EqNone.ne_bool_none (fin_bl I q (by simp))
    | bl j => cases ry; exact ne_bool (fin_bl I q (congrArg not dec_bl))
    | str j => obtain ⟨t', rfl⟩ := ry; exact PySem.EqMixed.ne_bool_str (fin_bl I q (by simp))
    | _ => exact absurd (show false = true from hs) Bool.false_ne_true
  | int i =>
    obtain ⟨t, rfl⟩ := rx
    cases y with
    | non => cases ry; exact PySem.EqNone.ne_int_none (fin_bl I q (by simp))
    | int j => obtain ⟨t', rfl⟩ := ry; exact ne_int (fin_bl I q (congrArg not dec_int))
    | str j => obtain ⟨t', rfl⟩ := ry; exact PySem.EqMixed.ne_int_str (fin_bl I q (by simp))
    | _ => exact absurd (show false = true from hs) Bool.false_ne_true
  | str i =>
    obtain ⟨t, rfl⟩ := rx
    cases y with
    | non => cases ry; exact PySem.EqNone.ne_str_none (fin_bl I q (by simp))
    | bl j => cases ry; exact PySem.EqMixed.ne_str_bool (fin_bl I q (by simp))
    | int j => obtain ⟨t', rfl⟩ := ry; exact PySem.EqMixed.ne_str_int (fin_bl I q (by simp))
    | str j => obtain ⟨t', rfl⟩ := ry; exact ne_str (fin_bl I q (congrArg not dec_str))
    | _ => exact absurd (show false = true from hs) Bool.false_ne_true
  | byt i =>
    obtain ⟨t, rfl⟩ := rx
    cases y with
    | byt j => obtain ⟨t', rfl⟩ := ry; exact PySem.W.ne_bytes (fin_bl I q (congrArg not dec_byt))
    | _ => exact absurd (show false = true from hs) Bool.false_ne_true
  | _ => cases y <;> exact absurd (show false = true from hs) Bool.false_ne_true
theorem op_lt : OpR X (compareOp .Lt) (rI0 fun i j => .bl (decide (i < j))) := opB0 fun _ _ _ _ _ _ _ q => lt_int q
theorem op_isN : OpR X (compareOp .Is) (fun x y H Q => y = .non ∧ Q (.bl (decide (x = .non))) H) := by
  intro pins s σ H x y v u Q I rx ry h
  obtain ⟨rfl, q⟩ := h
  cases ry
  refine is_none_gen (fin_bl I q ?_)
  cases x <;> first
    | (cases rx; rfl)
    | (obtain ⟨t, rfl⟩ := rx; rfl)
theorem OpR.or {f : Value → Value → Sem Value} {r r' : R2} (h : OpR X f r) (h' : OpR X f r') : OpR X f (fun x y H Q => r x y H Q ∨ r' x y H Q) := by
  intro pins s σ H x y v u Q I rx ry q
  rcases q with q | q
  · exact h pins s σ H x y v u Q I rx ry q
  · exact h' pins s σ H x y v u Q I rx ry q
theorem nomark (b : Expr) {op : CmpOp} (h : op ≠ .In := by decide) (h2 : op ≠ .NotIn := by decide) : behindInMarks op b = false := by
  have e1 : (op == CmpOp.In) = false := by cases op <;> first | rfl | exact absurd rfl h
  have e2 : (op == CmpOp.NotIn) = false := by cases op <;> first | rfl | exact absurd rfl h2
  cases b <;> simp [behindInMarks, e1, e2]
theorem pe_cmpR {op : CmpOp} {r : R2} (ho : OpR X (compareOp op) r) (ha : PE X a ta) (hb : PE X b tb) (hm : behindInMarks op b = false) : PE X (.Compare a [op] [b] pos) (tOp r ta tb) := by
  intro pins s σ H Q I h
  exact wpAny_Compare1 (binT ha hb I h fun v u s2 x y H2 I2 rx ry q => ho pins s2 σ H2 x y v u Q I2 rx ry q) hm
def tTest (t : TE) : TT := fun σ H Q => t σ H fun x H' => ∃ k, x = .bl k ∧ Q k H'
theorem pt_cmpR {op : CmpOp} {r : R2} (ho : OpR X (compareOp op) r) (ha : PE X a ta) (hb : PE X b tb) (hm : behindInMarks op b = false) : PT X (.Compare a [op] [b] pos) (tTest (tOp r ta tb)) := by
  intro pins s σ H Q I h
  refine wpAny_isTrue_Compare1 (thn (ha pins s σ H _ I h) fun v s1 ⟨x, H1, I1, r1, q1⟩ => thn (hb pins s1 σ H1 _ I1 q1) fun u s2 ⟨y, H2, I2, r2, q2⟩ =>
    thn (ho pins s2 σ H2 x y v u _ I2 r1 r2 q2) fun c s3 ⟨z, H3, I3, r3, k, e, q3⟩ => ?_) hm
  subst e
  cases r3
  exact wpAny_truthy_bool ⟨H3, I3, q3⟩
theorem line63 : (sizeLine : Nat) < 2 ^ 63 := by rw [sizeLine_eq]; decide
theorem op_add_str : OpR X (binaryOp .Add) (fun x y H Q => ∃ i j, x = .str i ∧ y = .str j ∧ i.length + j.length ≤ sizeLine ∧ Q (.str (i ++ j)) H) := by
  intro pins s σ H x y v u Q I rx ry h
  obtain ⟨i, j, rfl, rfl, hz, q⟩ := h
  obtain ⟨t, rfl⟩ := rx
  obtain ⟨t', rfl⟩ := ry
  exact add_str (fun t' tk => ⟨.str (i ++ j), H, I.tok _, ⟨_, rfl⟩, q⟩) hz
theorem vals1 {x : V} {us : List Value} (r : Vals [x] us) : ∃ u, us = [u] ∧ RelV x u := by
  cases r with
  | cons r1 r2 => cases r2; exact ⟨_, rfl, r1⟩
theorem vals2 {x y : V} {us : List Value} (r : Vals [x, y] us) : ∃ u w', us = [u, w'] ∧ RelV x u ∧ RelV y w' := by
  cases r with
  | cons r1 r2 =>
    cases r2 with
    | cons r3 r4 => cases r4; exact ⟨_, _, rfl, r1, r3⟩
theorem call_abs : CallR X (.builtin "abs") (fun xs H Q => ∃ i, xs = [.int i] ∧ Q (.int (if i < 0 then -i else i)) H) := by
  intro pins s σ H xs us Q I r h
  obtain ⟨i, rfl, q⟩ := h
  obtain ⟨u, rfl, t, rfl⟩ := vals1 r
  exact call_abs_int fun u tk => ⟨.int (if i < 0 then -i else i), H, I.tok _, ⟨_, rfl⟩, q⟩
end
end L2
namespace L2
open PySem PySem.Spec PyProof.Rows
structure ObjM (h : Heap) (x dx C : Addr) (mA : Str → Option Value) : Prop where
  obj : h.get? x = some (PySem.W.instObj C dx)
  ns : h.Ns1 dx mA
  ne : dx ≠ x
theorem lookIn_ns {h : Heap} {dx : Addr} {mA : Str → Option Value} (n : h.Ns1 dx mA) : ∃ od, h.get? dx = some od ∧ ∀ name, PySem.W.lookIn name od = some (mA name) := by
  obtain ⟨o, es, ep, ho, hd, hk, _, hm⟩ := n
  refine ⟨o, ho, fun name => ?_⟩
  have e := hm name
  unfold nsFind findBy at e
  rw [← Array.find?_toList] at e
  unfold PySem.W.lookIn
  rw [hd]
  dsimp only
  split
  · rename_i y q
    rw [q] at e
    exact congrArg some e
  · rename_i q
    rw [q] at e
    have a : es.toList.any (·.refKey) = false := by
      rw [List.any_eq_false]
      intro y hy
      obtain ⟨z, t, hkey⟩ := hk y (Array.mem_toList_iff.mp hy)
      simp [DictEntry.refKey, hkey]
    have a' : ¬ es.toList.any (·.refKey) = true := by rw [a]; exact Bool.false_ne_true
    rw [if_neg a']
    exact congrArg some e
theorem ObjM.look {h : Heap} {x dx C : Addr} {mA : Str → Option Value} (I : ObjM h x dx C mA) : ∃ od, PySem.W.InstAt h x (PySem.W.instObj C dx) C (some od) ∧ ∀ name, PySem.W.lookIn name od = some (mA name) :=
  let ⟨od, ho, hl⟩ := lookIn_ns I.ns
  ⟨od, ⟨I.obj, rfl, rfl, ho⟩, hl⟩
section
variable {prog : Program} {w : World} {A : Around} {E : Value → Shared → Prop} {s : Shared} {K : PySem.W.Frag} {x dx C f : Addr} {mA : Str → Option Value} {name : Str} {v : Value}
end
def putF (f : Str) (v : V) : List (Str × V) → List (Str × V)
  | [] => [(f, v)]
  | (g, x) :: r => if g = f then (g, v) :: r else (g, x) :: putF f v r
theorem lookup_putF (f g : Str) (v : V) : ∀ fs : List (Str × V), (putF f v fs).lookup g = if g = f then some v else fs.lookup g
  | [] => by
    show List.lookup g [(f, v)] = _
    by_cases h : g = f
    · have hb : (g == f) = true := beq_iff_eq.mpr h
      simp only [List.lookup, hb, if_pos h]
    · have hb : (g == f) = false := beq_eq_false_iff_ne.mpr h
      simp only [List.lookup, hb, if_neg h]
  | (k, x) :: r => by
    have ih := lookup_putF f g v r
    rw [show putF f v ((k, x) :: r) = (if k = f then (k, v) :: r else (k, x) :: putF f v r) from rfl]
    by_cases hk : k = f
    · rw [if_pos hk]
      by_cases h : g = k
      · have hb : (g == k) = true := beq_iff_eq.mpr h
        simp only [List.lookup, hb, if_pos (h.trans hk)]
      · have hb : (g == k) = false := beq_eq_false_iff_ne.mpr h
        simp only [List.lookup, hb, if_neg (fun e : g = f => h (e.trans hk.symm))]
    · rw [if_neg hk]
      by_cases h : g = k
      · have hb : (g == k) = true := beq_iff_eq.mpr h
        simp only [List.lookup, hb, if_neg (fun e : g = f => hk (h.symm.trans e))]
      · have hb : (g == k) = false := beq_eq_false_iff_ne.mpr h
        simp only [List.lookup, hb]
        exact ih
theorem RelO.some_of {v : V} {o : Option Value} (r : RelO (some v) o) : ∃ u, o = some u ∧ RelV v u := by
  cases o with
  | none => exact (show False from r).elim
  | some u => exact ⟨u, rfl, r⟩
theorem handed_of {v : V} {u : Value} (r : RelV v u) : PySem.W.handedIn u = true := by
  cases v with
  | non => cases (show u = Value.none from r); rfl
  | bl b => cases (show u = Value.bool b from r); rfl
  | int i => obtain ⟨t, e⟩ := (show ∃ t, u = Value.int i t from r); cases e; rfl
  | str x => obtain ⟨t, e⟩ := (show ∃ t, u = Value.str x t from r); cases e; rfl
  | byt b => obtain ⟨t, e⟩ := (show ∃ t, u = Value.bytes b t from r); cases e; rfl
  | flt b => obtain ⟨t, e⟩ := (show ∃ t, u = Value.float b t from r); cases e; rfl
  | ref a => cases (show u = Value.ref a from r); rfl
  | ty n => cases (show u = Value.type n from r); rfl
section
variable {P : Program} {w : World} {H H' : Hp} {h h' : Heap} {a C dx : Addr} {fs fs' : List (Str × V)}
theorem ins_get (hok : HOk P w H h) (e : H a = some (.ins C dx fs)) : ∃ mA, ObjM h a dx C mA ∧ (∀ f, RelO (fs.lookup f) (mA f)) ∧ PySem.Within mA (fs.map (·.1)) ∧ fs.length ≤ 1000 ∧ H dx = some (.own a) := by
  obtain ⟨d, z, ne, ob, mA, n, r, q⟩ := (show ObjOk P w H h a (.ins C dx fs) from hok a _ e)
  exact ⟨mA, ⟨ob, n, ne⟩, r, q, z, d⟩
end
structure Cls (K : PySem.W.Frag) (C : Addr) : Prop where
  pg : PySem.W.plainGet K C Str.empty = true
  hd : PySem.W.hasDictIn K C = true
  po : PySem.W.plainOver K C = true
  sa : PySem.W.findIn K (.ref C) "__setattr__" = some (some (.builtin "object.__setattr__"))
theorem Cls.get {K : PySem.W.Frag} {C : Addr} (c : Cls K C) (f : Str) : PySem.W.plainGet K C f = true := c.pg
section
variable {X : Cx} {pins : List (Addr × Obj)} {σ : St} {H : Hp} {s : Shared} {a C dx : Addr} {fs : List (Str × V)} {f : Str} {v : V} {A : Around} {E : Value → Shared → Prop}
theorem attr_of {prog : Program} {w : World} {env : Env} {e : Expr} {f : Str} {pos : Pos} {s : Shared} {Q : Value → Shared → Prop} (hb : attributeBase e f env (eval e env) = eval e env)
    (h : wpAny (model prog w) A (eval e env) (fun o s₁ => wpAny (model prog w) A (getAttr o f true) Q E s₁) E s) : wpAny (model prog w) A (eval (.Attribute e f pos) env) Q E s :=
  Attribute_any_ h (by rw [arm_eval_Attribute, hb])
end
section
variable {X : Cx} {o e value : Expr} {f : Str} {pos pos' tpos : Pos} {ta tv : TE}
end
section
variable {X : Cx} {pins : List (Addr × Obj)} {σ : St} {H : Hp} {s : Shared} {A : Around} {E : Value → Shared → Prop} {Q : Value → Shared → Prop} {c : Value} {b : Bool}
inductive TyOf (K : PySem.W.Frag) (H : Hp) : V → Value → Prop where
  | non : TyOf K H .non (.type "NoneType")
  | bl (x : Bool) : TyOf K H (.bl x) (.type "bool")
  | int (i : Int) : TyOf K H (.int i) (.type "int")
  | str (x : Str) : TyOf K H (.str x) (.type "str")
  | flt (x : UInt64) : TyOf K H (.flt x) (.type "float")
  | lst {a : Addr} {xs : List V} (e : H a = some (.lst xs)) : TyOf K H (.ref a) (.type "list")
  | frz {a : Addr} {o : Obj} {xs : List V} (e : H a = some (.frz o (.lst xs))) : TyOf K H (.ref a) (.type "list")
  | tup {a : Addr} {xs : List V} (e : H a = some (.tup xs)) : TyOf K H (.ref a) (.type "tuple")
  | dK {a : Addr} {kvs : List (Key × V)} (e : H a = some (.dK kvs)) : TyOf K H (.ref a) (.type "dict")
  | dT {a : Addr} {kvs : List (List Key × V)} (e : H a = some (.dT kvs)) : TyOf K H (.ref a) (.type "dict")
  | ins {a C dx : Addr} {fs : List (Str × V)} (e : H a = some (.ins C dx fs)) (cl : Cls K C) (ha : PySem.W.findIn K (.ref C) "__class__" = some (some (.builtin "object.__class__")))
      (hn : PySem.W.specialIn K (.builtin "object.__class__") "__get__" = some (some (.builtin "getset_descriptor.__get__"))) (htk : PySem.W.takesIn K (.builtin "object.__class__") = some true)
      (hm : PySem.W.mroIn K C (.type "object") = some true) : TyOf K H (.ref a) (.ref C)
theorem isinst_ok {x : V} {u t : Value} (I : Inv X pins σ H s) (rx : RelV x u) (ty : TyOf X.K H x t) (e : PySem.W.kitOne X.K t c = some b) (h : ∀ tk, Q (.bool b) { s with toks := tk }) :
    wpAny (model X.prog X.w) A (call (.builtin "isinstance") [u, c]) Q E s := by
  cases ty with
  | non => cases (show u = Value.none from rx); exact PySem.W.kia_one PySem.W.kitx_none I.kIn True.intro e (fun z => nomatch z) h
  | bl y => cases (show u = Value.bool y from rx); exact PySem.W.kia_one PySem.W.kitx_bool I.kIn True.intro e (fun z => nomatch z) h
  | int i => obtain ⟨t, q⟩ := (show ∃ t, u = Value.int i t from rx); cases q; exact PySem.W.kia_one PySem.W.kitx_int I.kIn True.intro e (fun z => nomatch z) h
  | str y => obtain ⟨t, q⟩ := (show ∃ t, u = Value.str y t from rx); cases q; exact PySem.W.kia_one PySem.W.kitx_str I.kIn True.intro e (fun z => nomatch z) h
  | flt y => obtain ⟨t, q⟩ := (show ∃ t, u = Value.float y t from rx); cases q; exact PySem.W.kia_one PySem.W.kitx_float I.kIn True.intro e (fun z => nomatch z) h
  | @lst a xs ea =>
    cases (show u = Value.ref a from rx)
    obtain ⟨_, _, n, _, h1⟩ := (show ObjOk X.prog X.w H s.heap a (.lst xs) from I.hok a _ ea)
    exact PySem.W.kia_one PySem.W.kitx_list I.kIn ⟨_, h1, rfl⟩ e (fun z => nomatch z) h
  | @frz a ob xs ea =>
    cases (show u = Value.ref a from rx)
    obtain ⟨_, _, _, n, _, h1⟩ := (show ObjOk X.prog X.w H s.heap a (.frz ob (.lst xs)) from I.hok a _ ea)
    exact PySem.W.kia_one PySem.W.kitx_list I.kIn ⟨_, h1, rfl⟩ e (fun z => nomatch z) h
  | @tup a xs ea =>
    cases (show u = Value.ref a from rx)
    obtain ⟨_, _, _, p⟩ := (show ObjOk X.prog X.w H s.heap a (.tup xs) from I.hok a _ ea)
    obtain ⟨o, h1, h2, _⟩ := p
    exact PySem.W.kia_one PySem.W.kitx_tuple I.kIn ⟨o, h1, h2⟩ e (fun z => nomatch z) h
  | @dK a kvs ea =>
    cases (show u = Value.ref a from rx)
    obtain ⟨_, _, vs, _, p⟩ := (show ObjOk X.prog X.w H s.heap a (.dK kvs) from I.hok a _ ea)
    obtain ⟨o, es, ep, h1, h2, _⟩ := p
    exact PySem.W.kia_one PySem.W.kitx_dict I.kIn ⟨o, h1, h2.1⟩ e (fun z => nomatch z) h
  | @dT a kvs ea =>
    cases (show u = Value.ref a from rx)
    obtain ⟨_, _, xs, _, o, es, ep, h1, h2, _⟩ := (show ObjOk X.prog X.w H s.heap a (.dT kvs) from I.hok a _ ea)
    exact PySem.W.kia_one PySem.W.kitx_dict I.kIn ⟨o, h1, h2.1⟩ e (fun z => nomatch z) h
  | @ins a C dx fs ea cl ha hn htk hm =>
    cases (show u = Value.ref a from rx)
    obtain ⟨mA, O, _⟩ := ins_get I.hok ea
    obtain ⟨od, J, _⟩ := O.look
    exact PySem.W.kia_one (PySem.W.kitx_own (cl.get _) cl.hd ha hn htk hm) I.kIn J e (fun z => nomatch z) h
end
end L2
namespace L2
open PySem PySem.Spec PyProof.Rows
structure Room (k : Nat) (A : Around) : Prop where
  hd : A.handled = none
  dp : A.depth + 3 * k + 5 < recursionLimit
  un : A.units + 16 * k + 200 < cLine
theorem Room.mono {j k : Nat} {A : Around} (r : Room k A) (h : j ≤ k) : Room j A := ⟨r.hd, by have := r.dp; omega, by have := r.un; omega⟩
theorem Room.deeper {k : Nat} {A : Around} (r : Room (k + 1) A) (env : Env) : Room k (A.deeper env) :=
  ⟨r.hd, by have := r.dp; show A.depth + 1 + 3 * k + 5 < _; omega, by have := r.un; show A.units + 3 + 16 * k + 200 < _; omega⟩
theorem make_depth {A : Around} {C : Addr} {us : List Value} {kw : List (Str × Value)} : (A.under (.builtin "type.__call__" ⟨.ref C :: us, kw⟩)).depth = A.depth + 1 := by
  first | rfl | simp [Around.under, Code.weight, Code.isCreation, Code.isGuard, Code.isCaller, Code.frames, Code.isFrame, guardIds]
theorem make_units {A : Around} {C : Addr} {us : List Value} {kw : List (Str × Value)} : (A.under (.builtin "type.__call__" ⟨.ref C :: us, kw⟩)).units = A.units + 1 := by
  first | rfl | simp [Around.under, Code.cUnits, Code.frames, Code.isFrame]
theorem Room.make {k : Nat} {A : Around} (r : Room (k + 1) A) (C : Addr) (us : List Value) (kw : List (Str × Value)) : Room k (A.under (.builtin "type.__call__" ⟨.ref C :: us, kw⟩)) :=
  ⟨r.hd, by have := r.dp; rw [make_depth]; omega, by have := r.un; rw [make_units]; omega⟩
theorem Room.depth {k : Nat} {A : Around} (r : Room k A) : A.depth < recursionLimit := by have := r.dp; omega
theorem Room.units {k : Nat} {A : Around} (r : Room k A) : A.units + 64 < cLine := by have := r.un; omega
theorem Room.units0 {k : Nat} {A : Around} (r : Room k A) : A.units < cLine := by have := r.un; omega
def tNil : TA := fun _ H Q => Q [] H
def tCons (ta : TE) (tr : TA) : TA := fun σ H Q => ta σ H fun x H1 => tr σ H1 fun xs H2 => Q (x :: xs) H2
section
variable {X : Cx} {e : Expr} {es : List Expr} {te : TE} {t : TA} {pos : Pos}
theorem pa_nil : PA X [] tNil := fun _ _ _ _ H Q I h => Calls.spliced_nil ⟨[], H, I, .nil, h⟩
theorem pa_cons (ha : PE X e te) (hr : PA X es t) (hs : starEach (e :: es) X.env = (false, eval e X.env) :: starEach es X.env := by rfl) : PA X (e :: es) (tCons te t) := by
  intro pos pins s σ H Q I h
  rw [hs]
  show wpAny _ _ (spliced ((false, eval e X.env) :: backTo pos (starEach es X.env))) _ _ s
  refine Calls.spliced_cons (thn (ha pins s σ H _ I h) fun u s1 ⟨x, H1, I1, r1, q1⟩ => ?_)
  exact thn (hr pos pins s1 σ H1 _ I1 q1) fun us s2 ⟨xs, H2, I2, r2, q2⟩ => ⟨x :: xs, H2, I2, .cons r1 r2, q2⟩
def tTup (t : TA) : TE := fun σ H Q => t σ H fun xs H1 => xs.length ≤ sizeLine ∧ ∀ p, H1 p = none → Q (.ref p) (upd H1 p (.tup xs))
def tLst (t : TA) : TE := fun σ H Q => t σ H fun xs H1 => xs.length ≤ sizeLine ∧ ∀ p, H1 p = none → Q (.ref p) (upd H1 p (.lst xs))
theorem pe_tup {x1} (h : PA X es t) : PE X (.Tuple es x1 pos) (tTup t) := by
  intro pins s σ H Q I hq
  refine wpAny_Tuple_spliced (thn (h pos pins s σ H _ I hq) fun us s1 ⟨xs, H1, I1, r, z, q⟩ => ⟨by rw [← r.length]; exact z, ?_⟩)
  have hf : H1 s1.heap.objs.size = none := I1.hok.fresh (Nat.le_refl _)
  refine ⟨.ref s1.heap.objs.size, upd H1 s1.heap.objs.size (.tup xs), I1.laid (t' := s1.toks) (fun b u e => Heap.get?_push_of_some _ e) (Nat.le_refl _) ?_, rfl, q _ hf⟩
  exact ⟨z, us, r, ⟨_, Heap.get?_push_size _ rfl, rfl, _, rfl⟩⟩
theorem pe_lst (h : PA X es t) : PE X (.List es pos) (tLst t) := by
  intro pins s σ H Q I hq
  refine wpAny_List_spliced (thn (h pos pins s σ H _ I hq) fun us s1 ⟨xs, H1, I1, r, z, q⟩ => ⟨by rw [← r.length]; exact z, ?_⟩)
  have hf : H1 s1.heap.objs.size = none := I1.hok.fresh (Nat.le_refl _)
  refine ⟨.ref s1.heap.objs.size, upd H1 s1.heap.objs.size (.lst xs), I1.laid (t' := s1.toks) (fun b u e => Heap.get?_push_of_some _ e) (Nat.le_refl _) ?_, rfl, q _ hf⟩
  exact ⟨z, us, 0, r, Heap.get?_push_size _ rfl⟩
end
abbrev Sp := List V → Hp → VK → XK → Prop
abbrev CXT := List Env → Hp → Shared → XK → Value → Shared → Prop
structure Env0 (P : Program) (w : World) (K : PySem.W.Frag) (mg : Str → Option Value) (base : Heap) (A : Around) (outer : List Env) (s : Shared) (H : Hp) : Prop where
  frames : A.frames = some outer
  mod : Mod K mg base
  bs : ∀ b o, base.get? b = some o → s.heap.get? b = some o ∧ H b = none
  bsz : base.objs.size ≤ s.heap.objs.size
  funs : s.heap.FunFrames base outer
  frf : ∀ b ∈ frs outer, H b = none
  hok : HOk P w H s.heap
  bare : AllBare s.gens
def CE (outer : List Env) (P : Program) (w : World) (H : Hp) (s : Shared) (Q : VK) (u : Value) (s' : Shared) : Prop :=
  ∃ v H', s'.os = s.os ∧ AllBare s'.gens ∧ Un (frs outer) [] H H' s.heap s'.heap ∧ HOk P w H' s'.heap ∧ RelV v u ∧ Q v H'
def CR (CX : CXT) (outer : List Env) (P : Program) (w : World) (H : Hp) (s : Shared) (Q : VK) (E : XK) (r : Result) (s' : Shared) : Prop :=
  match r with
  | .ok (.ret u) => CE outer P w H s Q u s'
  | .ok _ => False
  | .error e => CX outer H s E e s'
structure FnOk (P : Program) (w : World) (K : PySem.W.Frag) (mg : Str → Option Value) (base : Heap) (CX : CXT) (k : Nat) (f : Addr) (fd : FuncData) (ps : List Str) (sp : Sp) : Prop where
  len : ∀ vs H Q E, sp vs H Q E → vs.length = ps.length
  run : ∀ (A : Around) (outer : List Env) (s : Shared) (H : Hp) (args : Args) (us : List Value) (vs : List V) (Q : VK) (E : XK), Room k A → Env0 P w K mg base A outer s H → BindsTo s fd args (ps.zip us) → Vals vs us → sp vs H Q E →
    codeAny (model P w) A (.call (.ref f) args) (CR CX outer P w H s Q E) s
theorem Env0.make {P : Program} {w : World} {K : PySem.W.Frag} {mg : Str → Option Value} {base : Heap} {A : Around} {outer : List Env} {s : Shared} {H : Hp} (e : Env0 P w K mg base A outer s H) (C : Addr) (us : List Value) (kw : List (Str × Value)) :
    Env0 P w K mg base (A.under (.builtin "type.__call__" ⟨.ref C :: us, kw⟩)) outer s H := ⟨by first | exact e.frames | (simpa [Around.under, Code.envs, Code.isFrame, pushEnvs] using e.frames), e.mod, e.bs, e.bsz, e.funs, e.frf, e.hok, e.bare⟩
section
variable {X : Cx} {pins : List (Addr × Obj)} {σ : St} {H : Hp} {s s' : Shared}
theorem Inv.env0 (I : Inv X pins σ H s) : Env0 X.prog X.w X.K X.mg X.base X.A X.stack s H :=
  ⟨I.ok.frames, I.ok.mod, I.bs, Nat.le_trans I.ok.bsz I.sz, I.stack, I.stkFree, I.hok, I.bare⟩
theorem Inv.after {Q : VK} {u : Value} (I : Inv X pins σ H s) (h : CE X.stack X.prog X.w H s Q u s') : EP X pins σ Q u s' := by
  obtain ⟨v, H', os, bare, un, hok, r, q⟩ := h
  obtain ⟨hh, g, d, t, os'⟩ := s'
  obtain rfl : os' = s.os := os
  exact ⟨v, H', I.call (h' := hh) (g' := g) (d' := d) (t' := t) (ch := []) un hok bare (fun b z => absurd z (by simp)), r, q⟩
end
def Binds (K : PySem.W.Frag) (fd : FuncData) (ps : List Str) (ds : List Value) : Prop :=
  ∀ (s : Shared) (us : List Value), K.In s.heap → (us ++ ds).length = ps.length → BindsTo s fd ⟨us, []⟩ (ps.zip (us ++ ds))
theorem Binds.all {K : PySem.W.Frag} {fd : FuncData} {ps : List Str} (h : ∀ us : List Value, us.length = ps.length → bindArgs fd ⟨us, []⟩ = pure (ps.zip us)) : Binds K fd ps [] := fun s us _ hl => by
  rw [List.append_nil] at hl ⊢
  exact .of_eq (h us hl)
section
variable {X : Cx} {CX : CXT} {k : Nat} {f C : Addr} {fd : FuncData} {ps : List Str} {sp : Sp} {dvs : List V} {ds : List Value} {E : XK} {x m : Str} {p pos apos : Pos} {e o : Expr} {es : List Expr} {ta : TE} {t : TA}
end
section
variable {X : Cx} {CX : CXT} {k : Nat} {f C : Addr} {fd : FuncData} {ps ks : List Str} {sp : Sp} {E : XK} {x m : Str} {p pos apos kpos : Pos} {e o : Expr} {es : List Expr} {kws : List Keyword} {te ta : TE} {t tk : TA} {nm : Option Str}
variable {g : List Value → List Value → List Value} {gV : List V → List V → List V}
end
structure FnScope (N P : List Str) (sc : Scope) : Prop where
  kind : sc.kind = .function
  co : sc.isCoroutine = false
  gen : sc.isGenerator = false
  nd : N.Nodup
  pre : N.take P.length = P
  par : ∀ x ∈ P, sc.names.lookup x = some .local ∨ sc.names.lookup x = some .cell
  nofree : ∀ y ∈ sc.names, y.2 ≠ .free
theorem bindL_out {kindOf : Str → Option NameKind} {x : Str} : ∀ {binds : List (Str × Value)} {m : Str → Option Value}, (∀ v, (x, v) ∉ binds) → bindL kindOf binds m x = m x
  | [], _, _ => rfl
  | (n, v) :: r, m, h => by
    unfold bindL
    rw [bindL_out fun w hw => h w (List.mem_cons_of_mem _ hw)]
    split
    · have : x ≠ n := by rintro rfl; exact h v List.mem_cons_self
      simp [this]
    · rfl
theorem bindC_out {kindOf : Str → Option NameKind} {x : Str} : ∀ {binds : List (Str × Value)} {m : Str → Option Value}, (∀ v, (x, v) ∉ binds) → bindC kindOf binds m x = m x
  | [], _, _ => rfl
  | (n, v) :: r, m, h => by
    unfold bindC
    rw [bindC_out fun w hw => h w (List.mem_cons_of_mem _ hw)]
    split
    · rfl
    · have : x ≠ n := by rintro rfl; exact h v List.mem_cons_self
      simp [this]
theorem bindL_get {kindOf : Str → Option NameKind} {x : Str} {v : Value} : ∀ {P : List Str} {vs : List Value} {i : Nat} {m : Str → Option Value}, P.Nodup → P[i]? = some x → vs[i]? = some v → kindOf x = some .local →
    bindL kindOf (P.zip vs) m x = some v
  | [], _, _, _, _, h, _, _ => by simp at h
  | _ :: _, [], _, _, _, _, h, _ => by simp at h
  | p :: P, w :: vs, 0, m, nd, h1, h2, hk => by
    simp at h1 h2; subst h1; subst h2
    show bindL kindOf ((p, w) :: P.zip vs) m p = _
    unfold bindL
    rw [bindL_out fun v hv => (List.nodup_cons.mp nd).1 (List.of_mem_zip hv).1, if_pos hk]
    simp
  | p :: P, w :: vs, i + 1, m, nd, h1, h2, hk => by
    show bindL kindOf ((p, w) :: P.zip vs) m x = _
    unfold bindL
    exact bindL_get (i := i) (List.nodup_cons.mp nd).2 (by simpa using h1) (by simpa using h2) hk
theorem bindC_get {kindOf : Str → Option NameKind} {x : Str} {v : Value} : ∀ {P : List Str} {vs : List Value} {i : Nat} {m : Str → Option Value}, P.Nodup → P[i]? = some x → vs[i]? = some v → kindOf x ≠ some .local →
    bindC kindOf (P.zip vs) m x = some v
  | [], _, _, _, _, h, _, _ => by simp at h
  | _ :: _, [], _, _, _, _, h, _ => by simp at h
  | p :: P, w :: vs, 0, m, nd, h1, h2, hk => by
    simp at h1 h2; subst h1; subst h2
    show bindC kindOf ((p, w) :: P.zip vs) m p = _
    unfold bindC
    rw [bindC_out fun v hv => (List.nodup_cons.mp nd).1 (List.of_mem_zip hv).1, if_neg hk]
    simp
  | p :: P, w :: vs, i + 1, m, nd, h1, h2, hk => by
    show bindC kindOf ((p, w) :: P.zip vs) m x = _
    unfold bindC
    exact bindC_get (i := i) (List.nodup_cons.mp nd).2 (by simpa using h1) (by simpa using h2) hk
def start (N : List Str) (vs : List V) : St := vs.map some ++ List.replicate (N.length - vs.length) none
def cxOf (CX : CXT) (P : Program) (w : World) (K : PySem.W.Frag) (mg : Str → Option Value) (base : Heap) (N : List Str) (qual : Str) (scope : Scope) (f : Addr) (cd : Value) (A : Around) (outer : List Env) (s : Shared) (H : Hp) (E : XK) : Cx where
  prog := P
  w := w
  K := K
  mg := mg
  base := base
  A := A.deeper (envOfC qual scope s.heap.objs.size f cd)
  N := N
  s₀ := s
  H₀ := H
  env := envOfC qual scope s.heap.objs.size f cd
  outer := outer
  stack := envOfC qual scope s.heap.objs.size f cd :: outer
  ex := []
  calm := true
  fn := fun _ => true
  pn := []
  xe := fun e s' => wpAny (model P w) (A.deeper (envOfC qual scope s.heap.objs.size f cd)) (leaving (envOfC qual scope s.heap.objs.size f cd) e) (fun _ s'' => CX outer H s E e s'') (fun e' s'' => CX outer H s E e' s'') s'
theorem cell_has {sc : Scope} {n : Nat} {x : Str} (h : sc.names.lookup x = some .cell) : ∃ c, (cellsFrom n sc.names []).lookup x = some c := by
  have q := PySem.W.cellsFrom_some sc.names n [] (.inl h)
  exact Option.isSome_iff_exists.mp q
theorem inv_start {CX : CXT} {P : Program} {w : World} {K : PySem.W.Frag} {mg : Str → Option Value} {base : Heap} {N ps : List Str} {qual : Str} {scope : Scope} {f : Addr} {cd : Value} {A : Around} {outer : List Env} {s s1 : Shared} {H : Hp} {E : XK} {us : List Value} {vs : List V}
    (S : FnScope N ps scope) (hd : A.handled = none) (e0 : Env0 P w K mg base A outer s H) (hl : vs.length = ps.length) (r : Vals vs us)
    (x : InCallC s s.heap.objs.size (bindL (envOfC qual scope s.heap.objs.size f cd).kindOf (ps.zip us) fun _ => none) (cellsFrom (s.heap.objs.size + 1) scope.names []) (bindC (envOfC qual scope s.heap.objs.size f cd).kindOf (ps.zip us) fun _ => none) s1) :
    Inv (cxOf CX P w K mg base N qual scope f cd A outer s H E) [] (start N vs) H s1 := by
  have hpl : ps.length ≤ N.length := by have := congrArg List.length S.pre; rw [List.length_take] at this; omega
  obtain ⟨h1, tk, rfl, hk⟩ := x.done
  have noA : ∀ b : Addr, b ∉ (cxOf CX P w K mg base N qual scope f cd A outer s H E).ex := fun b z => absurd (show b ∈ ([] : List Addr) from z) (by simp)
  refine ⟨⟨e0.mod, S.kind, rfl, rfl, Nat.le_refl _, fun y z c h1 h2 => ?_, fun y hy => ?_, fun y c _ h => ?_, fun _ => hd, Around.frames_deeper e0.frames, .inr ⟨rfl, rfl⟩, fun b z => absurd z (noA b), e0.bs, e0.bsz, fun b _ _ => noA b, fun b z => absurd z (noA b), e0.funs, e0.frf⟩,
    rfl, e0.bare, Un.kept hk, ⟨_, x.toInCall.ns, fun i y v h1 h2 h3 => ?_⟩, fun y c h => ⟨_, x.cell y c h⟩, e0.hok.fresh (Nat.le_refl _), fun y c h => ?_, fun p hp => absurd (show p ∈ ([] : List (Addr × Obj)) from hp) (by simp), e0.hok.kept hk, ?_⟩
  · exact name_of_addr x.apart (PySem.mem_of_lookup h1) (PySem.mem_of_lookup h2)
  · have hy : scope.names.lookup y = some .cell ∨ scope.names.lookup y = some .free := hy
    rcases hy with hy | hy
    · exact cell_has hy
    · exact absurd rfl (S.nofree _ (PySem.mem_of_lookup hy))
  · exact Nat.le_of_lt (x.above y c (PySem.mem_of_lookup h))
  · have hi : i < vs.length := by
      unfold start at h2
      by_cases hi : i < vs.length
      · exact hi
      · rw [List.getElem?_append_right (by simpa using hi)] at h2
        rw [List.getElem?_replicate] at h2
        split at h2 <;> cases h2
    have ha : vs[i]? = some v := by
      unfold start at h2
      rw [List.getElem?_append_left (by simpa using hi), List.getElem?_map] at h2
      cases e : vs[i]? with
      | none => rw [e] at h2; cases h2
      | some a => rw [e] at h2; cases h2; rfl
    obtain ⟨u, hu, rv⟩ := r.get ha
    have hp : ps[i]? = some y := by
      rw [← S.pre, List.getElem?_take_of_lt (by omega)]; exact h1
    have ndP : ps.Nodup := by rw [← S.pre]; exact S.nd.sublist (List.take_sublist _ _)
    refine ⟨u, rv, ?_⟩
    rcases S.par y (List.mem_of_getElem? hp) with k | k
    · exact .inl ⟨k, bindL_get ndP hp hu k⟩
    · obtain ⟨c, e⟩ := cell_has (n := s.heap.objs.size + 1) k
      refine .inr ⟨.inl k, c, e, ?_⟩
      have q := x.cell y c e
      rw [bindC_get ndP hp hu (by show scope.names.lookup y ≠ _; rw [k]; decide)] at q
      exact q
  · exact e0.hok.fresh (Nat.le_of_lt (x.above y c (PySem.mem_of_lookup h)))
  · unfold start
    show _ = N.length
    rw [List.length_append, List.length_map, List.length_replicate]
    omega
theorem fn_of {CX : CXT} {P : Program} {w : World} {K : PySem.W.Frag} {mg : Str → Option Value} {base : Heap} {k : Nat} {f : Addr} {name qual : Str} {params : Arguments} {body : List Stmt} {scope : Scope} {dV kV doc pm cdv ct oc : Value} {an od : Option Addr}
    {osl : Array (Option Value)} {N ps : List Str} {sp : Sp} (lk : K.lookup f = some ⟨oc, od, .func (PySem.W.fnOf name qual params body scope dV kV doc pm an cdv ct), osl⟩) (hcd : PySem.W.codeIn K cdv qual = true) (S : FnScope N ps scope)
    (len : ∀ vs H Q E, sp vs H Q E → vs.length = ps.length)
    (hbody : ∀ (A : Around) (outer : List Env) (s : Shared) (H : Hp) (vs : List V) (Q : VK) (E : XK), Room k (A.deeper (envOfC qual scope s.heap.objs.size f cdv)) → sp vs H Q E →
      ∃ t, PSs (cxOf CX P w K mg base N qual scope f cdv A outer s H E) body t ∧ t { nx := fun _ H' => Q .non H', rt := Q } (start N vs) H) :
    FnOk P w K mg base CX (k + 1) f (PySem.W.fnOf name qual params body scope dV kV doc pm an cdv ct) ps sp := by
  refine ⟨len, fun A outer s H args us vs Q E hr e0 hb r hsp => ?_⟩
  have hl := len _ _ _ _ hsp
  have KX : K.In s.heap := e0.mod.kin.keeps fun b o e => (e0.bs b o e).1
  have lim : s.heap.NoLimit := e0.mod.nolimit.keeps fun b o e => (e0.bs b o e).1
  have hkind : ∀ y ∈ ps.zip us, scope.names.lookup y.1 = some .local ∨ (scope.names.lookup y.1 = some .cell ∧ ((cellsFrom (s.heap.objs.size + 1) scope.names []).lookup y.1).isSome = true) := fun ⟨n, v⟩ hy => by
    rcases S.par n (List.of_mem_zip hy).1 with q | q
    · exact .inl q
    · exact .inr ⟨q, PySem.W.cellsFrom_some _ _ _ (.inl q)⟩
  refine codeAny_call_function hr.depth (KX _ _ lk) rfl S.co S.gen rfl (PySem.W.codeRec_of KX hcd) (hb _ _ _ _ ?_)
  refine wpAny_newFunctionEnv_cells S.kind hkind fun env he s1 x => ?_
  subst he
  refine ⟨lim.keeps x.toInCall.keep, codeAny_func ?_⟩
  obtain ⟨t, ht, hq⟩ := hbody A outer s H vs Q E (hr.deeper _) hsp
  have I : Inv (cxOf CX P w K mg base N qual scope f cdv A outer s H E) [] (start N vs) H s1 := inv_start S hr.hd e0 hl r x
  refine wpAny_mono (ht [] s1 (start N vs) H _ I hq) (fun fl s' hs => ?_) fun e s' hs => hs
  have fin : ∀ {σ' : St} {H' : Hp} {v : V} {u : Value}, Inv (cxOf CX P w K mg base N qual scope f cdv A outer s H E) [] σ' H' s' → RelV v u → Q v H' → CE outer P w H s Q u s' :=
    fun {σ' H' v u} J rv q => ⟨v, H', J.os, J.bare, J.base, J.hok, rv, q⟩
  cases fl with
  | ret u =>
    obtain ⟨v, σ', H', J, rv, q⟩ := hs
    exact fin J rv q
  | next =>
    obtain ⟨σ', H', J, q⟩ := hs
    exact fin (v := V.non) (u := Value.none) J rfl q
  | brk =>
    obtain ⟨_, _, _, q⟩ := hs
    exact False.elim q
  | cont =>
    obtain ⟨_, _, _, q⟩ := hs
    exact False.elim q
end L2
namespace L2
open PySem PySem.Spec PyProof.Rows
section
variable {X : Cx} {x : Str} {p pos : Pos} {e : Expr} {es : List Expr} {t : TA} {id T : String} {r : List V → Hp → VK → Prop}
def tCB (r : List V → Hp → VK → Prop) (t : TA) : TE := fun σ H Q => t σ H fun vs H1 => r vs H1 Q
theorem pe_callB (hc : CallR X (.builtin id) r) (hg : Gl X x) (hm : X.mg x = none) (hv : bootBuiltins x = some (.builtin id)) (ha : PA X (e :: es) t) (hn : x ≠ "__name__" := by decide) (hdb : (x == ("__debug__" : Str)) = false := by decide)
    (he : starEach (e :: es) X.env = (false, eval e X.env) :: starEach es X.env := by rfl) (hpl : (backTo pos (starEach es X.env)).any (·.1) = false := by rfl) : PE X (.Call (.Name x p) (e :: es) [] pos) (tCB r t) := by
  intro pins s σ H Q I h
  refine wpAny_Call_Name_kw (ld_blt I hg hm hv ?_ hn hdb)
  exact PyProof.Rows.callWith_builtin1 (thn (ha pos pins s σ H _ I h) fun us s1 ⟨vs, H1, I1, r1, q1⟩ => hc pins s1 σ H1 vs us Q I1 r1 q1) he hpl
theorem pe_callTy (hc : CallR X (.type T) r) (hg : Gl X x) (hm : X.mg x = none) (hv : bootBuiltins x = some (.type T)) (ha : PA X (e :: es) t) (hn : x ≠ "__name__" := by decide) (hdb : (x == ("__debug__" : Str)) = false := by decide)
    (he : starEach (e :: es) X.env = (false, eval e X.env) :: starEach es X.env := by rfl) (hpl : (backTo pos (starEach es X.env)).any (·.1) = false := by rfl) : PE X (.Call (.Name x p) (e :: es) [] pos) (tCB r t) := by
  intro pins s σ H Q I h
  refine wpAny_Call_Name_kw (ld_blt I hg hm hv ?_ hn hdb)
  exact PyProof.Rows.callWith_type1 (thn (ha pos pins s σ H _ I h) fun us s1 ⟨vs, H1, I1, r1, q1⟩ => hc pins s1 σ H1 vs us Q I1 r1 q1) he hpl
end
end L2
namespace HT
open PySem PyProof.Rows
section
open PySem.SeqAt
open PySem.AutoSeq1 (wpAny_loadPart')
open PySem.MeetsSeq PySem.MeetsSeq2 PySem.MeetsSeq3
end
section
variable {prog : Program} {w : World} {A : Around} {E : Value → Shared → Prop} {s : Shared}
theorem cat_tup {t b : Addr} {vs ws : List Value} {Q : Value → Shared → Prop} (ht : IsTup s.heap t vs.toArray) (hb : IsTup s.heap b ws.toArray) (hv : vs ≠ [])
    (h1 : ws = [] → Q (.ref t) s) (h2 : ws ≠ [] → Q (.ref s.heap.objs.size) { s with heap := s.heap.push { cls := .type "tuple", data := .seq (vs ++ ws).toArray } })
    (hsz : vs.length + ws.length ≤ sizeLine) : wpAny (model prog w) A (binaryOp .Add (.ref t) (.ref b)) Q E s := by
  obtain ⟨⟨cls, dd, data, sl⟩, ho, hc, n, hd⟩ := id ht
  obtain ⟨⟨cls2, dd2, data2, sl2⟩, ho2, hc2, n2, hd2⟩ := id hb
  simp only at hc hd hc2 hd2
  subst hc hd hc2 hd2
  have e : vs.toArray ++ ws.toArray = (vs ++ ws).toArray := by simp
  by_cases hw : ws = []
  · exact concat_meets ⟨_, ho, rfl⟩ ⟨_, ho2, rfl⟩ noFill_tuple_add seq_tuple_add PySem.F.slot_tuple_add PySem.F.entry_tuple_add (PySem.F.args_tuple_add_2 _ _)
      (tuple_addW1 t b vs.toArray ws.toArray n n2 dd dd2 sl sl2 (by simpa using hv) (by simp [hw])) ⟨ho, ho2, h1 hw⟩
  · refine concat_meets ⟨_, ho, rfl⟩ ⟨_, ho2, rfl⟩ noFill_tuple_add seq_tuple_add PySem.F.slot_tuple_add PySem.F.entry_tuple_add (PySem.F.args_tuple_add_2 _ _)
      (tuple_addW2 t b vs.toArray ws.toArray n n2 dd dd2 sl sl2 (by simpa using hv) (by simpa using hw) (by rw [List.size_toArray, List.size_toArray]; exact hsz)) ⟨ho, ho2, ?_⟩
    rw [e]
    exact h2 hw
def sIx (n d : Nat) : Option Int → Nat
  | none => d
  | some v => if v < 0 then (v + (n : Int)).toNat else min v.toNat n
theorem sIx_none (n d : Nat) : sIx n d none = d := rfl
theorem sIx_nat (n d k : Nat) : sIx n d (some (k : Int)) = min k n := by
  show (if (k : Int) < 0 then ((k : Int) + (n : Int)).toNat else min (k : Int).toNat n) = min k n
  rw [if_neg (by omega), Int.toNat_natCast]
end
end HT
namespace L2
open PySem PySem.Spec PyProof.Rows
abbrev TO := St → Hp → (Option Int → Hp → Prop) → Prop
def PO (X : Cx) (e : Option Expr) (t : TO) : Prop :=
  ∀ (pins : List (Addr × Obj)) (s : Shared) (σ : St) (H : Hp) (Q : Option Int → Hp → Prop), Inv X pins σ H s → t σ H Q →
    wpAny (model X.prog X.w) X.A (evalPart e X.env) (fun u s' => ∃ o H', Inv X pins σ H' s' ∧ IsPart u o ∧ Q o H') X.xe s
def tNoPart : TO := fun _ H Q => Q none H
def tPart (t : TE) : TO := fun σ H Q => t σ H fun x H1 => ∃ i, x = .int i ∧ Q (some i) H1
section
variable {X : Cx} {e : Expr} {te : TE} {lo hi : Option Expr} {tl th : TO} {pos p2 : Pos}
theorem po_none : PO X none tNoPart := by
  intro pins s σ H Q I h
  rw [evalPart_none]
  exact wpAny_pure ⟨none, H, I, .none, h⟩
theorem po_some (h : PE X e te) : PO X (some e) (tPart te) := by
  intro pins s σ H Q I hw
  rw [evalPart_some]
  refine thn (h pins s σ H _ I hw) fun u s1 ⟨x, H1, I1, r1, q1⟩ => ?_
  obtain ⟨i, rfl, q⟩ := q1
  obtain ⟨t, rfl⟩ := r1
  exact ⟨some i, H1, I1, .int i t, q⟩
def SlR (X : Cx) (r : V → Option Int → Option Int → Hp → VK → Prop) : Prop :=
  ∀ (pins : List (Addr × Obj)) (s : Shared) (σ : St) (H : Hp) (x : V) (v vl vu : Value) (lo hi : Option Int) (sl : Addr) (Q : VK), Inv X pins σ H s → RelV x v → s.heap.IsSliceOf sl vl vu .none → IsPart vl lo → IsPart vu hi → r x lo hi H Q →
    ∃ T id, typeLookup (.type T) "__getitem__" = pure (some (.builtin id)) ∧ s.TypeIs v T ∧ wpAny (model X.prog X.w) X.A (getItem v (.ref sl)) (EP X pins σ Q) X.xe s
def tSl (r : V → Option Int → Option Int → Hp → VK → Prop) (te : TE) (tl th : TO) : TE := fun σ H Q => te σ H fun x H1 => tl σ H1 fun l H2 => th σ H2 fun u H3 => r x l u H3 Q
theorem pe_slice {r : V → Option Int → Option Int → Hp → VK → Prop} (hr : SlR X r) (he : PE X e te) (hl : PO X lo tl) (hu : PO X hi th) : PE X (.Subscript e (.Slice lo hi none p2) pos) (tSl r te tl th) := by
  intro pins s σ H Q I h
  refine Subscript_ (thn (he pins s σ H _ I h) fun v s1 ⟨x, H1, I1, r1, q1⟩ => ?_)
  refine wpAny_Slice (thn (hl pins s1 σ H1 _ I1 q1) fun vl s2 ⟨l, H2, I2, pl, q2⟩ => thn (hu pins s2 σ H2 _ I2 q2) fun vu s3 ⟨u, H3, I3, pu, q3⟩ => ?_)
  rw [evalPart_none]
  refine wpAny_pure ?_
  have I4 : Inv X pins σ H3 { s3 with heap := s3.heap.push { cls := .type "slice", data := .fields #[vl, vu, .none] } } := I3.kept (t' := s3.toks) fun b ob q => Heap.get?_push_of_some _ q
  obtain ⟨T, id, hT, ht, hg⟩ := hr pins { s3 with heap := s3.heap.push { cls := .type "slice", data := .fields #[vl, vu, .none] } } σ H3 x v vl vu l u s3.heap.objs.size Q I4 r1 (Heap.IsSliceOf.new ..) pl pu q3
  show wpAny (model X.prog X.w) X.A (subscriptTail e (.Slice lo hi none p2) v (.ref s3.heap.objs.size)) (EP X pins σ Q) X.xe { s3 with heap := s3.heap.push { cls := .type "slice", data := .fields #[vl, vu, .none] } }
  exact tail_any (ops := [.ref s3.heap.objs.size, v]) ht hT hg (by with_unfolding_all rfl)
def cutV (xs : List V) (lo hi : Option Int) : List V := (xs.drop (HT.sIx xs.length 0 lo)).take (HT.sIx xs.length xs.length hi - HT.sIx xs.length 0 lo)
theorem cutV_length (xs : List V) (lo hi : Option Int) : (cutV xs lo hi).length ≤ xs.length := by
  unfold cutV
  rw [List.length_take, List.length_drop]
  omega
def rCatT (K : PySem.W.Frag) : R2 := fun x y H Q => ∃ a b xs ys, x = .ref a ∧ y = .ref b ∧ SqT K H a xs ∧ SqT K H b ys ∧ xs ≠ [] ∧ xs.length + ys.length ≤ sizeLine ∧
  (ys = [] → Q (.ref a) H) ∧ (ys ≠ [] → ∀ p, H p = none → Q (.ref p) (upd H p (.tup (xs ++ ys))))
theorem Vals.nil_iff {xs : List V} {us : List Value} (r : Vals xs us) : us = [] ↔ xs = [] := by
  cases r with
  | nil => simp
  | cons _ _ => simp
theorem op_catT : OpR X (binaryOp .Add) (rCatT X.K) := by
  intro pins s σ H x y v u Q I rx ry h
  obtain ⟨a, b, xs, ys, rfl, rfl, ha, hb, hx, hz, q1, q2⟩ := h
  cases rx
  cases ry
  obtain ⟨its, r1, p1, _⟩ := I.tuple ha
  obtain ⟨its2, r2, p2, _⟩ := I.tuple hb
  refine HT.cat_tup p1 p2 (fun z => hx (r1.nil_iff.mp z)) (fun z => ⟨.ref a, H, I, rfl, q1 (r2.nil_iff.mp z)⟩) (fun z => ?_) (by rw [← r1.length, ← r2.length]; exact hz)
  refine ⟨.ref s.heap.objs.size, _, I.laid (t' := s.toks) (o := .tup (xs ++ ys)) (fun b ob q => Heap.get?_push_of_some _ q) (Nat.le_refl _) ?_, rfl, q2 (fun w => z (r2.nil_iff.mpr w)) _ (I.hok.fresh (Nat.le_refl _))⟩
  exact ⟨by rw [List.length_append]; exact hz, _, r1.append r2, IsTup.new _ _⟩
end
end L2
namespace L2
open PySem PySem.Spec PyProof.Rows
def ixN (n : Nat) (i : Int) : Option Nat := if 0 ≤ i then (if i < n then some i.toNat else none) else if -(n : Int) ≤ i then some (i + n).toNat else none
def atI {α : Type} (xs : List α) (i : Int) : Option α := (ixN xs.length i).bind fun j => xs[j]?
theorem ixN_seq {n : Nat} {i : Int} {j : Nat} (h : ixN n i = some j) : seqIndex? i n = some j ∧ j < n ∧ -(n : Int) ≤ i ∧ i < n := by
  unfold ixN at h
  by_cases h0 : 0 ≤ i
  · rw [if_pos h0] at h
    by_cases h1 : i < n
    · rw [if_pos h1] at h
      have e : i.toNat = j := Option.some.inj h
      exact ⟨by rw [seqIndex_of h0 h1, e], by omega, by omega, h1⟩
    · rw [if_neg h1] at h; cases h
  · rw [if_neg h0] at h
    by_cases h1 : -(n : Int) ≤ i
    · rw [if_pos h1] at h
      have e : (i + n).toNat = j := Option.some.inj h
      exact ⟨by rw [seqIndex_neg (by omega) h1, e], by omega, h1, by omega⟩
    · rw [if_neg h1] at h; cases h
theorem atI_get {α : Type} {xs : List α} {i : Int} {v : α} (h : atI xs i = some v) : ∃ j, seqIndex? i xs.length = some j ∧ xs[j]? = some v ∧ j < xs.length ∧ -(xs.length : Int) ≤ i ∧ i < xs.length := by
  unfold atI at h
  cases e : ixN xs.length i with
  | none => rw [e] at h; cases h
  | some j =>
    rw [e] at h
    obtain ⟨h1, h2, h3, h4⟩ := ixN_seq e
    exact ⟨j, h1, h, h2, h3, h4⟩
theorem atI_nat {α : Type} {xs : List α} {j : Nat} {v : α} (h : xs[j]? = some v) : atI xs (j : Int) = some v := by
  have hj : j < xs.length := (List.getElem?_eq_some_iff.mp h).1
  have e : ixN xs.length (j : Int) = some j := by
    unfold ixN
    rw [if_pos (by omega), if_pos (by omega)]; simp
  unfold atI; rw [e]; exact h
def PlainIx (b : Expr) : Prop := ∀ o i, subscripted b false o i = operate [o, i] (getItem o i)
def IxR (X : Cx) (r : R2) : Prop :=
  ∀ (value slice : Expr) (pins : List (Addr × Obj)) (s : Shared) (σ : St) (H : Hp) (x y : V) (v u : Value) (Q : VK), Inv X pins σ H s → RelV x v → RelV y u → r x y H Q →
    subscripted slice false v u = operate [v, u] (getItem v u) → wpAny (model X.prog X.w) X.A (subscriptTail value slice v u) (EP X pins σ Q) X.xe s
def MtR (X : Cx) (id : String) (r : V → List V → Hp → VK → Prop) : Prop :=
  ∀ (pins : List (Addr × Obj)) (s : Shared) (σ : St) (H : Hp) (x : V) (xs : List V) (v : Value) (us : List Value) (Q : VK), Inv X pins σ H s → RelV x v → Vals xs us → r x xs H Q →
    wpAny (model X.prog X.w) X.A (call (.builtin id) (v :: us)) (EP X pins σ Q) X.xe s
section
variable {X : Cx} {a b : Expr} {ta tb : TE} {pos : Pos}
theorem IxR.or {r r' : R2} (h : IxR X r) (h' : IxR X r') : IxR X (fun x y H Q => r x y H Q ∨ r' x y H Q) := by
  intro value slice pins s σ H x y v u Q I rx ry q hs
  rcases q with q | q
  · exact h value slice pins s σ H x y v u Q I rx ry q hs
  · exact h' value slice pins s σ H x y v u Q I rx ry q hs
theorem pe_ix {r : R2} (hr : IxR X r) (ha : PE X a ta) (hb : PE X b tb) (hs : PlainIx b) : PE X (.Subscript a b pos) (tOp r ta tb) := by
  intro pins s σ H Q I h
  exact Subscript_ (binT ha hb I h fun v u s2 x y H2 I2 rx ry q => hr a b pins s2 σ H2 x y v u Q I2 rx ry q (hs _ _))
def rIxL (K : PySem.W.Frag) : R2 := fun x y H Q => ∃ p xs i v, x = .ref p ∧ y = .int i ∧ SqL K H p xs ∧ atI xs i = some v ∧ Q v H
def rIxT (K : PySem.W.Frag) : R2 := fun x y H Q => ∃ p xs i v, x = .ref p ∧ y = .int i ∧ SqT K H p xs ∧ atI xs i = some v ∧ Q v H
def rIxS : R2 := fun x y H Q => ∃ z i c, x = .str z ∧ y = .int i ∧ z.length ≤ sizeLine ∧ atI z.cps.toList i = some c ∧ Q (.str ⟨#[c]⟩) H
theorem ix_list : IxR X (rIxL X.K) := by
  intro value slice pins s σ H x y v u Q I rx ry h hs
  obtain ⟨p, xs, i, z, rfl, rfl, hq, he, q⟩ := h
  cases rx
  obtain ⟨t, rfl⟩ := ry
  obtain ⟨its, r, pl, hz⟩ := I.list hq
  obtain ⟨j, h1, h2, h3, h4, h5⟩ := atI_get he
  obtain ⟨w, ew, rw'⟩ := r.get h2
  have hl := r.length
  have hn := line63
  have fin : EP X pins σ Q w s := ⟨z, H, I, rw', q⟩
  by_cases h0 : 0 ≤ i
  · have hj : i.toNat = j := by
      rw [seqIndex_of h0 h5] at h1
      exact Option.some.inj h1
    exact item_listR pl.isList h0 (by omega) (by rw [hj]; simpa using ew) fin hs
  · have hj : (i + (its.toArray.size : Int)).toNat = j := by
      rw [seqIndex_neg (by omega) h4] at h1
      rw [List.size_toArray, ← hl]
      exact Option.some.inj h1
    exact subscriptTail_builtinR (x := w) pl.isList.typeIs slot_list_getitem.lookup
      (wpAny_getItem_list_neg (Q := fun r s' => r = w ∧ EP X pins σ Q r s') pl.isList (by omega) (by rw [List.size_toArray] <;> omega) (by omega) (by rw [hj]; simpa using ew) ⟨rfl, fin⟩) hs
theorem ix_tup : IxR X (rIxT X.K) := by
  intro value slice pins s σ H x y v u Q I rx ry h hs
  obtain ⟨p, xs, i, z, rfl, rfl, hq, he, q⟩ := h
  cases rx
  obtain ⟨t, rfl⟩ := ry
  obtain ⟨its, r, pl, hz⟩ := I.tuple hq
  obtain ⟨j, h1, h2, h3, h4, h5⟩ := atI_get he
  obtain ⟨w, ew, rw'⟩ := r.get h2
  have hl := r.length
  have hn := line63
  have fin : EP X pins σ Q w s := ⟨z, H, I, rw', q⟩
  exact subscriptTail_builtinR (x := w) pl.typeIs slot_tuple_getitem.lookup
    (getItem_tuple (j := j) (Q := fun r s' => r = w ∧ EP X pins σ Q r s') pl (by omega) (by omega) (by rw [List.size_toArray, ← hl]; exact h1) (by simpa using ew) ⟨rfl, fin⟩) hs
theorem ix_str : IxR X rIxS := by
  intro value slice pins s σ H x y v u Q I rx ry h hs
  obtain ⟨z, i, c, rfl, rfl, hz, he, q⟩ := h
  obtain ⟨t, rfl⟩ := rx
  obtain ⟨t', rfl⟩ := ry
  obtain ⟨j, h1, h2, h3, h4, h5⟩ := atI_get he
  have hl : z.cps.toList.length = z.length := by simp [Str.length]
  rw [hl] at h1 h4 h5
  have hn := line63
  exact tail_any (typeIs_str s z t) slot_str_getitem.lookup (getItem_str (c := c) (by
    have e1 : decide (i < -(2 ^ 63 : Int)) = false := decide_eq_false (by omega)
    have e2 : decide (i ≥ 2 ^ 63) = false := decide_eq_false (by omega)
    rw [e1, e2, Bool.or_false]) (by rw [h1]; simpa using h2) ⟨.str ⟨#[c]⟩, H, I.tok _, ⟨_, rfl⟩, q⟩) hs
def rIx (K : PySem.W.Frag) : R2 := fun x y H Q => rIxL K x y H Q ∨ rIxT K x y H Q ∨ rIxS x y H Q
theorem ix_seq : IxR X (rIx X.K) := ix_list.or (ix_tup.or ix_str)
theorem mapSeq_set (its : List Value) (n j : Nat) (u : Value) : Obj.mapSeq (·.setIfInBounds j u) { cls := .type "list", data := .seq its.toArray n } = { cls := .type "list", data := .seq (its.set j u).toArray n } := by
  simp [Obj.mapSeq]
theorem Inv.lst {pins : List (Addr × Obj)} {σ : St} {H : Hp} {s : Shared} {p : Addr} {xs : List V} (I : Inv X pins σ H s) (h : H p = some (.lst xs)) :
    ∃ (its : List Value) (n : Nat), Vals xs its ∧ s.heap.get? p = some { cls := .type "list", data := .seq its.toArray n } ∧ xs.length ≤ sizeLine := by
  obtain ⟨z, its, n, r, e⟩ := I.hok p _ h
  exact ⟨its, n, r, e, z⟩
theorem Inv.lstUpd {pins : List (Addr × Obj)} {σ : St} {H : Hp} {s : Shared} {p : Addr} {xs ys : List V} {its its' : List Value} {n n' : Nat} {f : Obj → Obj} (I : Inv X pins σ H s) (h : H p = some (.lst xs))
    (ho : s.heap.get? p = some { cls := .type "list", data := .seq its.toArray n }) (hf : f { cls := .type "list", data := .seq its.toArray n } = { cls := .type "list", data := .seq its'.toArray n' }) (r : Vals ys its') (hz : ys.length ≤ sizeLine) (t : Nat) :
    Inv X pins σ (upd H p (.lst ys)) { s with heap := s.heap.update p f, toks := t } := by
  have e : (s.heap.update p f).get? p = some { cls := .type "list", data := .seq its'.toArray n' } := by
    rw [Heap.get?_update_self f ho (by rw [hf] <;> rfl), hf]
  refine I.write (x := p) (e := p) (by rw [h]; trivial) (.inl rfl) (fun b u hb q => (Heap.get?_update_other _ _ (Ne.symm hb)).trans q) ⟨_, e⟩ ?_
  exact ⟨hz, its', n', r, e⟩
def rSetL : V → V → V → Hp → (Hp → Prop) → Prop := fun o i v H Q => ∃ p xs k j, o = .ref p ∧ i = .int k ∧ H p = some (.lst xs) ∧ ixN xs.length k = some j ∧ Q (upd H p (.lst (xs.set j v)))
theorem set_list : PSet X rSetL := by
  intro pins s σ H o i v ov iv u Q I ro ri rv h
  obtain ⟨p, xs, k, j, rfl, rfl, hp, hj, q⟩ := h
  cases ro
  obtain ⟨t, rfl⟩ := ri
  obtain ⟨its, n, r, ho, hz⟩ := I.lst hp
  obtain ⟨h1, h2, h3, h4⟩ := ixN_seq hj
  have hl := r.length
  have hn := line63
  have I' : Inv X pins σ (upd H p (.lst (xs.set j v))) { s with heap := s.heap.update p (Obj.mapSeq (·.setIfInBounds j u)) } :=
    I.lstUpd hp ho (mapSeq_set its n j u) (r.set rv j) (by rw [List.length_set]; exact hz) s.toks
  by_cases h0 : 0 ≤ k
  · have hk : k.toNat = j := by
      rw [seqIndex_of h0 h4] at h1
      exact Option.some.inj h1
    exact PySem.W.ki_setAt ho h0 (by omega) (by rw [List.size_toArray, ← hl]; exact h4) (by rw [hk]; exact ⟨_, I', q⟩)
  · have hk : (k + (its.toArray.size : Int)).toNat = j := by
      rw [seqIndex_neg (by omega) h3] at h1
      rw [List.size_toArray, ← hl]
      exact Option.some.inj h1
    exact PySem.W.ki_setBack ho (by omega) (by rw [List.size_toArray, ← hl]; exact h3) (by omega) (by rw [hk]; exact ⟨_, I', q⟩)
theorem slice_bounds (lo hi : Option Int) (n : Nat) : (sliceBounds lo hi none n).1 = ((HT.sIx n 0 lo : Nat) : Int) ∧ (sliceBounds lo hi none n).2.1 = ((HT.sIx n n hi : Nat) : Int) ∧ (sliceBounds lo hi none n).2.2 = 1 := by
  refine ⟨?_, ?_, rfl⟩
  · cases lo with
    | none => simp [sliceBounds, HT.sIx]
    | some i =>
      simp only [sliceBounds, HT.sIx, Option.getD_none, show (1 : Int) > 0 by decide, if_true]
      by_cases h : i < 0
      · simp only [h, if_true] <;> omega
      · simp only [h, if_false] <;> omega
  · cases hi with
    | none => simp [sliceBounds, HT.sIx]
    | some i =>
      simp only [sliceBounds, HT.sIx, Option.getD_none, show (1 : Int) > 0 by decide, if_true]
      by_cases h : i < 0
      · simp only [h, if_true] <;> omega
      · simp only [h, if_false] <;> omega
theorem slicePick_cut (its : List Value) (lo hi : Option Int) : slicePick its.toArray lo hi none = ((its.drop (HT.sIx its.length 0 lo)).take (HT.sIx its.length its.length hi - HT.sIx its.length 0 lo)).toArray := by
  obtain ⟨h1, h2, h3⟩ := slice_bounds lo hi its.toArray.size
  unfold slicePick
  rw [h1, h2, h3]
  simp only [sliceRange_one, pick_run, List.size_toArray] <;> rfl
def rSlL (K : PySem.W.Frag) : V → Option Int → Option Int → Hp → VK → Prop := fun x lo hi H Q => ∃ a xs, x = .ref a ∧ SqL K H a xs ∧ ∀ p, H p = none → Q (.ref p) (upd H p (.lst (cutV xs lo hi)))
theorem sl_list : SlR X (rSlL X.K) := by
  intro pins s σ H x v vl vu lo hi sl Q I rx hs pl pu h
  obtain ⟨a, xs, rfl, hx, q⟩ := h
  cases rx
  obtain ⟨its, r, ht, hz⟩ := I.list hx
  have hlen := r.length
  refine ⟨"list", _, slot_list_getitem.lookup, ht.isList.typeIs, ?_⟩
  refine wpAny_getItem_list_slice ht.isList hs pl pu .none (by simp) ?_ (by rw [List.size_toArray] <;> omega)
  rw [slicePick_cut, ← hlen]
  refine ⟨.ref s.heap.objs.size, _, I.laid (t' := s.toks) (o := .lst (cutV xs lo hi)) (fun b ob q => Heap.get?_push_of_some _ q) (Nat.le_refl _) ?_, rfl, q _ (I.hok.fresh (Nat.le_refl _))⟩
  exact ⟨Nat.le_trans (cutV_length xs lo hi) hz, _, 0, (r.drop (HT.sIx xs.length 0 lo)).take (HT.sIx xs.length xs.length hi - HT.sIx xs.length 0 lo), Heap.get?_push_size _ rfl⟩
def flatV : V → Bool
  | .non => true
  | .bl _ => true
  | .int _ => true
  | .str _ => true
  | _ => false
def eqV : V → V → Bool
  | .non, .non => true
  | .bl a, .bl b => a == b
  | .bl a, .int b => (if a then 1 else 0) == b
  | .int a, .bl b => a == (if b then 1 else 0)
  | .int a, .int b => a == b
  | .str a, .str b => a == b
  | _, _ => false
theorem eqAt_V {A : Around} {s : Shared} {y x : V} {u v : Value} (ry : RelV y u) (rx : RelV x v) (fy : flatV y = true) (fx : flatV x = true) : SeqAt.EqAt A s u v (eqV y x) := by
  cases y with
  | non =>
    cases ry
    cases x with
    | non => cases rx; exact SeqAt.EqAt.same _
    | bl b => cases rx; exact SeqAt.EqAt.none_bool b
    | int b => obtain ⟨t, rfl⟩ := rx; exact SeqAt.EqAt.none_int b t
    | str b => obtain ⟨t, rfl⟩ := rx; exact SeqAt.EqAt.none_str b t
    | _ => exact absurd (show false = true from fx) Bool.false_ne_true
  | bl a =>
    cases ry
    cases x with
    | non => cases rx; exact SeqAt.EqAt.bool_none a
    | bl b => cases rx; exact SeqAt.EqAt.bool_bool a b
    | int b => obtain ⟨t, rfl⟩ := rx; exact SeqAt.EqAt.bool_int a b t
    | str b => obtain ⟨t, rfl⟩ := rx; exact SeqAt.EqAt.bool_str a b t
    | _ => exact absurd (show false = true from fx) Bool.false_ne_true
  | int a =>
    obtain ⟨t', rfl⟩ := ry
    cases x with
    | non => cases rx; exact SeqAt.EqAt.int_none a t'
    | bl b => cases rx; exact SeqAt.EqAt.int_bool a t' b
    | int b => obtain ⟨t, rfl⟩ := rx; exact SeqAt.EqAt.int_int a t' b t
    | str b => obtain ⟨t, rfl⟩ := rx; exact SeqAt.EqAt.int_str a t' b t
    | _ => exact absurd (show false = true from fx) Bool.false_ne_true
  | str a =>
    obtain ⟨t', rfl⟩ := ry
    cases x with
    | non => cases rx; exact SeqAt.EqAt.str_none a t'
    | bl b => cases rx; exact SeqAt.EqAt.str_bool a t' b
    | int b => obtain ⟨t, rfl⟩ := rx; exact SeqAt.EqAt.str_int a t' b t
    | str b => obtain ⟨t, rfl⟩ := rx; exact SeqAt.EqAt.str_str a t' b t
    | _ => exact absurd (show false = true from fx) Bool.false_ne_true
  | _ => exact absurd (show false = true from fy) Bool.false_ne_true
def eqU (x : V) (u : Value) : Bool := match u with
  | .none => eqV .non x
  | .bool b => eqV (.bl b) x
  | .int i _ => eqV (.int i) x
  | .str z _ => eqV (.str z) x
  | _ => false
theorem eqU_of {x y : V} {u : Value} (r : RelV y u) (f : flatV y = true) : eqU x u = eqV y x := by
  cases y with
  | non => cases r; rfl
  | bl b => cases r; rfl
  | int i => obtain ⟨t, rfl⟩ := r; rfl
  | str z => obtain ⟨t, rfl⟩ := r; rfl
  | _ => exact absurd (show false = true from f) Bool.false_ne_true
theorem any_eqU {x : V} : ∀ {xs : List V} {us : List Value}, Vals xs us → xs.all flatV = true → us.any (eqU x) = xs.any fun y => eqV y x
  | _, _, .nil, _ => rfl
  | y :: xs, u :: us, .cons r t, f => by
    rw [List.all_cons, Bool.and_eq_true] at f
    rw [List.any_cons, List.any_cons, eqU_of r f.1, any_eqU t f.2]
theorem mem_eqAt {A : Around} {s : Shared} {x : V} {v : Value} (rx : RelV x v) (fx : flatV x = true) : ∀ {xs : List V} {us : List Value}, Vals xs us → xs.all flatV = true → ∀ u ∈ us, SeqAt.EqAt A s u v (eqU x u)
  | _, _, .nil, _ => fun u hu => by cases hu
  | y :: xs, u :: us, .cons r t, f => fun u' hu => by
    rw [List.all_cons, Bool.and_eq_true] at f
    rcases List.mem_cons.mp hu with rfl | hu
    · rw [eqU_of r f.1]; exact eqAt_V r rx f.1 fx
    · exact mem_eqAt rx fx t f.2 u' hu
def inV (x : V) (xs : List V) : Bool := xs.any fun y => eqV y x
def rIn (K : PySem.W.Frag) (neg : Bool) : R2 := fun x y H Q => ∃ p xs, y = .ref p ∧ (SqL K H p xs ∨ SqT K H p xs) ∧ flatV x = true ∧ xs.all flatV = true ∧ Q (.bl (if neg then !inV x xs else inV x xs)) H
theorem op_notIn_seq : OpR X (compareOp .NotIn) (rIn X.K true) := by
  intro pins s σ H x y v u Q I rx ry h
  obtain ⟨p, xs, rfl, hq, fx, fs, q⟩ := h
  cases ry
  rcases hq with hq | hq
  · obtain ⟨its, r, pl, hz⟩ := I.list hq
    refine SeqAt.notIn_listAt (eqU x) pl.isList (fun w hw => mem_eqAt rx fx r fs w (by simpa using hw)) ⟨.bl _, H, I, rfl, ?_⟩
    rw [show its.toArray.any (eqU x) = its.any (eqU x) by simp, any_eqU r fs]
    exact q
  · obtain ⟨its, r, pl, hz⟩ := I.tuple hq
    refine SeqAt.notIn_tupleAt (eqU x) pl (fun w hw => mem_eqAt rx fx r fs w (by simpa using hw)) ⟨.bl _, H, I, rfl, ?_⟩
    rw [show its.toArray.any (eqU x) = its.any (eqU x) by simp, any_eqU r fs]
    exact q
theorem call_len_seq : CallR X (.builtin "len") (fun xs H Q => ∃ p ys, xs = [.ref p] ∧ (SqL X.K H p ys ∨ SqT X.K H p ys) ∧ Q (.int ys.length) H) := by
  intro pins s σ H xs us Q I r h
  obtain ⟨p, ys, rfl, hq, q⟩ := h
  obtain ⟨u, rfl, rx⟩ := vals1 r
  cases rx
  have hn := line63
  rcases hq with hq | hq
  · obtain ⟨its, r', pl, hz⟩ := I.list hq
    have hlen := r'.length
    exact Calls.call_len_list pl.isList (by simp only [List.size_toArray] <;> omega) ⟨.int ys.length, H, I.tok _, ⟨s.toks + 1, by rw [List.size_toArray, hlen]⟩, q⟩
  · obtain ⟨its, r', pl, hz⟩ := I.tuple hq
    have hlen := r'.length
    exact len_tuple pl (by simp only [List.size_toArray] <;> omega) ⟨.int ys.length, H, I.tok _, ⟨s.toks + 1, by rw [List.size_toArray, hlen]⟩, q⟩
theorem call_len_str : CallR X (.builtin "len") (fun xs H Q => ∃ z, xs = [.str z] ∧ z.length ≤ sizeLine ∧ Q (.int z.length) H) := by
  intro pins s σ H xs us Q I r h
  obtain ⟨z, rfl, hz, q⟩ := h
  obtain ⟨u, rfl, t, rfl⟩ := vals1 r
  have hn := line63
  exact len_str (by omega) ⟨.int z.length, H, I.tok _, ⟨_, rfl⟩, q⟩
theorem CallR.or {f : Value} {r r' : List V → Hp → VK → Prop} (h : CallR X f r) (h' : CallR X f r') : CallR X f (fun xs H Q => r xs H Q ∨ r' xs H Q) := by
  intro pins s σ H xs us Q I rs q
  rcases q with q | q
  · exact h pins s σ H xs us Q I rs q
  · exact h' pins s σ H xs us Q I rs q
theorem call_list_of : CallR X (.type "list") (fun xs H Q => ∃ p ys, xs = [.ref p] ∧ (SqL X.K H p ys ∨ SqT X.K H p ys) ∧ ∀ l, H l = none → Q (.ref l) (upd H l (.lst ys))) := by
  intro pins s σ H xs us Q I r h
  obtain ⟨p, ys, rfl, hq, q⟩ := h
  obtain ⟨u, rfl, rx⟩ := vals1 r
  cases rx
  have fin : ∀ (its : List Value), Vals ys its → ys.length ≤ sizeLine → ∀ (h' : Heap) (c' : Nat), (∀ b o', s.heap.get? b = some o' → h'.get? b = some o') →
      h'.get? s.heap.objs.size = some { cls := .type "list", dict := none, data := .seq its.toArray c', slots := #[] } → EP X pins σ Q (.ref s.heap.objs.size) { s with heap := h' } := fun its r' hz h' c' kp e =>
    ⟨.ref s.heap.objs.size, _, I.laid (t' := s.toks) kp (Nat.le_refl _) (show ObjOk X.prog X.w _ h' _ (.lst ys) from ⟨hz, its, c', r', e⟩), rfl, q _ (I.hok.fresh (Nat.le_refl _))⟩
  rcases hq with hq | hq
  · obtain ⟨its, r', pl, hz⟩ := I.list hq
    have hlen := r'.length
    obtain ⟨o, ho, hc, n, hd⟩ := pl.isList
    exact call_list_seq p (.inl rfl) ho hc hd (fun h' c' kp e => fin its r' hz h' c' kp e) (by simp only [List.size_toArray] <;> omega)
  · obtain ⟨its, r', pl, hz⟩ := I.tuple hq
    have hlen := r'.length
    obtain ⟨o, ho, hc, n, hd⟩ := pl
    exact call_list_seq p (.inr rfl) ho hc hd (fun h' c' kp e => fin its r' hz h' c' kp e) (by simp only [List.size_toArray] <;> omega)
def tyV (K : PySem.W.Frag) (T : String) (x : V) (H : Hp) : Prop := match x with
  | .str _ => T = "str"
  | .int _ => T = "int"
  | .ref p => (T = "list" ∧ ∃ xs, SqL K H p xs) ∨ (T = "tuple" ∧ ∃ o, K.lookup p = some o ∧ o.cls = .type "tuple" ∧ o.dict = none) ∨
      (T = "dict" ∧ ((∃ kvs, H p = some (.dK kvs)) ∨ ∃ kvs, H p = some (.dT kvs))) ∨ (T = "set" ∧ ∃ S n, H p = some (.set S n))
  | _ => False
theorem tyV_is {pins : List (Addr × Obj)} {σ : St} {H : Hp} {s : Shared} {T : String} {x : V} {v : Value} (I : Inv X pins σ H s) (r : RelV x v) (ty : tyV X.K T x H) :
    s.TypeIs v T ∧ ∀ a, v = .ref a → ∃ ob, s.heap.get? a = some ob ∧ ob.dict = none := by
  cases x with
  | str z =>
    obtain ⟨t, rfl⟩ := r
    cases (show T = "str" from ty)
    exact ⟨typeIs_str s z t, fun _ e => nomatch e⟩
  | int i =>
    obtain ⟨t, rfl⟩ := r
    cases (show T = "int" from ty)
    exact ⟨typeIs_int s i t, fun _ e => nomatch e⟩
  | ref p =>
    cases r
    rcases ty with ⟨rfl, xs, hq⟩ | ⟨rfl, o, hk, hc, hd⟩ | ⟨rfl, hk⟩ | ⟨rfl, S, n, hk⟩
    · obtain ⟨its, _, pl, _⟩ := I.list hq
      refine ⟨pl.isList.typeIs, fun a e => ?_⟩
      cases e
      obtain ⟨o, n, e, c, hd, _⟩ := pl
      exact ⟨o, e, hd⟩
    · refine ⟨⟨o, I.kIn p o hk, hc⟩, fun a e => ?_⟩
      cases e
      exact ⟨o, I.kIn _ o hk, hd⟩
    · have z : ∃ o, s.heap.get? p = some o ∧ o.ExactDict := by
        rcases hk with ⟨kvs, hk⟩ | ⟨kvs, hk⟩
        · obtain ⟨_, _, _, _, o, _, _, e, ex, _⟩ := I.hok p _ hk
          exact ⟨o, e, ex⟩
        · obtain ⟨_, _, _, _, o, _, _, e, ex, _⟩ := I.hok p _ hk
          exact ⟨o, e, ex⟩
      obtain ⟨o, e, ex⟩ := z
      refine ⟨⟨o, e, ex.1⟩, fun a e2 => ?_⟩
      cases e2
      exact ⟨o, e, ex.2.1⟩
    · obtain ⟨o, _, _, _, e, ex, _⟩ := I.hok p _ hk
      refine ⟨⟨o, e, ex.1⟩, fun a e2 => ?_⟩
      cases e2
      exact ⟨o, e, ex.2.1⟩
  | _ => exact False.elim ty
def tBM (K : PySem.W.Frag) (T : String) (r : V → List V → Hp → VK → Prop) (to : TE) (t : TA) : TE := fun σ H Q => to σ H fun x H1 => tyV K T x H1 ∧ t σ H1 fun xs H2 => r x xs H2 Q
variable {o e : Expr} {es : List Expr} {to : TE} {t : TA} {name : Str} {apos cpos : Pos} {T id : String} {r : V → List V → Hp → VK → Prop}
theorem pe_bm (pa : PlainAttrs T) (slot : Slot T name id) (hty : typeOf (.builtin id) = pure (.type "method_descriptor")) (hm : MtR X id r) (ho : PE X o to) (ha : PA X (e :: es) t)
    (hbase : attributeBase o name X.env (eval o X.env) = eval o X.env := by rfl)
    (hfew : ((backTo cpos (starEach (e :: es) X.env)).all (fun x => !x.1) && (backToKw cpos (keywordEach [] X.env)).all (fun x => x.1.isSome)
      && decide ((e :: es).length + ([] : List Keyword).length + (if ([] : List Keyword).isEmpty then 0 else 1) < 30)) = true := by rfl)
    (hline : (apos.endLine == cpos.line) = true := by rfl) (hs : starEach (e :: es) X.env = (false, eval e X.env) :: starEach es X.env := by rfl) (hplain : (backTo cpos (starEach es X.env)).any (·.1) = false := by rfl) :
    PE X (.Call (.Attribute o name apos) (e :: es) [] cpos) (tBM X.K T r to t) := by
  intro pins s σ H Q I h
  refine wpAny_Call_method_late hbase hfew hline rfl (thn (ho pins s σ H _ I h) fun v s1 ⟨x, H1, I1, r1, ty, q1⟩ => ?_)
  obtain ⟨h1, h2⟩ := tyV_is I1 r1 ty
  refine ⟨T, id, pa, slot, hty, h1, h2, ?_⟩
  have hA := ha cpos pins s1 σ H1 _ I1 q1
  rw [hs] at hA ⊢
  refine Calls.callWith_builtin (by show (false || (backTo cpos (starEach es X.env)).any (·.1)) = false; rw [hplain] <;> rfl) (Calls.evalArgs_plain ?_)
  exact thn hA fun us s2 ⟨vs, H2, I2, r2, q2⟩ => hm pins s2 σ H2 x vs v us Q I2 r1 r2 q2
/- xs.append(e), list.index on a module's tuple .. are MtR facts of 06m -/
end
end L2
namespace L2
open PySem PySem.Spec PyProof.Rows
def MtM (X : Cx) (id : String) (r : V → List V → Hp → VK → Prop) : Prop :=
  ∀ (pins : List (Addr × Obj)) (s : Shared) (σ : St) (H : Hp) (x : V) (xs : List V) (v : Value) (us : List Value) (Q : VK), Inv X pins σ H s → RelV x v → Vals xs us → r x xs H Q →
    wpAny (model X.prog X.w) X.A (call (.builtin id) (v :: us)) (EP X pins σ Q) X.xe s
theorem Vals.one : ∀ {x : V} {us : List Value}, Vals [x] us → ∃ u, us = [u] ∧ RelV x u
  | _, _, .cons r .nil => ⟨_, rfl, r⟩
theorem Vals.two : ∀ {x y : V} {us : List Value}, Vals [x, y] us → ∃ u v, us = [u, v] ∧ RelV x u ∧ RelV y v
  | _, _, _, .cons r (.cons q .nil) => ⟨_, _, rfl, r, q⟩
theorem Vals.rep {xs : List V} {us : List Value} (h : Vals xs us) : ∀ k : Nat, Vals (List.replicate k xs).flatten (List.replicate k us).flatten
  | 0 => .nil
  | k + 1 => by
    rw [List.replicate_succ, List.replicate_succ, List.flatten_cons, List.flatten_cons]
    exact Vals.append h (Vals.rep h k)
theorem foldl_rep (its : List Value) : ∀ (k : Nat) (acc : List Value),
    List.foldl (fun x1 x2 => x1 ++ x2) acc.toArray (List.replicate k its.toArray) = (acc ++ (List.replicate k its).flatten).toArray
  | 0, acc => by simp
  | k + 1, acc => by
    have e : acc.toArray ++ its.toArray = (acc ++ its).toArray := by simp
    have e2 : (acc ++ its) ++ (List.replicate k its).flatten = acc ++ (List.replicate (k + 1) its).flatten := by
      rw [List.replicate_succ, List.flatten_cons, List.append_assoc]
    rw [← e2, ← foldl_rep its k (acc ++ its), ← e, List.replicate_succ, List.foldl_cons]
section
variable {X : Cx} {pins : List (Addr × Obj)} {σ : St} {H : Hp} {s : Shared} {l b : Addr} {xs ys zs : List V}
theorem Inv.lset {its its' : List Value} {n : Nat} {f : Array Value → Array Value} {t' : Nat} (I : Inv X pins σ H s) (hH : H l = some (.lst xs))
    (e : s.heap.get? l = some { cls := .type "list", data := .seq its.toArray n }) (hf : f its.toArray = its'.toArray) (hv : Vals ys its') (hz : ys.length ≤ sizeLine) :
    Inv X pins σ (upd H l (.lst ys)) { s with heap := s.heap.update l (Obj.mapSeq f), toks := t' } := by
  have q := PySem.IsL.update e f
  rw [hf] at q
  refine I.write (x := l) (e := l) (by rw [hH]; exact trivial) (.inl rfl) (fun b' u hb hu => (Heap.get?_update_other s.heap (Obj.mapSeq f) (Ne.symm hb)).trans hu) ⟨_, q⟩ ?_
  exact ⟨hz, its', _, hv, q⟩
theorem Inv.lnew {its : List Value} {t' : Nat} (I : Inv X pins σ H s) (hv : Vals ys its) (hz : ys.length ≤ sizeLine) :
    Inv X pins σ (upd H s.heap.objs.size (.lst ys)) { s with heap := s.heap.push { cls := .type "list", data := .seq its.toArray }, toks := t' } :=
  I.laid (fun _ _ q => Heap.get?_push_of_some _ q) (Nat.le_refl _) ⟨hz, its, 0, hv, Heap.get?_push_size _ rfl⟩
theorem Inv.fresh (I : Inv X pins σ H s) : H s.heap.objs.size = none := I.hok.fresh (Nat.le_refl _)
theorem Inv.lstM (I : Inv X pins σ H s) (hH : H l = some (.lst xs)) : xs.length ≤ sizeLine ∧ ∃ (its : List Value) (n : Nat), Vals xs its ∧ xs.length = its.length ∧ s.heap.get? l = some { cls := .type "list", data := .seq its.toArray n } := by
  obtain ⟨z, its, n, r, e⟩ := I.hok l _ hH
  exact ⟨z, its, n, r, r.length, e⟩
theorem notLongL {n : Nat} (h : n ≤ sizeLine) : Builtin.List.listTooLong n = false := by
  unfold Builtin.List.listTooLong
  exact decide_eq_false (by omega)
end
section
variable {X : Cx}
def rAppend : V → List V → Hp → VK → Prop := fun x vs H Q => ∃ l xs y, x = .ref l ∧ vs = [y] ∧ H l = some (.lst xs) ∧ xs.length < sizeLine ∧ Q .non (upd H l (.lst (xs ++ [y])))
theorem mt_append : MtM X "list.append" rAppend := by
  intro pins s σ H x vs v us Q I rx rv h
  obtain ⟨l, xs, y, rfl, rfl, hH, hz, q⟩ := h
  cases rx
  obtain ⟨u, rfl, ru⟩ := rv.one
  obtain ⟨z, its, n, r, hl, e⟩ := I.lstM hH
  refine call_meets F.slot_list_append ⟨_, e, rfl⟩ F.entry_list_append (F.args_list_append_2 _ _) (PySem.list_append l its.toArray n u (by rw [List.size_toArray]; omega)) ⟨e, ?_⟩
  refine ⟨.non, _, I.lset (its' := its ++ [u]) hH e (by simp) (r.append (.cons ru .nil)) ?_, rfl, q⟩
  rw [List.length_append, List.length_singleton]
  omega
def rCat : R2 := fun x y H Q => ∃ l b xs zs, x = .ref l ∧ y = .ref b ∧ H l = some (.lst xs) ∧ H b = some (.lst zs) ∧ xs.length + zs.length ≤ sizeLine ∧ ∀ p, H p = none → Q (.ref p) (upd H p (.lst (xs ++ zs)))
theorem op_cat : OpR X (binaryOp .Add) rCat := by
  intro pins s σ H x y v u Q I rx ry h
  obtain ⟨l, b, xs, zs, rfl, rfl, hH, hB, hz, q⟩ := h
  cases rx
  cases ry
  obtain ⟨z, its, n, r, hl, e⟩ := I.lstM hH
  obtain ⟨z2, its2, n2, r2, hl2, e2⟩ := I.lstM hB
  refine PySem.P.add_list e e2 ?_ (by rw [List.size_toArray, List.size_toArray]; omega)
  have ea : its.toArray ++ its2.toArray = (its ++ its2).toArray := by simp
  rw [ea]
  exact ⟨.ref _, _, I.lnew (t' := s.toks) (r.append r2) (by rw [List.length_append]; omega), rfl, q _ I.fresh⟩
def rRep : R2 := fun x y H Q => ∃ l k xs, x = .ref l ∧ y = .int k ∧ H l = some (.lst xs) ∧ -(2 ^ 63) ≤ k ∧ k < 2 ^ 63 ∧ xs.length * k.toNat ≤ sizeLine ∧
  ∀ p, H p = none → Q (.ref p) (upd H p (.lst (List.replicate k.toNat xs).flatten))
theorem len_rep {α : Type} (xs : List α) (k : Nat) : (List.replicate k xs).flatten.length = k * xs.length := by
  induction k with
  | zero => simp
  | succ k ih => rw [List.replicate_succ, List.flatten_cons, List.length_append, ih, Nat.succ_mul, Nat.add_comm]
theorem op_rep : OpR X (binaryOp .Mult) rRep := by
  intro pins s σ H x y v u Q I rx ry h
  obtain ⟨l, k, xs, rfl, rfl, hH, h1, h2, hz, q⟩ := h
  cases rx
  obtain ⟨t, rfl⟩ := ry
  obtain ⟨z, its, n, r, hl, e⟩ := I.lstM hH
  have hlen : its.toArray.size * k.toNat ≤ sizeLine := by rw [List.size_toArray, ← hl]; exact hz
  have hcap : ¬ its.toArray.size * k.toNat > (2 ^ 63 - 1) / 8 := by
    have : (sizeLine : Nat) ≤ (2 ^ 63 - 1) / 8 := by decide
    omega
  have hfit : ¬ (!Builtin.List.listFitsIndex k) = true := by
    rw [fitsIndex_both h1 h2]
    exact Bool.false_ne_true
  have hlong : ¬ Builtin.List.listTooLong (its.toArray.size * k.toNat) = true := by
    rw [notLongL hlen]
    exact Bool.false_ne_true
  have hnew : List.foldl (fun x1 x2 => x1 ++ x2) #[] (List.replicate (if its.toArray.isEmpty = true then 0 else k.toNat) its.toArray) = (List.replicate k.toNat its).flatten.toArray := by
    have f0 : ∀ m : Nat, List.foldl (fun x1 x2 => x1 ++ x2) #[] (List.replicate m its.toArray) = (List.replicate m its).flatten.toArray := fun m => by
      have := foldl_rep its m []
      rw [List.nil_append] at this
      exact this
    rw [f0]
    cases its with
    | nil => simp
    | cons a r' => rw [if_neg (by simp)]
  refine wpAny_binaryOp_repeat_ref (T := "list") (U := "int") (by decide) ⟨_, e, rfl⟩ (fun s' => typeIs_int s' k t) noFill_list_mul F.fills_int_mul F.slot_int_rmul repeat_list F.slot_int_index.lookup
    (call_meets F.slot_int_rmul (typeIs_int s k t) F.entry_int_rmul (F.args_int_rmul_2 _ _) (int___rmul___int_list k t l its.toArray n)
      ⟨e, rfl, ⟨_, e, rfl⟩, call_meets F.slot_list_mul ⟨_, e, rfl⟩ F.entry_list_mul (F.args_list_mul_2 _ _) (AutoListH.list___mul___list_int_3 l its.toArray n k t hfit hcap hlong) ⟨e, ?_⟩⟩)
  rw [hnew]
  exact ⟨.ref _, _, I.lnew (t' := s.toks) (r.rep k.toNat) (by rw [len_rep, Nat.mul_comm]; exact hz), rfl, q _ I.fresh⟩
end
section
variable {prog : Program} {w : World} {A : Around} {E : Value → Shared → Prop} {s : Shared}
end
section
variable {X : Cx}
end
end L2
namespace Att
open PySem PySem.W PySem.Calls PyProof.Rows
theorem ints_of_wellAll {P : Params} {h : Heap} : ∀ (ns : List Int) (vs : List Value), WellAll P h vs (ns.map WData.int) → IntsAre vs ns := by
  intro ns
  induction ns with
  | nil =>
    intro vs w
    rw [List.map_nil] at w
    cases w
    exact .nil
  | cons n ns ih =>
    intro vs w
    rw [List.map_cons] at w
    cases w with
    | cons a b =>
      cases a
      exact .cons _ _ (ih _ b)
theorem script_of {l : OpenLaw} {n : Nat} (hn : l.most = some n) {P : Params} {h : Heap} {args : List WData} {vals : List Value}
    (hpre : l.row.toRowW.claim.pre args = true) (hwl : WellAll P h vals args) :
    ∃ a vs ns, vals = [Value.ref a] ∧ args = [WData.list (ns.map WData.int)] ∧ h.get? a = some { cls := .type "list", data := .seq vs.toArray } ∧ IntsAre vs ns ∧ ns.length ≤ n := by
  have hsh : WShape.hasAll [] args [.list .int] = true := (pre_splitW hpre).1
  have hc : l.pre.holds [] { args := args } = true := (pre_splitW hpre).2
  obtain ⟨d, r, rfl, h1, h2⟩ := hasAllW_cons hsh
  obtain rfl := hasAllW_nil h2
  obtain ⟨xs, rfl, h3⟩ := hasW_list h1
  obtain ⟨ns, rfl⟩ := items_int h3
  have hlen : ns.length ≤ n := by
    unfold OpenLaw.pre at hc
    have h4 : (WTm.not (.lt (.lit (.int (n : Int))) (.len (.arg 0)))).holds [] { args := [.list (ns.map .int)] } = true := by
      have h4 := (holds_andW hc).1
      rw [hn] at h4
      exact h4
    have h5 := condW_of h4 (w_not (w_lt w_lit (w_len_list (w_arg rfl))))
    rw [List.length_map] at h5
    refine Nat.le_of_not_lt fun q => ?_
    have q' : (n : Int) < ((ns.length : Nat) : Int) := by omega
    first
      | (rw [decide_eq_true q'] at h5; exact absurd h5 (by decide))
      | (simp at h5; omega)
  cases hwl with
  | cons w1 w2 =>
    cases w2
    cases w1 with
    | list ho hall => exact ⟨_, _, ns, rfl, rfl, ho, ints_of_wellAll ns _ hall, hlen⟩
theorem post_true (l : OpenLaw) (args : List WData) : l.row.toRowW.claim.post args (.bool true) args = true :=
  postW_of (r := l.row.toRowW) (X := (true == true))
    (show WShape.has [] (.bool true) .bool = true by first | rfl | decide | simp [WShape.has, WShape.arms, WShape.armsAll])
    (show (WTm.eq .res (.lit (.bool true))).value [] { args := args, res := some (.bool true), after := args } = some (.bool (true == true)) from w_eq_bool (w_res rfl) w_lit) rfl
theorem attach_call {l : OpenLaw} {n : Nat} {q : Program} {loose : List Str} {XP : (Str → Option Value) → Heap → Prop} {YP : World → Heap → Prop} {d : DefRec}
    (hn : l.most = some n) (hdf : d.params.defaults = [])
    (call : ∀ (w : World) (s₀ s₁ : Shared) (mg mb : Str → Option Value) (fa : Addr) (o : Obj) (pm cd doc : Value) (a : Addr) (vs : List Value) (ns : List Int),
      Ground q loose [] XP w s₀ mg mb s₁.heap → YP w s₁.heap →
      s₁.heap.get? fa = some o → o.data = .func (docDef d.name d.params d.body d.scope pm cd doc) → s₁.heap.CodeRec cd d.name → mg d.name = some (.ref fa) →
      s₁.heap.get? a = some { cls := .type "list", data := .seq vs.toArray } → IntsAre vs ns → ns.length ≤ n → s₁.gens = #[] →
      codeAny (model l.prog w) callerA (.call (.ref fa) ⟨[.ref a], []⟩) (fun r s' => r = .ok (.ret (.bool true)) ∧ OldK s₁.heap s'.heap ∧ s'.os = s₁.os ∧ AllBare s'.gens) s₁) :
    WalkO q loose XP YP l.row.toRowW d [] (fun f vs => PySem.call f vs) := by
  intro w s₀ s₁ mg mb G Y fa o pm cd doc dV kV ho hd hcd hD hmg hg args vals as hpre hlay hrd hwl hlo
  obtain rfl : dV = .none := Dflts.none hD hdf
  obtain rfl : kV = .none := Dflts.noKw hD
  obtain ⟨a, vs, ns, rfl, rfl, hobj, hints, hlen⟩ := script_of hn hpre hwl
  refine enter_call (codeAny_mono (call w s₀ s₁ mg mb fa o pm cd doc a vs ns G Y ho (fd_plain hd) hcd hmg hobj hints hlen hg) fun r s' hq => ?_)
  obtain ⟨rfl, h2, h3, h4⟩ := hq
  exact ⟨.inl ⟨.bool true, .bool true, [], rfl, fun _ => rfl, .bool true, post_true l _, fun _ => ⟨List.Pairwise.nil, fun _ hm => (nomatch hm)⟩⟩, h2, h3, h4⟩
section
variable {prog : Program} {w : World} {A : Around} {E : Value → Shared → Prop} {s : Shared} {K : Frag}
end
end Att
namespace L2
open PySem PySem.Spec PyProof.Rows
theorem vals_ints : ∀ {vs : List Value} {ns : List Int}, IntsAre vs ns → Vals (ns.map V.int) vs
  | _, _, .nil => .nil
  | _, _, .cons n t h => .cons ⟨t, rfl⟩ (vals_ints h)
def Only (H : Hp) : Prop := ∀ b, H b = none ∨ ∃ o xs, H b = some (.frz o (.lst xs))
theorem law_call {P : Program} {w : World} {K : PySem.W.Frag} {mg mb : Str → Option Value} {CX : CXT} {k : Nat} {fa a : Addr} {fd : FuncData} {x : Str} {sp : Sp} {s₁ : Shared} {vs : List Value} {ns : List Int}
    (KX : K.In s₁.heap) (hns : s₁.heap.Ns mainGlobals mg) (hb : s₁.heap.Ns builtinsNs mb) (hbb : ∀ x : Str, x ≠ "__name__" → mb x = bootBuiltins x) (hlim : s₁.heap.NoLimit) (hg : s₁.gens = #[])
    (ha : s₁.heap.get? a = some { cls := .type "list", data := .seq vs.toArray }) (hi : IntsAre vs ns) (hl : ns.length ≤ sizeLine) (hr : Room k callerA)
    (F : ∀ base : Heap, K.In base → base.Ns mainGlobals mg → FnOk P w K mg base CX k fa fd [x] sp) (hbind : ∀ (s : Shared) (u : Value), BindsTo s fd ⟨[u], []⟩ [(x, u)])
    (hsp : ∀ H : Hp, Only H → SqL K H a (ns.map V.int) → sp [.ref a] H (fun v _ => v = .bl true) fun _ _ _ => False)
    (hCX : ∀ H e s', CX [] H s₁ (fun _ _ _ => False) e s' → False) :
    codeAny (model P w) callerA (.call (.ref fa) ⟨[.ref a], []⟩) (fun r s' => r = .ok (.ret (.bool true)) ∧ OldK s₁.heap s'.heap ∧ s'.os = s₁.os ∧ AllBare s'.gens) s₁ := by
  have rv := vals_ints hi
  have lenV := hi.length
  have core : ∀ H : Hp, Only H → SqL K H a (ns.map V.int) → HOk P w H s₁.heap → (∀ b, H b ≠ none → b = a) → (H a ≠ none → K.lookup a = none) →
      codeAny (model P w) callerA (.call (.ref fa) ⟨[.ref a], []⟩) (fun r s' => r = .ok (.ret (.bool true)) ∧ OldK s₁.heap s'.heap ∧ s'.os = s₁.os ∧ AllBare s'.gens) s₁ := by
    intro H hO hS hok hA hK
    have base_of : ∀ {b : Addr} {o : Obj}, s₁.heap.get? b = some o → H b = none → (hidT s₁.heap H).get? b = some o := fun e n => hidT_get e n
    have noA : ∀ {b : Addr} {o : Obj} {es : Array DictEntry} {ep : Nat}, s₁.heap.get? b = some o → o.data = .dict es ep → H b = none := fun {b o es ep} e d => by
      cases q : H b with
      | none => rfl
      | some u =>
        have e' : b = a := hA b (by rw [q]; simp)
        subst e'
        rw [ha] at e; cases e
        have d' : Data.seq vs.toArray _ = Data.dict es ep := d
        cases d'
    have nsK : ∀ {b : Addr} {m : Str → Option Value}, s₁.heap.Ns b m → (hidT s₁.heap H).Ns b m := fun {b m} ⟨o, es, ep, e, d, r⟩ => ⟨o, es, ep, base_of e (noA e d), d, r⟩
    have hKb : K.In (hidT s₁.heap H) := fun b o e => base_of (KX b o e) (by
      cases q : H b with
      | none => rfl
      | some u =>
        have e' : b = a := hA b (by rw [q]; simp)
        subst e'
        rw [hK (by rw [q]; simp)] at e; cases e)
    have hM : Mod K mg (hidT s₁.heap H) := ⟨hKb, nsK hns, ⟨mb, nsK hb, hbb⟩, let ⟨mc, h1, h2⟩ := hlim; ⟨mc, nsK h1, h2⟩⟩
    have e0 : Env0 P w K mg (hidT s₁.heap H) callerA [] s₁ H := ⟨rfl, hM, fun b o e => of_hidT e, Nat.le_of_eq (hidT_size _ _), trivial, fun b hb => absurd (show b ∈ ([] : List Addr) from hb) (by simp), hok, .of_eq hg⟩
    refine codeAny_mono ((F _ hKb (nsK hns)).run callerA [] s₁ H ⟨[.ref a], []⟩ [.ref a] [.ref a] _ _ hr e0 (hbind s₁ (.ref a)) (.cons rfl .nil) (hsp H hO hS)) fun r s' h => ?_
    cases r with
    | error e => exact (hCX H e s' h).elim
    | ok fl =>
      cases fl with
      | next => exact False.elim h
      | brk => exact False.elim h
      | cont => exact False.elim h
      | ret u =>
        obtain ⟨v, H', os, bare, un, hok', r', q⟩ := h
        have q' : v = .bl true := q
        subst q'
        obtain rfl : u = Value.bool true := r'
        refine ⟨rfl, OldK.of_keep fun b o e => ?_, os, bare⟩
        cases q : H b with
        | none => exact un.keep b o e q (by intro z; exact absurd (show b ∈ ([] : List Addr) from z) (by simp)) (by simp)
        | some u =>
          rcases hO b with z | ⟨ob, xs, z⟩
          · rw [q] at z; cases z
          · have z2 := un.frzs b ob _ z
            obtain ⟨e1, _⟩ := hok b _ z
            obtain ⟨e2, _⟩ := hok' b _ z2
            rw [e] at e1; cases e1
            exact e2
  cases hk : K.lookup a with
  | some o =>
    have e := KX a o hk
    rw [ha] at e
    cases e
    refine core (fun _ => none) (fun _ => .inl rfl) (.inr ⟨_, vs.toArray, _, hk, rfl, rfl, rfl, by rw [List.size_toArray, lenV]; exact hl, by simpa using rv⟩) (fun b u z => by have z' : (none : Option HO) = some u := z; cases z') (fun b z => absurd rfl z) fun z => absurd rfl z
  | none =>
    refine core (fun b => if b = a then some (.frz { cls := .type "list", data := .seq vs.toArray } (.lst (ns.map V.int))) else none) (fun b => ?_) (.inl (.inr ⟨{ cls := .type "list", data := .seq vs.toArray }, if_pos rfl⟩)) (fun b u z => ?_) (fun b z => ?_) fun _ => hk
    · by_cases hb : b = a
      · exact .inr ⟨_, _, if_pos hb⟩
      · exact .inl (if_neg hb)
    · by_cases hb : b = a
      · have z' := (if_pos hb).symm.trans z
        cases z'
        subst hb
        exact ⟨ha, by rw [List.length_map]; exact hl, vs, _, rv, ha⟩
      · have z' := (if_neg hb).symm.trans z
        cases z'
    · by_cases hb : b = a
      · exact hb
      · exact absurd (if_neg hb) z
end L2
namespace L2
open PySem PySem.Spec PyProof.Rows
theorem walk_of {l : PySem.W.OpenLaw} {n k : Nat} {q : Program} {loose : List Str} {XP : (Str → Option Value) → Heap → Prop} {YP : World → Heap → Prop} {d : DefRec} {K : Params → PySem.W.Frag} {CX : World → CXT} {sp : World → Sp} {x : Str}
    (hn : l.most = some n) (hn2 : n ≤ sizeLine) (hdf : d.params.defaults = []) (hr : Room k callerA)
    (hY : ∀ (w : World) (h : Heap), YP w h → (K w.params).In h)
    (F : ∀ (w : World) (mg : Str → Option Value) (fa : Addr) (h : Heap), (K w.params).In h → h.Ns mainGlobals mg → mg d.name = some (.ref fa) →
      ∃ fd : FuncData, (∀ (s : Shared) (u : Value), BindsTo s fd ⟨[u], []⟩ [(x, u)]) ∧
        ∀ base : Heap, (K w.params).In base → base.Ns mainGlobals mg → FnOk l.prog w (K w.params) mg base (CX w) k fa fd [x] (sp w))
    (hsp : ∀ (w : World) (H : Hp) (a : Addr) (ns : List Int), ns.length ≤ n → Only H → SqL (K w.params) H a (ns.map V.int) → sp w [.ref a] H (fun v _ => v = .bl true) fun _ _ _ => False)
    (hCX : ∀ (w : World) (H : Hp) (s : Shared) (e : Value) (s' : Shared), CX w [] H s (fun _ _ _ => False) e s' → False) :
    PySem.W.WalkO q loose XP YP l.row.toRowW d [] (fun f vs => PySem.call f vs) := by
  refine Att.attach_call hn hdf fun w s₀ s₁ mg mb fa o pm cd doc a vs ns G Y ho hd hcd hmg hobj hints hlen hg => ?_
  have KX := hY w _ Y
  obtain ⟨fd, hb, hF⟩ := F w mg fa _ KX G.T.g hmg
  exact law_call KX G.T.g G.T.b G.T.builtins G.T.nolimit hg hobj hints (Nat.le_trans hlen hn2) hr hF hb (fun H hO hS => hsp w H a ns hlen hO hS) fun H e s' => hCX w H s₁ e s'
end L2
/- THE LAST THEOREM (shape; LID, My.* are yours):
   My.Adr: a structure of the addresses that your layer names (classes, functions); My.Txt K t: a structure (Prop) of the equations over K;
   My.txt_mk : {K} {implicit addresses ..} (e1 : nsIn K mainGlobals "law" = some (some (.ref f))) (e2 : K.lookup f = some ⟨oc, od, .func (fnOf "law" "law" params body scope dV kV doc pm an cdv ct), sl⟩) (e3 : codeIn K cdv "law" = true) .. : ∃ t, My.Txt K t
set_option maxRecDepth 100000 in
set_option maxHeartbeats 0 in
theorem PySem.Challenge.cw_LID_holds : PySem.Challenge.rw_LID.Holds := by
  w_on; o_law; k_head; (case hw => w_witness2)
  k_fill
  refine L2.walk_of (l := PySem.Challenge.rw_LID) (n := 63) (k := 40) (x := "script") (CX := fun w => ..) (sp := fun _ => My.sp_law) rfl (by decide) rfl ⟨rfl, by decide, by decide⟩ (fun w h Y => PySem.W.kIn_of Y) ?F ?S ?C
  case F =>
    intro w mg fa h KX G hmg
    have T : ∃ t, My.Txt (L2.KOf KX) t := by
      dsimp only [L2.KOf]                          -- K must stand as «<heap const> w.params» for k_is
      refine' My.txt_mk ?e1 ?e2 ?e3 ..
      (case e1 => PySem.W.k_is)                    -- in the order: a name -> its address -> its object -> its parts
      (case e2 => PySem.W.k_is)
      ..
    obtain ⟨t, T⟩ := T
    have e0 := hmg.symm.trans (PySem.W.mg_of KX G T.law)
    cases e0                                       -- fa is the law's own address
    exact ⟨_, fun s u => .of_eq rfl, fun base kb nb => My.law_fn T kb nb⟩     -- if «.of_eq rfl» comes too early: refine' ⟨_, ?b, fun base kb nb => My.law_fn T kb nb⟩; exact fun s u => .of_eq rfl
  case S => exact fun w H a ns hl hO hS => ..
  case C => exact ..
(the tactic k_is has no namespace: write k_is) -/
namespace L2
open PySem PySem.Spec PyProof.Rows
def defArgs (s : Stmt) : Arguments := match s with
  | .FunctionDef _ a _ _ _ _ _ _ _ _ => a
  | _ => { posonlyargs := [], args := [], vararg := none, kwonlyargs := [], kw_defaults := [], kwarg := none, defaults := [] }
def defBody (s : Stmt) : List Stmt := match s with
  | .FunctionDef _ _ b _ _ _ _ _ _ _ => b
  | _ => []
def defScope (s : Stmt) : Scope := match s with
  | .FunctionDef _ _ _ _ _ _ sc _ _ _ => sc
  | _ => { kind := .function, names := [], isGenerator := false, isCoroutine := false }
abbrev CX0 : CXT := fun _ _ _ _ _ _ => False
abbrev E0 : XK := fun _ _ _ => False
structure Fun (K : PySem.W.Frag) (x qual : Str) (st : Stmt) (f : Addr) (fd : FuncData) : Prop where
  ex : ∃ (oc : Value) (od : Option Addr) (kV doc pm : Value) (an : Option Addr) (cdv ct : Value) (osl : Array (Option Value)),
    fd = PySem.W.fnOf x qual (defArgs st) (defBody st) (defScope st) .none kV doc pm an cdv ct ∧ K.lookup f = some ⟨oc, od, .func fd, osl⟩ ∧ PySem.W.codeIn K cdv qual = true
  kp : PySem.W.keepIn K (.ref f) = true
section
variable {P : Program} {w : World} {K : PySem.W.Frag} {mg : Str → Option Value} {base : Heap}
theorem Fun.binds {x qual : Str} {st : Stmt} {f : Addr} {fd : FuncData} {ps : List Str} (F : Fun K x qual st f fd)
    (h : ∀ (kV doc pm : Value) (an : Option Addr) (cdv ct : Value) (us : List Value), us.length = ps.length → bindArgs (PySem.W.fnOf x qual (defArgs st) (defBody st) (defScope st) .none kV doc pm an cdv ct) ⟨us, []⟩ = pure (ps.zip us)) : Binds K fd ps [] := by
  obtain ⟨oc, od, kV, doc, pm, an, cdv, ct, osl, rfl, lk, hcd⟩ := F.ex
  exact .all (h kV doc pm an cdv ct)
theorem fun_mk {x qual : Str} {st : Stmt} {f : Addr} {oc : Value} {od an : Option Addr} {osl : Array (Option Value)} {kV doc pm cdv ct : Value} (l : K.lookup f = some ⟨oc, od, .func (PySem.W.fnOf x qual (defArgs st) (defBody st) (defScope st) .none kV doc pm an cdv ct), osl⟩)
    (c : PySem.W.codeIn K cdv qual = true) (k : PySem.W.keepIn K (.ref f) = true) : Fun K x qual st f (PySem.W.fnOf x qual (defArgs st) (defBody st) (defScope st) .none kV doc pm an cdv ct) := ⟨⟨oc, od, kV, doc, pm, an, cdv, ct, osl, rfl, l, c⟩, k⟩
end
section
variable {X : Cx}
end
theorem iteF {A B : Prop} (h : B) : if false = true then A else B := by
  rw [if_neg Bool.false_ne_true]
  exact h
theorem iteT {A B : Prop} (h : A) : if true = true then A else B := by
  rw [if_pos rfl]
  exact h
def Same (H H' : Hp) : Prop := ∀ b o, H b = some o → H' b = some o
theorem Same.refl (H : Hp) : Same H H := fun _ _ h => h
theorem Same.trans {H H1 H2 : Hp} (a : Same H H1) (b : Same H1 H2) : Same H H2 := fun c o h => b c o (a c o h)
theorem Same.free {H H' : Hp} (e : Same H H') {l : Addr} (h : H' l = Option.none) : H l = Option.none := by
  cases q : H l with
  | none => rfl
  | some o =>
    rw [e l o q] at h
    cases h
theorem Same.seq {K : PySem.W.Frag} {H H' : Hp} {a : Addr} {xs : List V} (e : Same H H') (h : SqL K H a xs) : SqL K H' a xs := by
  rcases h with (h | ⟨o, h⟩) | h
  · exact .inl (.inl (e _ _ h))
  · exact .inl (.inr ⟨o, e _ _ h⟩)
  · exact .inr h
end L2
set_option maxRecDepth 100000
set_option maxHeartbeats 4000000
namespace L2
open PySem PySem.Spec PyProof.Rows
section
variable {P : Program} {w : World}
theorem ObjOk.here {H : Hp} {h : Heap} {a : Addr} {o : HO} (x : ObjOk P w H h a o) : ∃ ob, h.get? a = some ob := by
  cases o with
  | lst xs => obtain ⟨_, _, _, _, e⟩ := x; exact ⟨_, e⟩
  | tup xs => obtain ⟨_, _, _, ob, e, _⟩ := x; exact ⟨ob, e⟩
  | dK kvs => obtain ⟨_, _, _, _, ob, _, _, e, _⟩ := x; exact ⟨ob, e⟩
  | dT kvs => obtain ⟨_, _, _, _, ob, _, _, e, _⟩ := x; exact ⟨ob, e⟩
  | set S n => obtain ⟨ob, _, _, _, e, _⟩ := x; exact ⟨ob, e⟩
  | ins C dx fs => obtain ⟨_, _, _, e, _⟩ := x; exact ⟨_, e⟩
  | own y => exact x
  | xd fs => obtain ⟨_, ⟨ob, _, _, e, _⟩, _⟩ := x; exact ⟨ob, e⟩
  | rng lo hi => obtain ⟨_, _, _, e⟩ := x; exact ⟨_, e⟩
  | frz ob u => obtain ⟨e, _⟩ := x; exact ⟨_, e⟩
  | tbl ps => exact ⟨_, show h.get? a = some _ from x⟩
  | met f y => exact ⟨_, show h.get? a = some _ from x⟩
  | ext φ => obtain ⟨_, z, _⟩ := x; exact z
def FlA (B : Heap) (l : List Env) (x : Addr) (o : Obj) (fl : Value) (h : Heap) : Prop :=
  B.StaysIn h ∧ B.get? x = none ∧ h.FunFrames B l ∧ ∃ (vs : Array Value) (T : Addr) (oT : Obj) (ts : Array Value), h.get? x = some { o with data := .fields vs } ∧ vs[2]? = some .none ∧ vs[1]? = some (.ref T) ∧
    B.get? T = none ∧ T ≠ x ∧ h.get? T = some oT ∧ oT.data = .fields ts ∧ ts[3]? = some fl
section
variable {M : Model} {A : Around} {E : Value → Shared → Prop} {s : Shared} {B : Heap} {env : Env} {outer l : List Env} {L x : Addr} {o : Obj} {vs : Array Value} {Q : Unit → Shared → Prop}
theorem upTo_other {h h' : Heap} {T : Addr} {oT : Obj} {ts : Array Value} (hT : h.get? T = some oT) (hd : oT.data = .fields ts) (k : ∀ b, b ≠ T → h'.get? b = h.get? b) : h.UpToSlots h' := fun b ob e hn =>
  ⟨ob.slots, (k b fun z => by rw [z, hT] at e; cases e; exact hn _ hd).trans e⟩
theorem frames_up {h h' : Heap} (hl : h.FunFrames B l) (u : h.UpToSlots h') : h'.FunFrames B l := hl.of_keeps fun b ob e hn => by
  obtain ⟨sl, q⟩ := u b ob e hn
  exact ⟨_, q, rfl⟩
theorem fl_entry {head : Value} {had : Bool} (hfr : A.frames = some (env :: outer)) (hf : env.frame = some L) (hB : B.StaysIn s.heap) (hn : B.get? x = none) (hl : s.heap.FunFrames B (env :: outer)) (hx : s.heap.get? x = some { o with data := .fields vs }) (h1 : 1 < vs.size) (h2 : vs[2]? = some .none)
    (h : ∀ h', FlA B (env :: outer) x o (rawInt L) h' → s.heap.UpToSlots h' → Q () { s with heap := h' }) :
    wpAny M A (do let a ← frameOf env; let pl ← entryPlaceOf L had; let n ← EntryCells.newEntry head a .none (rawInt L) .none pl; setField (.ref x) 1 n) Q E s := by
  refine wpAny_bind (wpAny_frameOf_fun hfr hl hf fun g1 S1 => wpAny_bind (wpAny_entryPlaceOf fun pl hpl => ?_))
  have nx : x ∉ (env :: outer).filterMap (·.frame) := fun z => by
    obtain ⟨_, ob, e, d⟩ := hl.mem z
    rw [hx] at e; cases e
    exact d _ rfl
  have hx1 : g1.get? x = some { o with data := .fields vs } := (S1.2.1 x nx).trans hx
  unfold EntryCells.newEntry newFields
  refine wpAny_bind (wpAny_newObj_type ?_ (hpl.sizeOk5 _ _ _ _ _))
  have hx2 := Heap.get?_push_of_some (h := g1) { cls := .type "traceback", dict := none, data := .fields ([head, .ref L, .none, rawInt L, .none] ++ (if pl.isEmpty then List.replicate 6 Value.none else pl)).toArray } hx1
  refine wpAny_setField hx2 rfl h1 (h _ ?_ ?_)
  · have up1 : ∀ b ob, b ≠ x → g1.get? b = some ob → ((g1.push { cls := .type "traceback", dict := none, data := .fields ([head, .ref L, .none, rawInt L, .none] ++ (if pl.isEmpty then List.replicate 6 Value.none else pl)).toArray }).update x (Obj.mapFields (·.setIfInBounds 1 (Value.ref g1.objs.size)))).get? b = some ob := fun b ob nb e =>
      (Heap.get?_update_other _ _ (Ne.symm nb)).trans (Heap.get?_push_of_some _ e)
    have neT : g1.objs.size ≠ x := Nat.ne_of_gt (Heap.lt_size hx1)
    refine ⟨fun b ob e => up1 b ob (fun z => by rw [z, hn] at e; cases e) ((S1.2.1 b fun z => by rw [(hl.mem z).1] at e; cases e).trans (hB b ob e)), hn, hl.of_keeps fun b ob e d => ?_, vs.setIfInBounds 1 (.ref g1.objs.size), g1.objs.size, _, _, Heap.get?_update_self _ hx2 rfl, by rw [Array.getElem?_setIfInBounds_ne (by decide)]; exact h2, by simp [h1], ?_, neT,
      (Heap.get?_update_other _ _ (Ne.symm neT)).trans (Heap.get?_push_size g1 rfl), rfl, ?_⟩
    · obtain ⟨sl, q⟩ := S1.2.2 b ob e
      exact ⟨_, up1 b _ (fun z => by rw [z, hx] at e; cases e; exact d _ rfl) q, rfl⟩
    · cases q : B.get? g1.objs.size with
      | none => rfl
      | some ob =>
        have := Heap.lt_size (hB _ _ q)
        rw [← S1.1] at this
        exact absurd this (Nat.lt_irrefl _)
    · first
        | (simp; done)
        | (rcases hpl with rfl | ⟨_, _, _, _, _, _, _, rfl⟩ <;> simp)
  · intro b ob e d
    obtain ⟨sl, q⟩ := S1.2.2 b ob e
    refine ⟨sl, ?_⟩
    rw [Heap.get?_update_other _ _ (fun z : x = b => by rw [← z, hx] at e; cases e; exact d _ rfl)]
    exact Heap.get?_push_of_some _ q
theorem fl_first (hfr : A.frames = some (env :: outer)) (hf : env.frame = some L) (hB : B.StaysIn s.heap) (hn : B.get? x = none) (hl : s.heap.FunFrames B (env :: outer)) (hx : s.heap.get? x = some { o with data := .fields vs }) (h1 : vs[1]? = some .none) (h2 : vs[2]? = some .none)
    (h : ∀ h', FlA B (env :: outer) x o (rawInt L) h' → s.heap.UpToSlots h' → Q () { s with heap := h' }) : wpAny M A (noteFrame (.ref x) env) Q E s := by
  unfold noteFrame
  simp only [hf]
  refine wpAny_bind (wpAny_field hx rfl h1 ?_)
  rw [if_neg (by decide)]
  exact fl_entry hfr hf hB hn hl hx (Array.getElem?_eq_some_iff.mp h1).1 h2 h
theorem fl_on (hfr : A.frames = some (env :: outer)) (hf : env.frame = some L) (R : FlA B (env :: outer) x o .none s.heap)
    (h : ∀ h', FlA B (env :: outer) x o (rawInt L) h' → s.heap.UpToSlots h' → Q () { s with heap := h' }) : wpAny M A (noteFrame (.ref x) env) Q E s := by
  obtain ⟨hB, hn, hl, vs, T, oT, ts, hx, h2, h1, nT, nTx, hT, dT, h3⟩ := R
  unfold noteFrame
  simp only [hf]
  refine wpAny_bind (wpAny_field hx rfl h1 ?_)
  rw [if_pos (show (Value.ref T != Value.none) = true by simp)]
  refine wpAny_bind (wpAny_field hT dT h3 ?_)
  rw [if_neg (show ¬ ((Value.none == rawInt L) = true) by simp [rawInt])]
  refine wpAny_bind (wpAny_setField hT dT (Array.getElem?_eq_some_iff.mp h3).1 ?_)
  have oth : ∀ b, b ≠ T → (s.heap.update T (Obj.mapFields (·.setIfInBounds 3 Value.none))).get? b = s.heap.get? b := fun b nb => Heap.get?_update_other _ _ (Ne.symm nb)
  have u := upTo_other hT dT oth
  exact fl_entry hfr hf (fun b ob e => (oth b fun z => by rw [z, nT] at e; cases e).trans (hB b ob e)) hn (frames_up hl u) ((oth x (Ne.symm nTx)).trans hx) (Array.getElem?_eq_some_iff.mp h1).1 h2 fun h' F' u' => h h' F' (u.trans u')
theorem fl_land {fl : Value} (R : FlA B l x o fl s.heap) (h : ∀ h', FlA B l x o .none h' → s.heap.UpToSlots h' → Q () { s with heap := h' }) : wpAny M A (setFlight (.ref x) none) Q E s := by
  obtain ⟨hB, hn, hl, vs, T, oT, ts, hx, h2, h1, nT, nTx, hT, dT, h3⟩ := R
  unfold setFlight
  refine wpAny_bind (wpAny_field hx rfl h1 ?_)
  rw [if_pos (show (Value.ref T != Value.none) = true by simp)]
  have z3 := (Array.getElem?_eq_some_iff.mp h3).1
  have oth : ∀ b, b ≠ T → (s.heap.update T (Obj.mapFields (·.setIfInBounds 3 ((none : Option Addr).elim Value.none fun f => rawInt f)))).get? b = s.heap.get? b := fun b nb => Heap.get?_update_other _ _ (Ne.symm nb)
  have u := upTo_other hT dT oth
  refine wpAny_setField hT dT z3 (h _ ⟨fun b ob e => (oth b fun z => by rw [z, nT] at e; cases e).trans (hB b ob e), hn, frames_up hl u, vs, T, _, _, (oth x (Ne.symm nTx)).trans hx, h2, h1, nT, nTx, Heap.get?_update_self _ hT (Obj.isFreed_of_fields (Obj.data_mapFields dT _)), Obj.data_mapFields dT _, by simp [z3]⟩ u)
theorem fl_pop {fl : Value} {h : Heap} (R : FlA B (env :: outer) x o fl h) : FlA B outer x o fl h := by
  obtain ⟨hB, hn, ⟨_, _, hl⟩, r⟩ := R
  exact ⟨hB, hn, hl, r⟩
end
structure Fly (P : Program) (w : World) (l : List Env) (H H' : Hp) (h h' B : Heap) (x : Addr) (o : Obj) : Prop where
  un : Un (frs l) [] H H' h h'
  ok : HOk P w H' B
  fly : FlA B l x o .none h'
  inB : ∀ b u, h.get? b = some u → H b = none → b ∉ frs l → B.get? b = some u
  thB : ∀ b u, h.get? b = some u → b ∉ frs l → ∃ u', B.get? b = some u'
variable {l : List Env} {H H' : Hp} {h h' h'' B : Heap} {x : Addr} {o : Obj}
theorem Fly.hok (F : Fly P w l H H' h h' B x o) : HOk P w H' h' := F.ok.kept F.fly.1
theorem Fly.nx (F : Fly P w l H H' h h' B x o) : H' x = none := by
  cases e : H' x with
  | none => rfl
  | some u =>
    obtain ⟨ob, q⟩ := ObjOk.here (F.ok x u e)
    rw [F.fly.2.1] at q
    cases q
theorem Fly.on (F : Fly P w l H H' h h' B x o) (f : FlA B l x o .none h'') (u : h'.UpToSlots h'') : Fly P w l H H' h h'' B x o where
  un := ⟨fun b o e n hb _ => f.1 b o (F.inB b o e n hb),
    fun b o e n hb hx => by
      obtain ⟨sl, e1⟩ := F.un.slot b o e n hb hx
      obtain ⟨_, o', ho', hd⟩ := F.fly.2.2.1.mem hb
      rw [e1] at ho'; cases ho'
      obtain ⟨sl2, e2⟩ := u b _ e1 hd
      exact ⟨sl2, e2⟩,
    F.un.free,
    fun b o e _ => by
      by_cases hb : b ∈ frs l
      · obtain ⟨_, o', ho', hd⟩ := F.fly.2.2.1.mem hb
        obtain ⟨sl, e2⟩ := u b _ ho' hd
        exact ⟨_, e2⟩
      · obtain ⟨o', q⟩ := F.thB b o e hb
        exact ⟨o', f.1 _ _ q⟩,
    F.un.tups, F.un.frzs, F.un.tbls⟩
  ok := F.ok
  fly := f
  inB := F.inB
  thB := F.thB
end
def CX1 (P : Program) (w : World) : CXT := fun outer H s E e s' =>
  ∃ x o H' B, e = .ref x ∧ s'.os = s.os ∧ AllBare s'.gens ∧ Fly P w outer H H' s.heap s'.heap B x o ∧ E o.cls o.dict H'
section
variable {X : Cx} {pins : List (Addr × Obj)} {σ : St} {H H' : Hp} {s : Shared} {h'' B : Heap} {x : Addr} {ox : Obj}
theorem Fly.leave (I : Inv X pins σ H s) (hex : X.ex = []) (hst : ∀ b ∈ frs X.outer, b ∈ frs X.stack) (ok : HOk X.prog X.w H' B) (f : FlA B X.outer x ox .none h'') (nx0 : X.s₀.heap.get? x = none)
    (inB : ∀ b o, b ≠ x → s.heap.get? b = some o → H b = none → b ∉ frs X.stack → B.get? b = some o)
    (thB : ∀ b o, b ≠ x → s.heap.get? b = some o → b ∉ frs X.stack → ∃ o', B.get? b = some o')
    (sl : ∀ b o, s.heap.get? b = some o → b ∈ frs X.stack → ∃ sl, h''.get? b = some { o with slots := sl })
    (free : ∀ b o, s.heap.get? b = some o → H b = none → H' b = none)
    (tups : ∀ b xs, H b = some (.tup xs) → H' b = some (.tup xs)) (frzs : ∀ b o u, H b = some (.frz o u) → H' b = some (.frz o u))
    (tbls : ∀ b ps, H b = some (.tbl ps) → ∃ more, H' b = some (.tbl (ps ++ more))) : Fly X.prog X.w X.outer X.H₀ H' X.s₀.heap h'' B x ox := by
  have nX : ∀ b o, X.s₀.heap.get? b = some o → b ≠ x := fun b o e z => by rw [z, nx0] at e; cases e
  have noX : ∀ b : Addr, b ∉ X.ex := fun b z => by rw [hex] at z; cases z
  have nS : ∀ b o, X.s₀.heap.get? b = some o → b ∉ frs X.outer → b ∉ frs X.stack := fun b o e hb z =>
    (List.mem_cons.mp (I.stkSub b z)).elim (fun q => Nat.ne_of_lt (Nat.lt_of_lt_of_le (Heap.lt_size e) I.ok.above) q) hb
  refine ⟨⟨fun b o e n hb _ => ?_, fun b o e n hb _ => ?_, fun b o e n _ => ?_, fun b o e _ => ?_, fun b xs e => tups b xs (I.base.tups b xs e), fun b o u e => frzs b o u (I.base.frzs b o u e), fun b ps e => ?_⟩, ok, f, fun b o e n hb => ?_, fun b o e hb => ?_⟩
  · exact f.1 b o (inB b o (nX b o e) (I.base.keep b o e n hb (noX b)) (I.base.free b o e n (noX b)) (nS b o e hb))
  · obtain ⟨s1, e1⟩ := I.base.slot b o e n hb (noX b)
    obtain ⟨s2, e2⟩ := sl b _ e1 (hst b hb)
    exact ⟨s2, e2⟩
  · obtain ⟨o', e1⟩ := I.base.there b o e (noX b)
    exact free b o' e1 (I.base.free b o e n (noX b))
  · obtain ⟨o', e1⟩ := I.base.there b o e (noX b)
    by_cases hb : b ∈ frs X.stack
    · obtain ⟨s2, e2⟩ := sl b _ e1 hb
      exact ⟨_, e2⟩
    · obtain ⟨o2, q⟩ := thB b o' (nX b o e) e1 hb
      exact ⟨o2, f.1 _ _ q⟩
  · obtain ⟨m1, e1⟩ := I.base.tbls b ps e
    obtain ⟨m2, e2⟩ := tbls b _ e1
    exact ⟨m1 ++ m2, by rw [e2, Array.append_assoc]⟩
  · exact inB b o (nX b o e) (I.base.keep b o e n hb (noX b)) (I.base.free b o e n (noX b)) (nS b o e hb)
  · obtain ⟨o', e1⟩ := I.base.there b o e (noX b)
    exact thB b o' (nX b o e) e1 (nS b o e hb)
end
def PassesR (CX : CXT) (X : Cx) (R : St → XK) : Prop := ∀ (pins : List (Addr × Obj)) (σ : St) (H : Hp) (s : Shared) (e : Value) (s' : Shared), Inv X pins σ H s → CX X.stack H s (R σ) e s' → X.xe e s'
def Raises (X : Cx) (R : St → XK) : Prop := ∀ (pins : List (Addr × Obj)) (σ : St) (H : Hp) (s : Shared) (x : Addr) (o : Obj) (vs : Array Value), Inv X pins σ H s → s.heap.get? x = some { o with data := .fields vs } → vs[1]? = some .none → vs[2]? = some .none → X.s₀.heap.get? x = none → H x = none →
  R σ o.cls o.dict H → X.xe (.ref x) s
section
variable {P : Program} {w : World} {K : PySem.W.Frag} {mg : Str → Option Value} {base : Heap} {N : List Str} {qual : Str} {scope : Scope} {f : Addr} {cd : Value} {A : Around} {outer : List Env} {s₀ : Shared} {H₀ : Hp} {E : XK}
theorem stk_sub {env : Env} {outer : List Env} : ∀ b ∈ frs outer, b ∈ frs (env :: outer) := fun b hb => by
  obtain ⟨en, he, hf⟩ := List.mem_filterMap.mp hb
  exact List.mem_filterMap.mpr ⟨en, List.mem_cons_of_mem _ he, hf⟩
theorem passes1 : PassesR (CX1 P w) (cxOf (CX1 P w) P w K mg base N qual scope f cd A outer s₀ H₀ E) (fun _ => E) := by
  intro pins σ H s e s' I hx
  obtain ⟨x, o, H', B, rfl, os, bare, F, hE⟩ := hx
  show wpAny _ _ (do noteFrame (.ref x) _; setFlight (.ref x) none) _ _ s'
  refine wpAny_bind (fl_on (B := B) I.ok.frames rfl F.fly fun h4 f4 u4 => fl_land f4 fun h5 f5 u5 => ?_)
  refine ⟨x, o, H', B, rfl, os.trans I.os, bare, Fly.leave I rfl stk_sub F.ok (fl_pop f5) ?_ (fun b o _ => F.inB b o) (fun b o _ => F.thB b o) (fun b o q hb => ?_) (fun b o q n => F.un.free b o q n (by simp)) F.un.tups F.un.frzs F.un.tbls, hE⟩
  · show s₀.heap.get? x = none
    cases q : s₀.heap.get? x with
    | none => rfl
    | some u =>
      obtain ⟨u', e1⟩ := I.base.there x u q (fun z => nomatch z)
      by_cases hb : x ∈ frs (cxOf (CX1 P w) P w K mg base N qual scope f cd A outer s₀ H₀ E).stack
      · obtain ⟨vs, _, _, _, hxx, _⟩ := F.fly.2.2.2
        obtain ⟨_, o', ho', hd⟩ := F.fly.2.2.1.mem hb
        rw [hxx] at ho'; cases ho'
        exact absurd rfl (hd _)
      · obtain ⟨u2, e2⟩ := F.thB x u' e1 hb
        rw [F.fly.2.1] at e2; cases e2
  · obtain ⟨sl, e1⟩ := F.un.slot b o q (I.stkFree b hb) hb (by simp)
    obtain ⟨_, o', ho', hd⟩ := F.fly.2.2.1.mem hb
    rw [e1] at ho'; cases ho'
    obtain ⟨sl2, e2⟩ := (u4.trans u5) b _ e1 hd
    exact ⟨sl2, e2⟩
theorem raises1 : Raises (cxOf (CX1 P w) P w K mg base N qual scope f cd A outer s₀ H₀ E) (fun _ => E) := by
  intro pins σ H s x o vs I hx h1 h2 nx0 nH hE
  show wpAny _ _ (do noteFrame (.ref x) _; setFlight (.ref x) none) _ _ s
  have hin : ∀ env ∈ (cxOf (CX1 P w) P w K mg base N qual scope f cd A outer s₀ H₀ E).stack, ∀ b, env.frame = some b → b ∈ x :: frs (cxOf (CX1 P w) P w K mg base N qual scope f cd A outer s₀ H₀ E).stack :=
    fun env he b hb => List.mem_cons_of_mem _ (List.mem_filterMap.mpr ⟨env, he, hb⟩)
  refine wpAny_bind (fl_first (B := PySem.W.hideAll s.heap (x :: frs (cxOf (CX1 P w) P w K mg base N qual scope f cd A outer s₀ H₀ E).stack)) I.ok.frames rfl (fun b o q => PySem.W.of_hideAll _ q) (PySem.W.hideAll_none _ List.mem_cons_self)
    (PySem.W.funFrames_hide I.stack hin) hx h1 h2 fun h4 f4 u4 => fl_land f4 fun h5 f5 u5 => ?_)
  have hid : ∀ b u, b ≠ x → s.heap.get? b = some u → b ∉ frs (cxOf (CX1 P w) P w K mg base N qual scope f cd A outer s₀ H₀ E).stack → (PySem.W.hideAll s.heap (x :: frs (cxOf (CX1 P w) P w K mg base N qual scope f cd A outer s₀ H₀ E).stack)).get? b = some u :=
    fun b u nb q hb => PySem.W.hideAll_get _ q fun z => (List.mem_cons.mp z).elim nb hb
  refine ⟨x, o, H, _, rfl, I.os, I.bare, Fly.leave I rfl stk_sub (fun a o e => (I.hok a o e).stay (fun b v hb q => ?_) (fun _ q => q) fun _ _ q => q) (fl_pop f5) nx0
    (fun b o nb q _ hb => hid b o nb q hb) (fun b o nb q hb => ⟨o, hid b o nb q hb⟩) (fun b o q hb => ?_) (fun _ _ _ n => n) (fun _ _ q => q) (fun _ _ _ q => q) (fun b ps q => ⟨#[], by rw [q]; simp⟩), hE⟩
  · have tr : H b ≠ none := fun n => by
      rcases hb with hb | hb
      · rw [hb, e] at n; cases n
      · rw [hb] at n; cases n
    exact hid b v (fun z => tr (by rw [z]; exact nH)) q fun z => tr (I.stkFree b z)
  · obtain ⟨_, o', ho', hd⟩ := I.stack.mem hb
    rw [q] at ho'; cases ho'
    exact (u4.trans u5) b o q hd
end
def tCallR (sp : Sp) (dvs : List V) (R : St → XK) (t : TA) : TE := fun σ H Q => t σ H fun vs H1 => sp (vs ++ dvs) H1 Q (R σ)
section
variable {X : Cx} {CX : CXT} {k : Nat} {f : Addr} {fd : FuncData} {ps : List Str} {sp : Sp} {dvs : List V} {ds : List Value} {R : St → XK} {x : Str} {p pos : Pos} {e : Expr} {es : List Expr} {t : TA}
theorem run_fnR {pins : List (Addr × Obj)} {σ : St} {H : Hp} {s : Shared} {Q : VK} {us : List Value} {vs : List V} (F : FnOk X.prog X.w X.K X.mg X.base CX k f fd ps sp) (hr : Room k X.A) (hb : Binds X.K fd ps ds) (hd : Vals dvs ds) (hx : PassesR CX X R)
    (I : Inv X pins σ H s) (r : Vals vs us) (h : sp (vs ++ dvs) H Q (R σ)) : wpAny (model X.prog X.w) X.A (call (.ref f) us) (EP X pins σ Q) X.xe s := by
  have r2 : Vals (vs ++ dvs) (us ++ ds) := r.append hd
  have hl : (us ++ ds).length = ps.length := by rw [← r2.length]; exact F.len _ _ _ _ h
  refine wpAny_call (codeAny_mono (F.run X.A X.stack s H ⟨us, []⟩ (us ++ ds) (vs ++ dvs) Q (R σ) hr I.env0 (hb s us I.kIn hl) r2 h) fun r s' hq => ?_)
  cases r with
  | error e => exact hx pins σ H s e s' I hq
  | ok fl =>
    cases fl with
    | ret u => exact I.after hq
    | next => exact False.elim hq
    | brk => exact False.elim hq
    | cont => exact False.elim hq
theorem pe_callR (F : FnOk X.prog X.w X.K X.mg X.base CX k f fd ps sp) (hr : Room k X.A) (hg : Gl X x) (hm : X.mg x = some (.ref f)) (hk : PySem.W.keepIn X.K (.ref f) = true) (hb : Binds X.K fd ps ds) (hd : Vals dvs ds) (hx : PassesR CX X R)
    (ha : PA X (e :: es) t) (hdb : (x == ("__debug__" : Str)) = false := by decide) (he : starEach (e :: es) X.env = (false, eval e X.env) :: starEach es X.env := by rfl) (hpl : (backTo pos (starEach es X.env)).any (·.1) = false := by rfl) :
    PE X (.Call (.Name x p) (e :: es) [] pos) (tCallR sp dvs R t) := by
  intro pins s σ H Q I h
  refine wpAny_Call_Name_kw (ld_glob I hg hm ?_ hdb)
  refine PySem.W.callWith_K (h₀ := X.base) I.ok.mod.kin hk (thn (ha pos pins s σ H _ I h) fun us s1 ⟨vs, H1, I1, r, q⟩ => ⟨I1.kIn, ?_⟩) he hpl
  exact run_fnR F hr hb hd hx I1 r q
end
structure ExcCls (K : PySem.W.Frag) (C : Addr) (bmB : List Value) (newId : String) : Prop where
  ok : PySem.W.excIn K C bmB newId = true
theorem ns_same {K : PySem.W.Frag} {N : Addr} {h0 h : Heap} {m : Str → Option Value} (q : PySem.W.nsOkIn K N = true) (X0 : K.In h0) (X : K.In h) (n : h0.Ns N m) : h.Ns N m := by
  obtain ⟨o, es, ep, e, r⟩ := n
  cases z : K.lookup N with
  | none => unfold PySem.W.nsOkIn at q; rw [z] at q; cases q
  | some ob =>
    have e0 := X0 _ _ z
    rw [e] at e0
    cases e0
    exact ⟨o, es, ep, X _ _ z, r⟩
theorem ExcCls.obj {K : PySem.W.Frag} {C : Addr} {bmB : List Value} {newId : String} {h0 : Heap} (c : ExcCls K C bmB newId) (X0 : K.In h0) :
    ∃ bm N nm q bs hdct sn sub ab col dd k0 k1 k2 k3 k5 mN, mN ("__init__" : Str) = none ∧
      ∀ h : Heap, K.In h → h.get? C = some (excClassObj nm q C N bs bm hdct sn sub ab col dd k0 k1 k2 k3 k5 newId) ∧ h.Ns N mN ∧ OwnTail h bmB bm := by
  have q := c.ok
  unfold PySem.W.excIn at q
  split at q
  · rename_i dd cd sl ho
    split at q
    · rename_i C' bm k0 k1 k2 k3 n k5 hm hs
      rw [Bool.and_eq_true, Bool.and_eq_true, Bool.and_eq_true, Bool.and_eq_true, Bool.and_eq_true] at q
      obtain ⟨⟨⟨⟨⟨q1, q2⟩, q3⟩, q4⟩, q5⟩, q6⟩ := q
      cases beq_iff_eq.mp q1
      cases beq_iff_eq.mp q2
      have q3 : cd.hasDel = false := by simpa using q3
      have hsl : sl = #[k0, k1, k2, k3, some (.builtin newId), k5] := by
        cases sl with | mk l => exact congrArg Array.mk hs
      obtain ⟨c1, c2, c3, c4, c5, c6, c7, c8, c9, c10, c11⟩ := cd
      cases (show c3 = _ from hm)
      cases (show c11 = _ from q3)
      subst hsl
      refine ⟨bm, c4, c1, c5, c2, c6, c7, c8, c9, c10, dd, k0, k1, k2, k3, k5, h0.nsMap c4, PySem.W.nsMap_none_of_in X0 q5 (beq_iff_eq.mp q6), fun h X => ⟨X _ _ ho, ?_, PySem.W.tail_of_in X q4⟩⟩
      exact ns_same q5 X0 X (.of_isNs (PySem.W.isNs_of_in X0 q5))
    · cases q
  · cases q
def tRaise (C : Addr) (R : St → XK) (t : TA) : TS := fun _ σ H => t σ H fun vs H1 => vs.length ≤ sizeLine ∧ R σ (.ref C) none H1
section
variable {X : Cx} {C : Addr} {R : St → XK} {t : TA} {Bn newId initId : String} {bmB : List Value} {x : Str} {np cpos pos : Pos} {e : Expr} {es : List Expr}
theorem ps_raise (hR : Raises X R) (hc : X.calm = true) (hex : X.ex = []) (F : ExcBaseFacts Bn newId initId bmB) (c : ExcCls X.K C bmB newId) (hg : Gl X x) (hm : X.mg x = some (.ref C)) (ha : PA X (e :: es) t)
    (hdb : (x == ("__debug__" : Str)) = false := by decide) (he : starEach (e :: es) X.env = (false, eval e X.env) :: starEach es X.env := by rfl) (hpl : (backTo cpos (starEach es X.env)).any (·.1) = false := by rfl) :
    PS X (.Raise (some (.Call (.Name x np) (e :: es) [] cpos)) none pos) (tRaise C R t) := by
  intro pins s σ H D I h
  obtain ⟨bm, N, nm, q, bs, hdct, sn, sub, ab, col, dd, k0, k1, k2, k3, k5, mN, hni, hob⟩ := c.obj I.kIn
  refine wpAny_Raise_call_subT (nm := nm) (q := q) (C := C) (N := N) (bs := bs) (bm := bm) (hdct := hdct) (sn := sn) (sub := sub) (ab := ab) (col := col) (dd := dd) (k0 := k0) (k1 := k1) (k2 := k2) (k3 := k3) (k5 := k5) F ((hob _ I.kIn).2.2.hasType F.hasBase) (I.ok.hd hc) (by rw [he]; show (false || (backTo cpos (starEach es X.env)).any (·.1)) = false; rw [hpl]; rfl) hni (ld_glob I hg hm ⟨rfl, ?_⟩ hdb)
  have h2 := ha cpos pins s σ H _ I h
  rw [he] at h2 ⊢
  refine Calls.evalArgs_plain (wpAny_mono h2 (fun us s2 z => ?_) fun _ _ y => y)
  obtain ⟨vs, H1, I1, r, hz, hq⟩ := z
  obtain ⟨g1, g2, g3⟩ := hob _ I1.kIn
  refine ⟨rfl, by rw [← r.length]; exact hz, g1, g2, g3, fun h' x M => ?_⟩
  obtain ⟨t, hx, _, _⟩ := M.there
  refine hR pins σ H1 { s2 with heap := h' } x { cls := .ref C, data := .fields #[] } _ (I1.kept (t' := s2.toks) M.keeps) hx rfl rfl ?_ ?_ hq
  · cases q : X.s₀.heap.get? x with
    | none => rfl
    | some u =>
      obtain ⟨u', e1⟩ := I1.base.there x u q (by rw [hex]; simp)
      rw [M.new] at e1; cases e1
  · cases q : H1 x with
    | none => rfl
    | some u =>
      obtain ⟨ob, e1⟩ := ObjOk.here (I1.hok x u q)
      rw [M.new] at e1; cases e1
end
def Cx.tryC (X : Cx) (R : St → XK) (pins : List (Addr × Obj)) : Cx := { X with
  pn := X.pn ++ pins
  xe := fun e s' => ∃ pins' σ H s, Inv { X with pn := X.pn ++ pins } pins' σ H s ∧ CX1 X.prog X.w X.stack H s (R σ) e s' }
def Cx.suite (X : Cx) (x : Addr) (pn : List (Addr × Obj)) : Cx := { X with
  A := X.A.mark (some (.ref x))
  calm := false
  pn := pn
  xe := fun _ _ => False }
theorem Cx.Ok.pns {X : Cx} (ok : X.Ok) (pn : List (Addr × Obj)) (E : Value → Shared → Prop) : ({ X with pn := pn, xe := E } : Cx).Ok :=
  ⟨ok.mod, ok.kind, ok.glob, ok.blt, ok.above, ok.inj, ok.has, ok.cab, ok.hd, ok.frames, ok.stk, ok.exf, ok.bs, ok.bsz, ok.noex, ok.exfs, ok.funs, ok.frf⟩
theorem Cx.Ok.unpns {X : Cx} {pn : List (Addr × Obj)} {E : Value → Shared → Prop} (ok : ({ X with pn := pn, xe := E } : Cx).Ok) : X.Ok :=
  ⟨ok.mod, ok.kind, ok.glob, ok.blt, ok.above, ok.inj, ok.has, ok.cab, ok.hd, ok.frames, ok.stk, ok.exf, ok.bs, ok.bsz, ok.noex, ok.exfs, ok.funs, ok.frf⟩
theorem Cx.Ok.suite {X : Cx} (ok : X.Ok) (x : Addr) (pn : List (Addr × Obj)) : (Cx.suite X x pn).Ok :=
  ⟨ok.mod, ok.kind, ok.glob, ok.blt, ok.above, ok.inj, ok.has, ok.cab, (fun z => nomatch z), ok.frames, ok.stk, ok.exf, ok.bs, ok.bsz, ok.noex, ok.exfs, ok.funs, ok.frf⟩
theorem Cx.Ok.unsuite {X : Cx} {x : Addr} {pn : List (Addr × Obj)} (ok : (Cx.suite X x pn).Ok) (hd : X.calm = true → X.A.handled = none) : X.Ok :=
  ⟨ok.mod, ok.kind, ok.glob, ok.blt, ok.above, ok.inj, ok.has, ok.cab, hd, ok.frames, ok.stk, ok.exf, ok.bs, ok.bsz, ok.noex, ok.exfs, ok.funs, ok.frf⟩
section
variable {X : Cx} {pins pn : List (Addr × Obj)} {σ : St} {H : Hp} {s : Shared} {E : Value → Shared → Prop}
theorem Inv.pnsC (I : Inv X pins σ H s) (E : Value → Shared → Prop) : Inv { X with pn := X.pn ++ pins, xe := E } [] σ H s :=
  ⟨I.ok.pns _ _, I.os, I.bare, I.base, I.loc, I.cell, I.free, I.freeC, fun p hp => I.pin p (by rwa [List.append_nil] at hp), I.hok, I.len⟩
theorem Inv.unpnsC {p' : List (Addr × Obj)} (I : Inv { X with pn := X.pn ++ pins, xe := E } p' σ H s) : Inv X pins σ H s :=
  ⟨Cx.Ok.unpns I.ok, I.os, I.bare, I.base, I.loc, I.cell, I.free, I.freeC, fun p hp => I.pin p (List.mem_append_left _ hp), I.hok, I.len⟩
theorem SP.unpnsC {D : Ends} {f : Flow} {s' : Shared} {p' : List (Addr × Obj)} (h : SP { X with pn := X.pn ++ pins, xe := E } p' D f s') : SP X pins D f s' := by
  cases f with
  | next => obtain ⟨a, b, I, q⟩ := h; exact ⟨a, b, Inv.unpnsC I, q⟩
  | brk => obtain ⟨a, b, I, q⟩ := h; exact ⟨a, b, Inv.unpnsC I, q⟩
  | cont => obtain ⟨a, b, I, q⟩ := h; exact ⟨a, b, Inv.unpnsC I, q⟩
  | ret u => obtain ⟨v, a, b, I, r, q⟩ := h; exact ⟨v, a, b, Inv.unpnsC I, r, q⟩
theorem Inv.suiteC (I : Inv X pins σ H s) (x : Addr) {oe : Obj} (hx : s.heap.get? x = some oe) (hn : H x = none) (hL : x ≠ X.env.locals) (hf : x ∉ X.fs) (hd : ∀ v, oe.data ≠ .cell v) : Inv (Cx.suite X x (X.pn ++ pins ++ [(x, oe)])) [] σ H s :=
  ⟨I.ok.suite _ _, I.os, I.bare, I.base, I.loc, I.cell, I.free, I.freeC, fun p hp => by
    rw [List.append_nil] at hp
    rcases List.mem_append.mp hp with z | z
    · exact I.pin p z
    · have e : p = (x, oe) := by simpa using z
      subst e
      exact ⟨hx, hn, hL, hf, hd⟩, I.hok, I.len⟩
theorem Inv.suiteN (I : Inv X pins σ H s) (x : Addr) : Inv (Cx.suite X x (X.pn ++ pins)) [] σ H s :=
  ⟨I.ok.suite _ _, I.os, I.bare, I.base, I.loc, I.cell, I.free, I.freeC, fun p hp => I.pin p (by rwa [List.append_nil] at hp), I.hok, I.len⟩
theorem Inv.unsuiteC {x : Addr} {more : List (Addr × Obj)} {p' : List (Addr × Obj)} (I : Inv (Cx.suite X x (X.pn ++ pins ++ more)) p' σ H s) (hd : X.calm = true → X.A.handled = none) : Inv X pins σ H s :=
  ⟨Cx.Ok.unsuite I.ok hd, I.os, I.bare, I.base, I.loc, I.cell, I.free, I.freeC, fun p hp => I.pin p (List.mem_append_left _ (List.mem_append_left _ hp)), I.hok, I.len⟩
theorem Fly.back {H' : Hp} {s' : Shared} {B : Heap} {x : Addr} {o : Obj} (I : Inv X pins σ H s) (os : s'.os = s.os) (bare : AllBare s'.gens) (F : Fly X.prog X.w X.stack H H' s.heap s'.heap B x o) : Inv X pins σ H' s' :=
  I.call' os F.un F.hok bare (fun b z => absurd z (by simp))
end
section
variable {M : Model} {A : Around} {E : Value → Shared → Prop} {K : PySem.W.Frag} {s : Shared}
theorem exc_matches {C D : Addr} {bmB' : List Value} {newId' : String} {x : Addr} {oe : Obj} {Q : Bool → Shared → Prop} (X : K.In s.heap) (d : ExcCls K D bmB' newId') (hb : bmB'.contains (.type "BaseException") = true)
    (hu : PySem.W.subIn K (.ref C) (.ref D) = some true) (hx : s.heap.get? x = some oe) (hc : oe.cls = .ref C) (h : Q true s) : wpAny M A (excMatches (.ref x) (.ref D)) Q E s := by
  obtain ⟨hp, g, dr, t, os⟩ := s
  obtain ⟨bm', N', nm', q', bs', hdct', sn', sub', ab', col', dd', k0', k1', k2', k3', k5', mN', hni', hob'⟩ := d.obj X
  have hD := (hob' _ X).1
  have hcD : (Value.ref D :: bm').contains (.type "BaseException") = true := by
    rw [List.contains_cons, (hob' _ X).2.2.hasType hb, Bool.or_true]
  have hcC := PySem.W.looks_subIn (M := M) X hu
  have f := tc_notTuple
  unfold excMatches
  repeat (first | (with_reducible refine wpAny_loadPart_at hx ?_; rw [hc]) | with_reducible refine wpAny_loadPart_at hD ?_ | (with_reducible refine wpAny_isSubtype_exc hD ?_; rw [hcD]) | with_reducible refine hcC.at ?_ | wp_step)
  exact h
end
section
variable {X : Cx} {pins : List (Addr × Obj)} {σ : St} {H H' H1 : Hp} {s s0 : Shared} {B h0 : Heap} {x : Addr} {o : Obj}
theorem suite_at (I : Inv X pins σ H' s) (hst : X.stack = X.env :: X.outer) (hf : X.env.frame = some X.env.locals) (F : Fly X.prog X.w X.stack H1 H' h0 s.heap B x o) : ∃ vs : Array Value, vs[2]? = some .none ∧ Inv (Cx.suite X x (X.pn ++ pins ++ [(x, { o with data := .fields vs })])) [] σ H' s := by
  obtain ⟨vs, _, _, _, hx, hv2, _⟩ := F.fly.2.2.2
  have nfr : ∀ b ∈ frs X.stack, x ≠ b := fun b hb z => by
    subst z
    obtain ⟨_, o', ho', hd⟩ := F.fly.2.2.1.mem hb
    rw [hx] at ho'; cases ho'
    exact hd _ rfl
  refine ⟨vs, hv2, Inv.suiteC I x hx F.nx (nfr _ (by rw [hst]; exact List.mem_filterMap.mpr ⟨X.env, List.mem_cons_self, hf⟩)) (fun z => nfr x (by rw [hst]; exact stk_sub x z) rfl) (fun v q => by cases q)⟩
end
section
variable {X : Cx} {body : List Stmt} {D : Addr} {dn : Str} {b₀ : Stmt} {suite : List Stmt} {pos hpos np : Pos} {tb : (St → XK) → TS} {ts : TS} {bmB' : List Value} {newId' : String}
end
theorem passesT {X : Cx} {R : St → XK} {pins : List (Addr × Obj)} : PassesR (CX1 X.prog X.w) (Cx.tryC X R pins) R := by
  intro pins' σ H s e s' I hx
  exact ⟨pins', σ, H, s, ⟨Cx.Ok.pns (Cx.Ok.unpns I.ok) _ _, I.os, I.bare, I.base, I.loc, I.cell, I.free, I.freeC, I.pin, I.hok, I.len⟩, hx⟩
end L2
namespace L2
open PySem PySem.Spec PyProof.Rows
def clOf (env : Env) : List (Str × NameKind) → List (Str × Addr) → List (Str × Addr)
  | [], acc => acc
  | p :: r, acc => clOf env r (if p.2 == .free then (p.1, (env.cells.lookup p.1).getD 0) :: acc else acc)
theorem closure_is {scope : Scope} {env : Env} (h : ∀ p ∈ scope.names, p.2 = .free → (env.cells.lookup p.1).isSome = true) : closureFor scope env = pure (clOf env scope.names []) := by
  have key : ∀ (l : List (Str × NameKind)) (acc : List (Str × Addr)), (∀ p ∈ l, p.2 = .free → (env.cells.lookup p.1).isSome = true) →
      (forIn l acc (fun (p : Str × NameKind) (r : List (Str × Addr)) => (if p.2 == .free then (do let c ← cellOf env p.1; pure (ForInStep.yield ((p.1, c) :: r))) else pure (ForInStep.yield r) : Sem (ForInStep (List (Str × Addr)))))) = (pure (clOf env l acc) : Sem (List (Str × Addr))) := by
    intro l
    induction l with
    | nil => intro acc _; rfl
    | cons p r ih =>
      intro acc hp
      rw [List.forIn_cons]
      have ih' := fun a => ih a fun q hq => hp q (List.mem_cons_of_mem _ hq)
      obtain ⟨n, k⟩ := p
      by_cases hk : k = .free
      · subst hk
        have hs := hp (n, .free) List.mem_cons_self rfl
        cases hl : env.cells.lookup n with
        | none => rw [show env.cells.lookup (n, NameKind.free).1 = none from hl] at hs; cases hs
        | some c =>
          have e1 : clOf env ((n, .free) :: r) acc = clOf env r ((n, c) :: acc) := by
            show clOf env r (if (NameKind.free == NameKind.free) = true then (n, (env.cells.lookup n).getD 0) :: acc else acc) = _
            rw [if_pos (by decide), hl]
            rfl
          have e2 : cellOf env n = pure c := by unfold cellOf; rw [hl]
          rw [e1]
          have e3 : (NameKind.free == NameKind.free) = true := by decide
          simp only [e3, if_true, e2, pure_bind]
          exact ih' _
      · have hb : (k == NameKind.free) = false := by simpa using hk
        have e1 : clOf env ((n, k) :: r) acc = clOf env r acc := by
          show clOf env r (if (k == NameKind.free) = true then (n, (env.cells.lookup n).getD 0) :: acc else acc) = _
          rw [hb, if_neg (by decide)]
        rw [e1]
        simp only [hb, Bool.false_eq_true, if_false, pure_bind]
        exact ih' _
  have := key scope.names [] h
  unfold closureFor
  first
    | exact this
    | (simp only [bind_pure]; exact this)
    | (rw [bind_pure]; exact this)
theorem clOf_look {env : Env} {y : Str} {c : Addr} : ∀ (l : List (Str × NameKind)) (acc : List (Str × Addr)), (∀ p ∈ l, p.2 = .free → (env.cells.lookup p.1).isSome = true) →
    (acc.lookup y = some c → env.cells.lookup y = some c) → (clOf env l acc).lookup y = some c → env.cells.lookup y = some c
  | [], acc, _, ha, h => ha h
  | (n, k) :: r, acc, hp, ha, h => by
    refine clOf_look r _ (fun q hq => hp q (List.mem_cons_of_mem _ hq)) (fun e => ?_) h
    split at e
    · rename_i hk
      rw [List.lookup_cons] at e
      cases q : (y == n) with
      | true =>
        rw [q] at e
        have e' : (env.cells.lookup n).getD 0 = c := Option.some.inj e
        have hn : y = n := by simpa using q
        subst hn
        have hs := hp (y, k) List.mem_cons_self (by simpa using hk)
        cases z : env.cells.lookup y with
        | none => rw [show env.cells.lookup (y, k).1 = none from z] at hs; cases hs
        | some d => rw [z] at e'; rw [← e']; rfl
      | false => rw [q] at e; exact ha e
    · exact ha e
theorem clOf_has {env : Env} {y : Str} : ∀ (l : List (Str × NameKind)) (acc : List (Str × Addr)), ((y, NameKind.free) ∈ l ∨ (acc.lookup y).isSome = true) → ((clOf env l acc).lookup y).isSome = true
  | [], acc, h => by
    rcases h with h | h
    · cases h
    · exact h
  | (n, k) :: r, acc, h => by
    refine clOf_has r _ ?_
    by_cases hy : y = n
    · subst hy
      by_cases hk : k = .free
      · subst hk
        right
        show (List.lookup y (if (NameKind.free == NameKind.free) = true then (y, (env.cells.lookup y).getD 0) :: acc else acc)).isSome = true
        rw [if_pos (by decide), List.lookup_cons, beq_self_eq_true]
        rfl
      · rcases h with h | h
        · rcases List.mem_cons.mp h with z | z
          · exact absurd (Prod.mk.inj z).2.symm hk
          · exact .inl z
        · right
          rw [if_neg (by simpa using hk)]
          exact h
    · rcases h with h | h
      · rcases List.mem_cons.mp h with z | z
        · exact absurd (Prod.mk.inj z).1 hy
        · exact .inl z
      · right
        split
        · rw [List.lookup_cons, show (y == n) = false by simpa using hy]
          exact h
        · exact h
def Cx.comp (X : Cx) (Nc : List Str) (scope : Scope) (C : Addr) (s : Shared) (H : Hp) (fp : List Addr) : Cx := { X with
  N := Nc
  s₀ := s
  H₀ := H
  env := compEnvC scope (clOf X.env scope.names []) C X.env
  outer := X.stack
  ex := fp
  fn := fun _ => false
  pn := []
  xe := fun _ _ => False }
structure CompScope (X : Cx) (scope : Scope) (x : Str) (ys : List Str) (caps : List Nat) : Prop where
  kind : scope.kind = .function
  nocell : ∀ p ∈ scope.names, p.2 ≠ .cell
  names : ∀ p ∈ scope.names, p.2 = .local → scope.names.lookup p.1 = some .local
  own : scope.names.lookup x = some .local
  free : ∀ p ∈ scope.names, p.2 = .free → X.env.scope.names.lookup p.1 = some .cell
  nd : (x :: ys).Nodup
  cap : ∀ q ∈ ys.zip caps, X.N[q.2]? = some q.1 ∧ X.env.scope.names.lookup q.1 = some .cell ∧ scope.names.lookup q.1 = some .free
  len : ys.length = caps.length
theorem rel_in {env : Env} {y : Str} : ∀ {l : List (Str × NameKind)}, (∀ p ∈ l, p.2 ≠ .cell) →
    ((l.map fun (n, k) => if (k == NameKind.free && env.scope.kind == .function && env.kindOf n == some .cell) then (n, NameKind.cell) else (n, k)).lookup y = some .cell ∨
     (l.map fun (n, k) => if (k == NameKind.free && env.scope.kind == .function && env.kindOf n == some .cell) then (n, NameKind.cell) else (n, k)).lookup y = some .free) → (y, NameKind.free) ∈ l
  | [], _, h => by rcases h with h | h <;> cases h
  | (n, k) :: r, hc, h => by
    have ih := @rel_in env y r (fun p hp => hc p (List.mem_cons_of_mem _ hp))
    rw [List.map_cons] at h
    by_cases q : (k == NameKind.free && env.scope.kind == .function && env.kindOf n == some .cell) = true
    · have hk : k = .free := by
        rw [Bool.and_eq_true, Bool.and_eq_true] at q
        simpa using q.1.1
      subst hk
      by_cases hy : y = n
      · subst hy; exact List.mem_cons_self
      · refine List.mem_cons_of_mem _ (ih ?_)
        have hb : (y == n) = false := by simpa using hy
        simp only [q, if_true, List.lookup_cons, hb] at h
        exact h
    · by_cases hy : y = n
      · subst hy
        have hb : (y == y) = true := by simp
        simp only [q, Bool.false_eq_true, if_false, List.lookup_cons, hb] at h
        rcases h with h | h
        · exact absurd (Option.some.inj h) (hc (y, k) List.mem_cons_self)
        · rw [← Option.some.inj h]; exact List.mem_cons_self
      · refine List.mem_cons_of_mem _ (ih ?_)
        have hb : (y == n) = false := by simpa using hy
        simp only [q, Bool.false_eq_true, if_false, List.lookup_cons, hb] at h
        exact h
theorem rel_cell {env : Env} {y : Str} (hk : env.scope.kind = .function) (hy : env.kindOf y = some .cell) : ∀ {l : List (Str × NameKind)}, l.lookup y = some .free →
    (l.map fun (n, k) => if (k == NameKind.free && env.scope.kind == .function && env.kindOf n == some .cell) then (n, NameKind.cell) else (n, k)).lookup y = some .cell
  | [], h => by cases h
  | (n, k) :: r, h => by
    have ih := @rel_cell env y hk hy r
    rw [List.map_cons]
    rw [List.lookup_cons] at h
    by_cases e : y = n
    · subst e
      have hb : (y == y) = true := by simp
      rw [hb] at h
      have : k = .free := Option.some.inj h
      subst this
      have q : (NameKind.free == NameKind.free && env.scope.kind == .function && env.kindOf y == some .cell) = true := by rw [hk, hy]; rfl
      simp only [q, if_true, List.lookup_cons, hb]
    · have hb : (y == n) = false := by simpa using e
      rw [hb] at h
      by_cases q : (k == NameKind.free && env.scope.kind == .function && env.kindOf n == some .cell) = true
      · simp only [q, if_true, List.lookup_cons, hb]; exact ih h
      · simp only [q, Bool.false_eq_true, if_false, List.lookup_cons, hb]; exact ih h
theorem CompScope.has {X : Cx} {scope : Scope} {x : Str} {ys : List Str} {caps : List Nat} (S : CompScope X scope x ys caps) (ok : X.Ok) : ∀ p ∈ scope.names, p.2 = .free → (X.env.cells.lookup p.1).isSome = true := fun p hp hf => by
  obtain ⟨c, e⟩ := ok.has p.1 (.inl (S.free p hp hf))
  rw [e]; rfl
theorem zip_at {α β : Type} : ∀ {xs : List α} {ys : List β} {j : Nat} {x : α} {y : β}, xs[j]? = some x → ys[j]? = some y → (x, y) ∈ xs.zip ys
  | x :: xs, y :: ys, 0, _, _, h1, h2 => by cases h1; cases h2; exact List.mem_cons_self
  | x :: xs, y :: ys, j + 1, _, _, h1, h2 => List.mem_cons_of_mem _ (zip_at (xs := xs) (ys := ys) (j := j) h1 h2)
  | [], _, _, _, _, h1, _ => by simp at h1
  | _ :: _, [], _, _, _, _, h2 => by simp at h2
def capV (caps : List Nat) (σ : St) : St := caps.map fun i => (σ[i]?).join
def CompR (J : It) (te : TE) (cs : St) (Q : VK) (H1 : Hp) (D : Addr) : Prop :=
  ∃ W : Nat → Nat → List V → Hp → Prop, (∃ m, W 0 m [] (upd H1 D (.lst []))) ∧ ∀ i m ys H2, W i m ys H2 → H2 D = some (.lst ys) ∧
    ((J.stop i H2 ∧ Q (.ref D) H2) ∨ (J.go i H2 ∧ ∀ x H3, J.yld i H2 x H3 → te (some x :: cs) H3 fun y H4 => H4 D = some (.lst ys) ∧ ys.length < sizeLine ∧ ∃ m', m' < m ∧ W (i + 1) m' (ys ++ [y]) (upd H4 D (.lst (ys ++ [y])))))
def tComp (wi : TI) (te : TE) (caps : List Nat) : TE := fun σ H Q => wi σ H fun J H1 => ∀ D, H1 D = none → CompR J te (capV caps σ) Q H1 D
section
variable {X : Cx} {elt iter : Expr} {x : Str} {px : Pos} {scope : Scope} {pos : Pos} {wi : TI} {te : TE} {ys : List Str} {caps : List Nat}
theorem comp_run (S : CompScope X scope x ys caps) (hc : X.calm = true) (he : ∀ C s H fp, PE (Cx.comp X (x :: ys) scope C s H fp) elt te)
    {pins : List (Addr × Obj)} {σ : St} {H2 : Hp} {s2 : Shared} {it : Addr} {fp : List Addr} {tn : Nat → Heap → Prop} {J : It} {Q : V → Hp → Prop} {PQ : Value → Addr → Result → Shared → Prop} (I : Inv X pins σ H2 s2) (T : Turn X.prog X.w X.K (.Name x px) J fp it tn) (t0 : tn 0 s2.heap) (f2 : ∀ b ∈ fp, FpOk X pins H2 b)
    (h : ∀ D, H2 D = none → CompR J te (capV caps σ) Q H2 D)
    (hPQ : ∀ D C s' H', Inv X pins σ H' s' → Q (.ref D) H' → (∃ m, s'.heap.Ns C m) → H' C = none → X.s₀.heap.objs.size ≤ C → C ≠ X.env.locals → (∀ z c, X.env.cells.lookup z = some c → c ≠ C) → (∀ p ∈ X.pn ++ pins, p.1 ≠ C) → PQ (.ref D) C (.ok .next) s') :
    wpAny (model X.prog X.w) X.A (newList []) (fun acc s3 => wpAny (model X.prog X.w) X.A (newFunctionEnv scope X.env.globals (clOf X.env scope.names []) [] X.env.qual none .none (some X.env)) (fun cenv s4 =>
      codeAny (model X.prog X.w) X.A (.compStart (.ListComp elt [⟨.Name x px, iter, [], 0⟩] scope pos) 0 (.ref it) acc { cenv with scope := relabel scope X.env }) (PQ acc cenv.locals) s4) X.xe s3) X.xe s2 := by
  have hD : H2 s2.heap.objs.size = none := I.fresh
  obtain ⟨W, ⟨m0, w0⟩, step⟩ := h _ hD
  refine wpAny_newObj_type ?_
  have I3 : Inv X pins σ (upd H2 s2.heap.objs.size (.lst [])) { s2 with heap := s2.heap.push { cls := .type "list", data := .seq ([] : List Value).toArray } } := Inv.lnew (t' := s2.toks) I (ys := []) (its := []) .nil (Nat.zero_le _)
  generalize hH3 : upd H2 s2.heap.objs.size (.lst []) = H3 at I3 w0
  generalize hs3 : ({ s2 with heap := s2.heap.push { cls := .type "list", data := .seq ([] : List Value).toArray } } : Shared) = s3 at I3
  have hfp3 : ∀ b ∈ fp, H3 b = none := fun b hb => by
    obtain ⟨o, e, _⟩ := T.obj _ _ t0 b hb
    rw [← hH3, upd_ne (Nat.ne_of_lt (Heap.lt_size e))]
    exact (f2 b hb).1
  have t3 : tn 0 s3.heap := T.keep _ _ _ t0 fun b hb o e => by rw [← hs3]; exact Heap.get?_push_of_some _ e
  refine wpAny_newFunctionEnv S.nocell (fun y hy => nomatch hy) (fun h4 ns4 sb4 => ?_) S.kind
  have hC : H3 s3.heap.objs.size = none := I3.fresh
  have kp : ∀ b o, s3.heap.get? b = some o → h4.get? b = some o := fun b o e =>
    (sb4.2 b (Nat.ne_of_lt (Heap.lt_size e))).trans (Heap.get?_push_of_some _ e)
  generalize hs4 : ({ s3 with heap := h4, toks := s3.toks + ([] : List (Str × Value)).length } : Shared) = s4
  have e4 : s4.heap = h4 := by rw [← hs4]
  have cne : ∀ z c, X.env.cells.lookup z = some c → c ≠ s3.heap.objs.size := fun z c e q => by
    obtain ⟨v, w⟩ := I3.cell z c e
    exact Nat.lt_irrefl _ (q ▸ w.lt)
  have cl_in : ∀ z c, (clOf X.env scope.names []).lookup z = some c → X.env.cells.lookup z = some c := fun z c e => clOf_look scope.names [] (S.has I.ok) (fun q => nomatch q) e
  have Lne : s3.heap.objs.size ≠ X.env.locals := Nat.ne_of_gt I3.lt
  have ok : (Cx.comp X (x :: ys) scope s3.heap.objs.size s3 H3 fp).Ok := by
    refine ⟨I3.ok.mod, S.kind, I3.ok.glob, I3.ok.blt, Nat.le_refl _, fun z z' c e1 e2 => I3.ok.inj z z' c (cl_in z c e1) (cl_in z' c e2), fun z hz => ?_, fun z c hz => (by cases hz), I3.ok.hd, I3.ok.frames, .inl rfl, fun b hb => ⟨?_, fun z c e => ?_⟩, I3.bs, ?_, fun b o e hb => ?_, fun b hb hf => ?_, I3.stack, I3.stkFree⟩
    · have := clOf_has (env := X.env) scope.names [] (.inl (rel_in S.nocell hz))
      exact Option.isSome_iff_exists.mp this
    · obtain ⟨o, e, _⟩ := T.obj _ _ t3 b hb
      exact Nat.ne_of_lt (Heap.lt_size e)
    · exact (f2 b hb).2.2.2.2.1 z c (cl_in z c e)
    · exact Nat.le_trans I3.ok.bsz I3.sz
    · obtain ⟨_, _, _, hy, _⟩ := f2 b hb
      have e0 := (I3.ok.bs b o e).1
      rcases hy with hy | hy
      · exact I3.ok.noex b o e hy
      · exact absurd (Nat.lt_of_lt_of_le (Heap.lt_size e0) hy) (Nat.lt_irrefl _)
    · obtain ⟨_, hl, hfs, _⟩ := f2 b hb
      exact (List.mem_cons.mp (I3.stkSub b hf)).elim hl hfs
  have hlen : ((none : Option V) :: capV caps σ).length = (x :: ys).length := by
    rw [List.length_cons, List.length_cons, S.len]
    unfold capV
    rw [List.length_map]
  have I4 : Inv X pins σ H3 s4 := by
    rw [← hs4]
    exact I3.kept kp
  have Ic : Inv (Cx.comp X (x :: ys) scope s3.heap.objs.size s3 H3 fp) [] ((none : Option V) :: capV caps σ) H3 s4 := by
    refine ⟨ok, by rw [← hs4]; rfl, I4.bare, Un.kept (by rw [e4]; exact kp), ⟨_, by rw [e4]; exact ns4, fun i z v e1 e2 e3 => ?_⟩, fun z c e => I4.cell z c (cl_in z c e), hC, fun z c e => I4.freeC z c (cl_in z c e), (fun p hp => nomatch hp), I4.hok, hlen⟩
    cases i with
    | zero => cases e2
    | succ j =>
      have e1 : ys[j]? = some z := e1
      have e2 : (capV caps σ)[j]? = some (some v) := e2
      unfold capV at e2
      rw [List.getElem?_map] at e2
      cases hi : caps[j]? with
      | none => rw [hi] at e2; cases e2
      | some i =>
        rw [hi] at e2
        have e2 : (σ[i]?).join = some v := Option.some.inj e2
        have e2 : σ[i]? = some (some v) := by
          cases q : σ[i]? with
          | none => rw [q] at e2; cases e2
          | some o => rw [q] at e2; exact congrArg some e2
        obtain ⟨c1, c2, c3⟩ := S.cap (z, i) (zip_at e1 hi)
        have c4 := rel_cell (env := X.env) I.ok.kind c2 c3
        have c3 : (z, NameKind.free) ∈ scope.names := PySem.mem_of_lookup c3
        obtain ⟨m, hn, hl⟩ := I4.loc
        obtain ⟨u, r, lk⟩ := hl i z v c1 e2 (.inr (.inl c2))
        refine ⟨u, r, .inr ⟨.inl c4, ?_⟩⟩
        rcases lk with ⟨k, _⟩ | ⟨_, c, hc', z'⟩
        · exact absurd ((show X.env.scope.names.lookup z = some .local from k).symm.trans c2) (by decide)
        · obtain ⟨d, hd⟩ := Option.isSome_iff_exists.mp (clOf_has (env := X.env) scope.names [] (.inl c3))
          have := cl_in z d hd
          rw [hc'] at this
          cases this
          exact ⟨c, hd, z'⟩
  have loop : codeAny (model X.prog X.w) X.A (.compLoop (.ListComp elt [⟨.Name x px, iter, [], 0⟩] scope pos) 0 (.ref it) (.ref s2.heap.objs.size) (compEnvC scope (clOf X.env scope.names []) s3.heap.objs.size X.env)) (PQ (.ref s2.heap.objs.size) s3.heap.objs.size) s4 := by
    have fpC : ∀ {H' : Hp}, (∀ b ∈ fp, H' b = none) → ∀ b ∈ fp, FpOk (Cx.comp X (x :: ys) scope s3.heap.objs.size s3 H3 fp) [] H' b := fun hn b hb =>
      ⟨hn b hb, (ok.exf b hb).1, ok.exfs b hb, .inl hb, (ok.exf b hb).2, (fun p hp => nomatch hp)⟩
    refine codeAny_loop rfl (fun n s' => ∃ i zs v H', Inv (Cx.comp X (x :: ys) scope s3.heap.objs.size s3 H3 fp) [] (v :: capV caps σ) H' s' ∧ tn i s'.heap ∧ (∀ b ∈ fp, H' b = none) ∧ W i n zs H') (fun n s5 z => ?_) m0 ⟨0, [], none, H3, Ic, T.keep _ _ _ t3 (fun b hb o e => by rw [e4]; exact kp b o e), hfp3, w0⟩
    obtain ⟨i, zs, v, H5, I5, t5, fr5, w5⟩ := z
    show wpAny _ _ ((compTurn _ 0 (.ref it) _ _).onRaise _) _ _ s5
    refine wpAny_noted ?_
    rw [compTurn_list1]
    refine wpAny_bind (wpAny_standAt (wpAny_bind ?_))
    obtain ⟨hacc, stop | go⟩ := step i n zs H5 w5
    · obtain ⟨stop, q⟩ := stop
      refine thn (T.done (Cx.comp X (x :: ys) scope s3.heap.objs.size s3 H3 fp) rfl rfl rfl hc i [] s5 _ H5 _ I5 (fpC fr5) t5 stop) fun r s6 ⟨hr, I6⟩ => ?_
      subst hr
      refine wpAny_pure (hPQ _ _ s6 H5 ?_ q ?_ I6.free ?_ Lne cne fun p hp z => ?_)
      · refine I3.call' I6.os I6.base I6.hok I6.bare fun b hb => ?_
        obtain ⟨_, g1, _, g3, g4, g5⟩ := f2 b hb
        exact ⟨g3, g1, g4, g5⟩
      · obtain ⟨m, hn, _⟩ := I6.loc
        exact ⟨m, hn⟩
      · exact I3.sz
      · exact Nat.ne_of_lt (Heap.lt_size (I3.pin p hp).1) z
    · obtain ⟨go, turn⟩ := go
      refine thn (T.item (Cx.comp X (x :: ys) scope s3.heap.objs.size s3 H3 fp) rfl rfl rfl hc i [] s5 _ H5 _ I5 (fpC fr5) t5 go) fun r s6 ⟨u, hr, h6⟩ => ?_
      subst hr
      refine wpAny_bind (thn h6 fun _ s7 ⟨y, H7, I7, r7, y7, t7, fr7⟩ => ?_)
      have I7' := I7.pinned (fpC fr7) (T.obj _ _ t7)
      have hg : PG (Cx.comp X (x :: ys) scope s3.heap.objs.size s3 H3 fp) (.Name x px) (gName 0) := pg_name S.nd rfl (.inl (lookup_relabel_local S.own)) (.inr (lookup_relabel_local S.own))
      refine wpAny_bind (wpAny_mono (hg _ s7 _ H7 y u (fun σ' H' => σ' = some y :: capV caps σ ∧ H' = H7) I7' r7 ⟨rfl, rfl⟩) (fun _ s8 z8 => ?_) fun _ _ f => f.elim)
      obtain ⟨σ8, H8, I8, e8, e8'⟩ := z8
      subst e8 e8'
      refine wpAny_bind (wpAny_bind (wpAny_mono (he _ _ _ _ _ s8 _ _ _ I8 (turn y _ y7)) (fun u9 s9 z9 => ?_) fun _ _ f => f.elim))
      obtain ⟨v9, H9, I9, r9, a9, l9, m9, hm9, w9⟩ := z9
      refine wpAny_bind (wpAny_mono (mt_append (X := Cx.comp X (x :: ys) scope s3.heap.objs.size s3 H3 fp) _ s9 _ H9 (.ref s2.heap.objs.size) [v9] _ [u9] (fun _ H' => H' = upd H9 s2.heap.objs.size (.lst (zs ++ [v9]))) I9 rfl (.cons r9 .nil) ⟨_, zs, v9, rfl, rfl, a9, l9, rfl⟩) (fun _ s10 z10 => ?_) fun _ _ f => f.elim)
      obtain ⟨_, H10, I10, _, e10⟩ := z10
      subst e10
      refine wpAny_pure (wpAny_pure ⟨rfl, m9, hm9, i + 1, zs ++ [v9], some y, _, I10.unpinned, T.keep _ _ _ t7 fun b hb o e => (I10.pin (b, o) (List.mem_append_right _ (List.mem_append_right _ (mem_pinsAt hb e)))).1, fun b hb => ?_, w9⟩)
      obtain ⟨o, e, _⟩ := T.obj _ _ t7 b hb
      exact (I10.pin (b, o) (List.mem_append_right _ (List.mem_append_right _ (mem_pinsAt hb e)))).2.1
  exact codeAny_compStart_list loop (T.self X.A 0 _ _ _ (T.keep _ _ _ t3 (fun b hb o e => by rw [e4]; exact kp b o e)) loop)
theorem pe_comp (S : CompScope X scope x ys caps) (hc : X.calm = true) (hi : PI X (.Name x px) iter wi) (he : ∀ C s H fp, PE (Cx.comp X (x :: ys) scope C s H fp) elt te) (hs : ∀ x, foldedSetIterable iter X.env x = pure x := by intro _; rfl) :
    PE X (.ListComp elt [⟨.Name x px, iter, [], 0⟩] scope pos) (tComp wi te caps) := by
  intro pins s σ H Q I h
  rw [eval_ListComp]
  refine wpAny_comprehension_free (use := none) rfl hs (closure_is (S.has I.ok)) S.kind S.names (thn (hi pins s σ H _ I h) fun v s1 h1 => thn h1 fun itv s2 h2 => ?_)
  obtain ⟨it, fp, tn, J, H2, rfl, I2, T, t0, f2, q⟩ := h2
  refine comp_run S hc he (Q := Q) I2 T t0 f2 q fun D C s' H' I' q' n' hC hz hL hcc hp => ?_
  obtain ⟨m, n'⟩ := n'
  exact ⟨m, n', fun h' sb => ⟨.ref D, H', I'.turned (it := C) (t' := s'.toks) (fun b o hb e => (sb.2 b hb).trans e) hC hL (.inr hz) hcc hp, rfl, q'⟩⟩
def tSetComp (i : Nat) (wi : TI) (te : TE) (caps : List Nat) : TS := fun D σ H => tComp wi te caps σ H fun v H1 => D.nx (σ.set i (some v)) H1
theorem ps_setcomp {i : Nat} {y : Str} {py spos : Pos} (hN : X.N.Nodup) (hiy : X.N[i]? = some y) (hy : Loc X.env.scope y) (S : CompScope X scope x ys caps) (hc : X.calm = true) (hi : PI X (.Name x px) iter wi) (he : ∀ C s H fp, PE (Cx.comp X (x :: ys) scope C s H fp) elt te)
    (hsw : swapsWith (.ListComp elt [⟨.Name x px, iter, [], 0⟩] scope pos) (some (.Name y py)) spos.line X.env = pure true := by rfl) (hs : ∀ x, foldedSetIterable iter X.env x = pure x := by intro _; rfl)
    (hf : X.fn y = true ∨ X.env.scope.names.lookup y = some .local := by first | exact .inl rfl | exact .inr rfl | assumption) :
    PS X (.Assign [.Name y py] (.ListComp elt [⟨.Name x px, iter, [], 0⟩] scope pos) spos) (tSetComp i wi te caps) := by
  intro pins s σ H D I h
  rw [exec_Assign_Name_used _ _ _ _ hsw]
  refine wpAny_bind (wpAny_standAt (wpAny_bind ?_))
  show wpAny _ _ (do let _ ← comprehension (.ListComp elt [⟨.Name x px, iter, [], 0⟩] scope pos) scope X.env _ (newList []) false (eval iter X.env) (some (assign (.Name y py) X.env))) _ _ s
  refine wpAny_bind (wpAny_mono (wpAny_comprehension_free (use := some (assign (.Name y py) X.env)) (Q := fun _ s' => SP X pins D .next s') rfl hs (closure_is (S.has I.ok)) S.kind S.names (thn (hi pins s σ H _ I h) fun v s1 h1 => thn h1 fun itv s2 h2 => ?_)) (fun _ s' hq => wpAny_pure (wpAny_pure hq)) fun _ _ e => e)
  obtain ⟨it, fp, tn, J, H2, rfl, I2, T, t0, f2, q⟩ := h2
  refine comp_run S hc he (Q := fun v H1 => D.nx (σ.set i (some v)) H1) I2 T t0 f2 q fun Dl C s' H' I' q' n' hC hz hL hcc hp => ?_
  obtain ⟨m, n'⟩ := n'
  show wpAny _ _ (assign (.Name y py) X.env (.ref Dl)) _ _ s'
  refine wpAny_assign_Name (store_ok2 I' hN hiy hy (v := .ref Dl) rfl (fun s3 I3 sb3 => ?_) hf)
  obtain ⟨a, sb3, ha⟩ := sb3
  have hCa : C ≠ a := by
    rcases ha with rfl | ha
    · exact hL
    · exact (hcc _ _ ha).symm
  exact ⟨m, n'.sameBut sb3 hCa, fun h' sb => ⟨_, H', I3.turned (it := C) (t' := s3.toks) (fun b o hb e => (sb.2 b hb).trans e) hC hL (.inr hz) hcc hp, q'⟩⟩
end
end L2
namespace L2
open PySem PySem.Spec PyProof.Rows
end L2
namespace L2
open PySem PySem.Spec PyProof.Rows
section
variable {P : Program} {w : World} {K : PySem.W.Frag} {mg : Str → Option Value} {base : Heap}
theorem Fun.okX {x qual : Str} {st : Stmt} {f : Addr} {fd : FuncData} {N ps : List Str} {k : Nat} {sp : Sp} (F : Fun K x qual st f fd) (S : FnScope N ps (defScope st)) (len : ∀ vs H Q E, sp vs H Q E → vs.length = ps.length)
    (hbody : ∀ (cdv : Value) (A : Around) (outer : List Env) (s : Shared) (H : Hp) (vs : List V) (Q : VK) (E : XK), Room k (A.deeper (envOfC qual (defScope st) s.heap.objs.size f cdv)) → sp vs H Q E →
      ∃ t, PSs (cxOf (CX1 P w) P w K mg base N qual (defScope st) f cdv A outer s H E) (defBody st) t ∧ t { nx := fun _ H' => Q .non H', rt := Q } (start N vs) H) : FnOk P w K mg base (CX1 P w) (k + 1) f fd ps sp := by
  obtain ⟨oc, od, kV, doc, pm, an, cdv, ct, osl, rfl, lk, hcd⟩ := F.ex
  exact fn_of lk hcd S len fun A outer s H vs Q E hr hsp => hbody cdv A outer s H vs Q E hr hsp
end
theorem passesN {X : Cx} {P : Program} {w : World} : PassesR (CX1 P w) X (fun _ => E0) := by
  intro pins σ H s e s' _ hx
  obtain ⟨_, _, _, _, _, _, _, _, hE⟩ := hx
  exact hE.elim
theorem log2_lt {n : Nat} {k : Nat} (h : n < 2 ^ k) (hk : 0 < k) : n.log2 < k := by
  by_cases h0 : n = 0
  · rw [h0, show Nat.log2 0 = 0 from rfl]; exact hk
  · exact (Nat.log2_lt h0).mpr h
def Big (i : Int) : Prop := i.natAbs < 2 ^ 8000
theorem mulOk_big {i j : Int} (hi : Big i) (hj : Big j) : IntMulOk i j := by
  have b : ∀ {i : Int}, Big i → Builtin.Int.intBits i ≤ 8000 := fun {i} h => by
    unfold Builtin.Int.intBits
    split
    · exact Nat.zero_le _
    · have := log2_lt (k := 8000) h (by decide)
      omega
  have b1 := b hi
  have b2 := b hj
  have h3 : Builtin.Int.intTooBig (Builtin.Int.intBits i + Builtin.Int.intBits j) = false := by
    unfold Builtin.Int.intTooBig
    refine decide_eq_false ?_
    have : (bitsLine : Int) = 134217728 := by decide
    omega
  unfold IntMulOk
  rw [h3, Bool.and_false]
  exact Bool.false_ne_true
section
variable {X : Cx}
theorem op_mulB : OpR X (binaryOp .Mult) (rI (fun i j => Big i ∧ Big j) fun i j => .int (i * j)) := opI fun _ _ _ _ _ _ _ hc q => mul_int q (mulOk_big hc.1 hc.2)
theorem op_fdivB : OpR X (binaryOp .FloorDiv) (rI (fun _ j => j ≠ 0 ∧ Big j) fun i j => .int (i.fdiv j)) := opI fun _ _ _ _ _ _ _ hc q =>
  floordiv_int hc.1 q (.inl (PyProof.noPylong_of_log2 (Nat.lt_of_lt_of_le (log2_lt (k := 8000) hc.2 (by decide)) (by decide))))
end
def clsV : V → Option Value
  | .ty T => some (.type T)
  | .ref C => some (.ref C)
  | _ => none
theorem clsV_is {c : V} {u t : Value} (r : RelV c u) (h : clsV c = some t) : u = t := by
  cases c with
  | ty T => cases r; exact Option.some.inj h
  | ref C => cases r; exact Option.some.inj h
  | _ => cases h
section
variable {X : Cx}
theorem call_isinst : CallR X (.builtin "isinstance") (fun xs H Q => ∃ x c t t' b, xs = [x, c] ∧ TyOf X.K H x t ∧ clsV c = some t' ∧ PySem.W.kitOne X.K t t' = some b ∧ Q (.bl b) H) := by
  intro pins s σ H xs us Q I r h
  obtain ⟨x, c, t, t', b, rfl, ty, hc, hk, q⟩ := h
  obtain ⟨u, u', rfl, r1, r2⟩ := vals2 r
  cases clsV_is r2 hc
  exact isinst_ok I r1 ty hk fun tk => ⟨.bl b, H, I.tok tk, rfl, q⟩
end
def eqVs : List V → List V → Bool
  | [], [] => true
  | x :: xs, y :: ys => eqV x y && eqVs xs ys
  | _, _ => false
theorem eqVs_range : ∀ (xs ys : List V) (e : Nat → Bool), (∀ j x y, xs[j]? = some x → ys[j]? = some y → e j = eqV x y) → ((List.range (min xs.length ys.length)).all e && xs.length == ys.length) = eqVs xs ys
  | [], [], e, _ => rfl
  | [], _ :: _, e, _ => by simp [eqVs]
  | _ :: _, [], e, _ => by simp [eqVs]
  | x :: xs, y :: ys, e, h => by
    have ih := eqVs_range xs ys (fun j => e (j + 1)) fun j x y h1 h2 => h (j + 1) x y h1 h2
    have h0 : e 0 = eqV x y := h 0 x y rfl rfl
    show _ = (eqV x y && eqVs xs ys)
    rw [← ih, ← h0]
    have e1 : min (x :: xs).length (y :: ys).length = min xs.length ys.length + 1 := by simp only [List.length_cons]; omega
    rw [e1, List.range_succ_eq_map, List.all_cons, List.all_map]
    have e2 : ((x :: xs).length == (y :: ys).length) = (xs.length == ys.length) := by simp only [List.length_cons]; rw [Bool.eq_iff_iff]; simp
    rw [e2, Bool.and_assoc]
    rfl
def rEqT (K : PySem.W.Frag) : R2 := fun x y H Q => ∃ a b xs ys, x = .ref a ∧ y = .ref b ∧ SqT K H a xs ∧ SqT K H b ys ∧ xs.all flatV = true ∧ ys.all flatV = true ∧ Q (.bl (eqVs xs ys)) H
def rNeT (K : PySem.W.Frag) : R2 := fun x y H Q => ∃ a b xs ys, x = .ref a ∧ y = .ref b ∧ SqT K H a xs ∧ SqT K H b ys ∧ xs.all flatV = true ∧ ys.all flatV = true ∧ Q (.bl (!eqVs xs ys)) H
theorem flat_at : ∀ {xs : List V} {j : Nat} {x : V}, xs.all flatV = true → xs[j]? = some x → flatV x = true
  | _ :: _, 0, _, h, e => by
    rw [List.all_cons, Bool.and_eq_true] at h
    cases e
    exact h.1
  | _ :: _, j + 1, _, h, e => by
    rw [List.all_cons, Bool.and_eq_true] at h
    exact flat_at h.2 e
section
variable {X : Cx}
theorem op_neT (hu : X.A.units < cLine) : OpR X (compareOp .NotEq) (rNeT X.K) := by
  intro pins s σ H x y v u Q I rx ry h
  obtain ⟨a, b, xs, ys, rfl, rfl, h1, h2, f1, f2, q⟩ := h
  cases rx
  cases ry
  obtain ⟨i1, v1, t1, _⟩ := I.tuple h1
  obtain ⟨i2, v2, t2, _⟩ := I.tuple h2
  have l1 := v1.length
  have l2 := v2.length
  refine SeqAt.RcNeAt.tuples (e := fun j => match xs[j]?, ys[j]? with | some x, some y => eqV x y | _, _ => true) (show s.heap.IsTuple a i1.toArray from t1) (show s.heap.IsTuple b i2.toArray from t2) hu (fun j h1 h2 => ?_) _ _ _ _ ?_
  · have b1 : j < i1.length := by simpa using h1
    have b2 : j < i2.length := by simpa using h2
    have e1 : xs[j]? = some (xs[j]'(by omega)) := List.getElem?_eq_getElem _
    have e2 : ys[j]? = some (ys[j]'(by omega)) := List.getElem?_eq_getElem _
    obtain ⟨u1, g1, r1⟩ := v1.get e1
    obtain ⟨u2, g2, r2⟩ := v2.get e2
    rw [List.getElem?_eq_getElem b1] at g1
    rw [List.getElem?_eq_getElem b2] at g2
    have w1 : i1.toArray[j] = u1 := by simpa using Option.some.inj g1
    have w2 : i2.toArray[j] = u2 := by simpa using Option.some.inj g2
    rw [w1, w2]
    simp only [e1, e2]
    exact eqAt_V r1 r2 (flat_at f1 e1) (flat_at f2 e2)
  · rw [List.size_toArray, List.size_toArray, ← l1, ← l2, eqVs_range xs ys _ (fun j x y h1 h2 => by simp only [h1, h2])]
    exact ⟨.bl (!eqVs xs ys), H, I, rfl, q⟩
theorem op_eqT (hu : X.A.units < cLine) : OpR X (compareOp .Eq) (rEqT X.K) := by
  intro pins s σ H x y v u Q I rx ry h
  obtain ⟨a, b, xs, ys, rfl, rfl, h1, h2, f1, f2, q⟩ := h
  cases rx
  cases ry
  obtain ⟨i1, v1, t1, _⟩ := I.tuple h1
  obtain ⟨i2, v2, t2, _⟩ := I.tuple h2
  have l1 := v1.length
  have l2 := v2.length
  refine SeqAt.eq_tupleAt (e := fun j => match xs[j]?, ys[j]? with | some x, some y => eqV x y | _, _ => true) (show s.heap.IsTuple a i1.toArray from t1) (show s.heap.IsTuple b i2.toArray from t2) hu (fun j h1 h2 => ?_) ?_
  · have b1 : j < i1.length := by simpa using h1
    have b2 : j < i2.length := by simpa using h2
    have e1 : xs[j]? = some (xs[j]'(by omega)) := List.getElem?_eq_getElem _
    have e2 : ys[j]? = some (ys[j]'(by omega)) := List.getElem?_eq_getElem _
    obtain ⟨u1, g1, r1⟩ := v1.get e1
    obtain ⟨u2, g2, r2⟩ := v2.get e2
    rw [List.getElem?_eq_getElem b1] at g1
    rw [List.getElem?_eq_getElem b2] at g2
    have w1 : i1.toArray[j] = u1 := by simpa using Option.some.inj g1
    have w2 : i2.toArray[j] = u2 := by simpa using Option.some.inj g2
    rw [w1, w2]
    simp only [e1, e2]
    exact eqAt_V r1 r2 (flat_at f1 e1) (flat_at f2 e2)
  · rw [List.size_toArray, List.size_toArray, ← l1, ← l2, eqVs_range xs ys _ (fun j x y h1 h2 => by simp only [h1, h2])]
    exact ⟨.bl (eqVs xs ys), H, I, rfl, q⟩
end
end L2
set_option maxHeartbeats 4000000
namespace L2
open PySem PySem.Spec PyProof.Rows
section
variable {prog : Program} {w : World} {A : Around} {E : Value → Shared → Prop} {s : Shared} {K : PySem.W.Frag} {x D : Addr} {ox : Obj} {od : Option Obj}
theorem exc_class_attr {Q : Option Value → Shared → Prop} (X : K.In s.heap) (I : PySem.W.InstAt s.heap x ox D od) (hga : PySem.W.findIn K (.ref D) "__getattribute__" = some (some (.builtin "BaseException.__getattribute__")))
    (hgt : PySem.W.findIn K (.ref D) "__getattr__" = some none) (ha : PySem.W.findIn K (.ref D) "__class__" = some (some (.builtin "object.__class__"))) (hm : PySem.W.mroIn K D (.type "object") = some true) (hsb : PySem.W.subIn K (.ref D) (.type "BaseException") = some true)
    (h : Q (some (.ref D)) { s with toks := s.toks + 1 }) : wpAny (model prog w) A (getAttr? (.ref x) "__class__") Q E s := by
  obtain ⟨hh, g, d, t, os⟩ := s
  have L0 := I.type (M := model prog w)
  have L1 := PySem.W.looks_findIn (M := model prog w) X hga
  have L2 := PySem.W.looks_findIn (M := model prog w) X hgt
  have L4 := PySem.W.looks_subIn (M := model prog w) X hsb
  have f3 := F.excAttr_ValueError.ga.bind (.ref x)
  have hx2 : (Value.builtin "BaseException.__getattribute__" == Value.builtin "object.__getattribute__") = false := by decide +kernel
  have hx1 : (onTheHeap (Value.ref D) && Value.builtin "BaseException.__getattribute__" == Value.builtin "object.__getattribute__") = false := by rw [hx2]; rfl
  have hx0 : (false && onTheHeap (Value.builtin "BaseException.__getattribute__")) = false := rfl
  unfold getAttr? getAttrBy? getAttrBy
  repeat (any_goals (first | assumption | with_reducible refine L0.at ?_ | with_reducible refine L1.at ?_ | with_reducible refine L2.at ?_ | wp_step))
  refine codeAny_call_builtin F.excAttr_ValueError.ga.plain F.entry_bexc_ga ?_
  have hk : builtinKind "BaseException.__getattribute__" = some .slot := by decide +kernel
  have hsp : splitId "BaseException.__getattribute__" = some ("BaseException", "__getattribute__") := by decide +kernel
  have har := F.args_bexc_ga (.ref x) (.str "__class__" t)
  simp only [checkBuiltinCall, hk, hsp]
  refine wpAny_bind ?_
  unfold isInstance
  have L3 := PySem.W.looks_findIn (M := model prog w) X ha
  have f5 := F.typeOf_object_class
  have f6 := F.slot_gs_get.lookup
  have f7 := F.slot_gs_set.lookup
  have hg : ∀ {R : Result → Shared → Prop} {A : Around}, R (.ok (.ret (.ref D))) ⟨hh, g, d, t + 1, os⟩ → codeAny (model prog w) A (.call (.builtin "getset_descriptor.__get__") ⟨[.builtin "object.__class__", .ref x, .ref D], []⟩) R ⟨hh, g, d, t + 1, os⟩ := fun hr => PySem.W.class_get (s := ⟨hh, g, d, t + 1, os⟩) X I hm hr
  repeat (any_goals (first | assumption | with_reducible refine L0.at ?_ | with_reducible refine L4.at ?_ | with_reducible refine L3.at ?_ | wp_step))
  refine hg ?_
  repeat (any_goals (first | assumption | wp_step))
end
structure ExcTy (K : PySem.W.Frag) (C : Addr) : Prop where
  cls : PySem.W.isClsIn K C = true
  ga : PySem.W.findIn K (.ref C) "__getattribute__" = some (some (.builtin "BaseException.__getattribute__"))
  gt : PySem.W.findIn K (.ref C) "__getattr__" = some none
  cl : PySem.W.findIn K (.ref C) "__class__" = some (some (.builtin "object.__class__"))
  ob : PySem.W.mroIn K C (.type "object") = some true
  be : PySem.W.subIn K (.ref C) (.type "BaseException") = some true
theorem ExcTy.data {K : PySem.W.Frag} {C : Addr} (c : ExcTy K C) : ∃ cl dd cd sl, K.lookup C = some ⟨cl, dd, .cls cd, sl⟩ := by
  have q := c.cls
  unfold PySem.W.isClsIn PySem.W.clsIn at q
  split at q
  · rename_i cl dd cd sl ho
    exact ⟨cl, dd, cd, sl, ho⟩
  · cases q
theorem kitx_exc {K : PySem.W.Frag} {x C : Addr} {ox : Obj} (c : ExcTy K C) : PySem.W.KitX K (.ref x) (.ref C) (fun h => ∃ od, PySem.W.InstAt h x ox C od) where
  ty := fun _ _ _ ⟨_, I⟩ => I.type
  it := fun M h X _ => by
    obtain ⟨cl, dd, cd, sl, ho⟩ := c.data
    intro A' Q' E' s' k q
    unfold isType loadHead
    exact wpAny_bind (wpAny_loadPart (k _ _ (X _ _ ho)) (wpAny_pure q))
  ne := fun h tp dd its n sl X htp => by
    obtain ⟨cl, dd', cd, sl', ho⟩ := c.data
    refine Bool.eq_false_iff.mpr fun q => ?_
    have e : C = tp := Value.ref.inj (beq_iff_eq.mp q)
    rw [← e, X _ _ ho] at htp
    cases htp
  ca := fun X ⟨_, I⟩ k => exc_class_attr X I c.ga c.gt c.cl c.ob c.be k
section
variable {X : Cx}
end
section
variable {X : Cx} {pins : List (Addr × Obj)} {σ : St} {H : Hp} {s : Shared} {M : Model} {A : Around} {E : Value → Shared → Prop} {Q : Unit → Shared → Prop} {i : Nat} {n : Str}
theorem forget_ok {v : V} (I : Inv X pins σ H s) (hN : X.N.Nodup) (hi : X.N[i]? = some n) (hk : X.env.scope.names.lookup n = some .local) (hv : σ[i]? = some (some v)) (h : ∀ s', Inv X pins (σ.set i none) H s' → Q () s') : wpAny M A (unbindName X.env n) Q E s := by
  obtain ⟨m, hn, hl⟩ := id I.loc
  obtain ⟨u, r, lk⟩ := hl i n v hi hv (.inl hk)
  have hm : m n = some u := by
    rcases lk with ⟨_, e⟩ | ⟨k, _⟩
    · exact e
    · rcases k with k | k
      · exact absurd ((show X.env.scope.names.lookup n = some .cell from k).symm.trans hk) (by decide)
      · exact absurd ((show X.env.scope.names.lookup n = some .free from k).symm.trans hk) (by decide)
  have hcls : (X.env.scope.kind == .class || (X.env.scope.kind == .module && X.env.locals != X.env.globals)) = false := by rw [I.ok.kind]; rfl
  obtain ⟨oL, _, _, hoL, _⟩ := id hn
  refine wpAny_unbindName_local hk hn hm hcls fun h' u' hn' hs => h _ ⟨I.ok, I.os, I.bare, ⟨fun b o e n hb hx => ?_, fun b o e n hb hx => ?_, I.base.free, fun b o e hx => ?_, I.base.tups, I.base.frzs, I.base.tbls⟩, ⟨_, hn', fun j y v' e1 e2 e3 => ?_⟩, fun y c e => ?_, I.free, I.freeC, fun p hp => ?_, fun b ob e => ?_, by simpa using I.len⟩
  · exact (hs.2 b (Nat.ne_of_lt (Nat.lt_of_lt_of_le (Heap.lt_size e) I.ok.above))).trans (I.base.keep b o e n hb hx)
  · obtain ⟨sl, e1⟩ := I.base.slot b o e n hb hx
    exact ⟨sl, (hs.2 b (Nat.ne_of_lt (Nat.lt_of_lt_of_le (Heap.lt_size e) I.ok.above))).trans e1⟩
  · obtain ⟨o', e1⟩ := I.base.there b o e hx
    exact ⟨o', (hs.2 b (Nat.ne_of_lt (Nat.lt_of_lt_of_le (Heap.lt_size e) I.ok.above))).trans e1⟩
  · by_cases hj : j = i
    · subst hj
      have hlt : j < σ.length := (List.getElem?_eq_some_iff.mp hv).1
      rw [List.getElem?_set_self hlt] at e2
      cases e2
    · rw [List.getElem?_set_ne (Ne.symm hj)] at e2
      obtain ⟨u2, r2, q⟩ := hl j y v' e1 e2 e3
      refine ⟨u2, r2, ?_⟩
      rcases q with ⟨k, e⟩ | ⟨k, c, e, z⟩
      · refine .inl ⟨k, ?_⟩
        have : y ≠ n := fun e => hj (nodup_ix hN e1 (e ▸ hi))
        simp [this, e]
      · exact .inr ⟨k, c, e, z.sameBut hs (I.cne y c e)⟩
  · obtain ⟨w', z⟩ := I.cell y c e
    exact ⟨w', z.sameBut hs (I.cne y c e)⟩
  · obtain ⟨e, n, ne, nf, d⟩ := I.pin p hp
    exact ⟨(hs.2 p.1 ne).trans e, n, ne, nf, d⟩
  · refine (I.hok b ob e).stay (fun c w' hc q => (hs.2 c ?_).trans q) (fun _ q => q) fun _ _ q => q
    rintro rfl
    have fr := I.free
    rcases hc with hc | hc
    · rw [hc, e] at fr; cases fr
    · rw [hc] at fr; cases fr
theorem name_goes {pos : Pos} (I : Inv X pins σ H s) (hN : X.N.Nodup) (hi : X.N[i]? = some n) (hk : X.env.scope.names.lookup n = some .local) (h : ∀ s', Inv X pins (σ.set i none) H s' → Q () s') :
    wpAny M A (do bindName X.env n .none; unbindBehindTheSuite X.env n pos) Q E s := by
  have hlt : i < σ.length := by rw [I.len]; exact (List.getElem?_eq_some_iff.mp hi).1
  refine wpAny_bind (wpAny_bindName (store_ok I hN hi (.inl hk) (v := .non) rfl (fun s1 I1 => ?_) (.inr hk)))
  unfold unbindBehindTheSuite
  refine wpAny_onRaise (forget_ok I1 hN hi hk (v := .non) (by rw [List.getElem?_set_self hlt]) fun s2 I2 => h s2 ?_)
  rw [List.set_set] at I2
  exact I2
end
section
variable {X : Cx} {body : List Stmt} {D : Addr} {dn n : Str} {i : Nat} {b₀ : Stmt} {suite : List Stmt} {pos hpos np : Pos} {tb : (St → XK) → TS} {ts : Addr → Addr → Option Addr → TS} {bmB' : List Value} {newId' : String}
end
section
variable {prog : Program} {w : World} {A : Around} {E : Value → Shared → Prop} {s : Shared}
end
theorem vals_bl : ∀ {bs : List Bool} {us : List Value}, Vals (bs.map V.bl) us → us = bs.map Value.bool
  | [], _, r => by cases r; rfl
  | b :: bs, _, r => by
    cases r with
    | cons h t =>
      cases h
      rw [vals_bl t]
      rfl
theorem truth_bl {prog : Program} {w : World} {A : Around} {bs : List Bool} : TruthOf prog w A (fun i v => (bs.map Value.bool).toArray[i]? = some v) (fun i => bs.getD i false) := by
  intro i v s Q E h q
  have h' : (bs.map Value.bool)[i]? = some v := by simpa using h
  rw [List.getElem?_map] at h'
  cases e : bs[i]? with
  | none => rw [e] at h'; cases h'
  | some b =>
    rw [e] at h'
    cases h'
    have q' : Q b s := by
      have eb : bs.getD i false = b := by rw [List.getD_eq_getElem?_getD, e]; rfl
      exact eb ▸ q
    exact wpAny_truthy_bool q'
section
variable {X : Cx}
end
end L2
set_option maxRecDepth 100000
set_option maxHeartbeats 4000000
namespace PySem
open Sem (wp)
section
variable {prog : Program} {w : World} {A : Around} {E : Value → Shared → Prop} {h : Heap} {g : Array GenState} {d : Drawn} {t : Nat} {os : OsState}
variable {nm q : Str} {C N : Addr} {bs bm bmB : List Value} {hdct : Bool} {sn : List Str} {sub : List Value} {ab : Bool} {col : Option Bool} {dd : Option Addr} {k0 k1 k2 k3 k5 : Option Value} {B newId initId : String}
theorem xtype_call_init (F : ExcBaseFacts B newId initId bmB) (T : OwnTail h bmB bm) {mN : Str → Option Value} {rest : List Value} {fI : Addr} {oI : Obj} {Q : Fin → Shared → Prop}
    (hC : h.get? C = some (excClassObj nm q C N bs bm hdct sn sub ab col dd k0 k1 k2 k3 k5 newId)) (hn : h.Ns N mN) (hi : mN "__init__" = some (.ref fI))
    (hfI : h.get? fI = some oI) (hfc : oI.cls = .type "function")
    (hq : ∀ h' e, Heap.MadeExcOf h h' e (.ref C) rest →
      wpAny (model prog w) A (call (.ref fI) (.ref e :: rest)) (fun r s' => r = .none ∧ Q (.done (.ret (.ref e))) s') E ⟨h', g, d, t, os⟩) (hrest : rest.length ≤ sizeLine := by size_fits) :
    wpAny (model prog w) A (Builtin.«type.__call__» ⟨.ref C :: rest, []⟩) Q E ⟨h, g, d, t, os⟩ := by
  repeat (first | with_reducible refine wpAny_loadPart_at hC ?_ | with_reducible refine wpAny_madeBy_exc hC ?_ | wp_step)
  refine codeAny_call_builtin_code (Code.quiet_builtin _ F.quiet) (wpAny_check_new_subT F T hC ?_)
  refine codeAny_exc_new_subT F T hC ?_ hrest
  show wpAny _ _ _ _ _ _
  have hC₁ := Heap.get?_push_of_some { cls := .ref C, data := .fields #[.ref h.objs.size, .none, .none, .none, .bool false, .none] }
    (Heap.get?_push_of_some { cls := .type "tuple", data := .seq rest.toArray } hC)
  have hfI₁ := Heap.get?_push_of_some { cls := .ref C, data := .fields #[.ref h.objs.size, .none, .none, .none, .bool false, .none] }
    (Heap.get?_push_of_some { cls := .type "tuple", data := .seq rest.toArray } hfI)
  have hn₁ : ((h.push { cls := .type "tuple", data := .seq rest.toArray }).push { cls := .ref C, data := .fields #[.ref h.objs.size, .none, .none, .none, .bool false, .none] }).Ns N mN :=
    let ⟨o, es, ep, e, r⟩ := hn; ⟨o, es, ep, Heap.get?_push_of_some _ (Heap.get?_push_of_some _ e), r⟩
  have hget : ((h.push { cls := .type "tuple", data := .seq rest.toArray }).push
      { cls := .ref C, data := .fields #[.ref h.objs.size, .none, .none, .none, .bool false, .none] }).get? (h.objs.size + 1) = some
      { cls := .ref C, data := .fields #[.ref h.objs.size, .none, .none, .none, .bool false, .none] } := by heap_get
  have hcC : (Value.ref C :: bm).contains (.ref C) = true := by simp
  have T₁ := T.keeps (h' := (h.push { cls := .type "tuple", data := .seq rest.toArray }).push { cls := .ref C, data := .fields #[.ref h.objs.size, .none, .none, .none, .bool false, .none] })
    fun b o e => Heap.get?_push_of_some _ (Heap.get?_push_of_some _ e)
  unfold isInstance
  repeat (first | with_reducible refine wpAny_loadPart_at hget ?_ | (with_reducible refine wpAny_isSubtype_exc hC₁ ?_; rw [hcC]) | wp_step)
  show wpAny _ _ (typeLookup (.ref C) _) _ _ _
  refine wpAny_typeLookup_tail hC₁ hn₁ T₁ F.mroIs F.init.lookup ?_
  rw [hi]
  refine wpAny_holding (wpAny_bind ?_)
  unfold bindSpecial
  refine wpAny_bind (wpAny_typeOf (T := "function") ⟨_, hfI₁, hfc⟩ ?_)
  rw [if_pos (by decide)]
  refine wpAny_pure (wpAny_bind (wpAny_mono (hq _ (h.objs.size + 1) ⟨fun b o hb => Heap.get?_push_of_some _ (Heap.get?_push_of_some _ hb), Heap.get?_none_of_le (Nat.le_succ _), h.objs.size, hget, Heap.get?_none_of_le (Nat.le_refl _), ?_⟩) (fun r s' hr => ?_) fun _ _ x => x))
  · exact Heap.get?_push_of_some _ (Heap.get?_push_at rfl rfl)
  · obtain ⟨rfl, hQ⟩ := hr
    wp_walk
    exact hQ
theorem xcall_init (F : ExcBaseFacts B newId initId bmB) (T : OwnTail h bmB bm) {mN : Str → Option Value} {rest : List Value} {fI : Addr} {oI : Obj} {Q : Value → Shared → Prop}
    (hC : h.get? C = some (excClassObj nm q C N bs bm hdct sn sub ab col dd k0 k1 k2 k3 k5 newId)) (hn : h.Ns N mN) (hi : mN "__init__" = some (.ref fI))
    (hfI : h.get? fI = some oI) (hfc : oI.cls = .type "function")
    (hq : ∀ h' e, Heap.MadeExcOf h h' e (.ref C) rest →
      wpAny (model prog w) (A.under (.builtin "type.__call__" ⟨.ref C :: rest, []⟩)) (call (.ref fI) (.ref e :: rest)) (fun r s' => r = .none ∧ Q (.ref e) s') E ⟨h', g, d, t, os⟩) (hrest : rest.length ≤ sizeLine := by size_fits) :
    wpAny (model prog w) A (call (.ref C) rest) Q E ⟨h, g, d, t, os⟩ := by
  have f1 := tc_lookup
  have f2 := tc_bind (.ref C)
  have hT : (⟨h, g, d, t, os⟩ : Shared).TypeIs (.ref C) "type" := ⟨_, hC, rfl⟩
  refine wpAny_call (codeAny_of_tree ?_)
  show wpAny _ _ (callAny (.ref C) _) _ _ _
  repeat (any_goals (first | assumption | with_reducible refine wpAny_loadPart_at hC ?_ | wp_step))
  refine ⟨rfl, ?_⟩
  refine codeAny_call_builtin_at (Code.quiet_builtin _ (by decide +kernel)) entry_typeCall (wpAny_check_type_call_sub hC (xtype_call_init (hrest := hrest) F T hC hn hi hfI hfc fun h' e hm => ?_))
  exact hq h' e hm
theorem xbase_init (F : ExcBaseFacts B newId initId bmB) (T : OwnTail h bmB bm) {rest : List Value} {e t0 : Addr} {oe : Obj} {vs : Array Value} {Q : Value → Shared → Prop}
    (hC : h.get? C = some (excClassObj nm q C N bs bm hdct sn sub ab col dd k0 k1 k2 k3 k5 newId)) (he : h.get? e = some oe) (hcls : oe.cls = .ref C) (hdat : oe.data = .fields vs) (h0 : vs[0]? = some (.ref t0))
    (hq : ∀ h', (∀ b o, b ≠ e → h.get? b = some o → h'.get? b = some o) → h'.get? e = some (Obj.mapFields (·.setIfInBounds 0 (.ref h.objs.size)) oe) → Q .none ⟨h', g, d, t, os⟩) (hrest : rest.length ≤ sizeLine := by size_fits) :
    wpAny (model prog w) A (call (.builtin initId) (.ref e :: rest)) Q E ⟨h, g, d, t, os⟩ := by
  refine wpAny_call (codeAny_call_builtin F.init.plain F.initEntry (wpAny_check_init_subT F T hC he hcls ?_))
  unfold Builtin.«BaseException.__init__»
  dsimp only
  rw [if_neg (by simp)]
  unfold newTuple Builtin.BaseException.bexcPut
  have hsz : 0 < vs.size := (Array.getElem?_eq_some_iff.mp h0).1
  have he₁ := Heap.get?_push_of_some (h := h) { cls := .type "tuple", data := .seq rest.toArray } he
  refine wpAny_bind (wpAny_newObj_type (wpAny_bind (wpAny_bind (wpAny_field he₁ hdat h0 (wpAny_bind (wpAny_setField he₁ hdat hsz ?_))))) (by show rest.toArray.size ≤ sizeLine; rw [List.size_toArray]; exact hrest))
  refine wpAny_letGo (wpAny_pure (hq _ (fun b o nb hb => ?_) ?_))
  · rw [Heap.get?_update_other _ _ (Ne.symm nb)]
    exact Heap.get?_push_of_some _ hb
  · rw [Heap.get?_update_self _ he₁ (Obj.isFreed_of_fields (Obj.data_mapFields hdat _))]
end
end PySem
namespace PySem.W
open PySem PySem.Builtin PySem.Builtin.ObjectAttr
theorem slot_bga : Slot "BaseException" "__getattribute__" "BaseException.__getattribute__" :=
  .of (owner := "BaseException") (n := "__getattribute__") (by rw [typeLookup_type, builtinLookup_eq_fast]; kernel_rfl) (by decide +kernel) (by decide +kernel) (by decide +kernel)
    (by first | exact .inl (by decide +kernel) | exact .inr (by decide +kernel)) (by rw [isSubtype_type]; kernel_rfl)
theorem entry_bga : entryFor table "BaseException.__getattribute__" = some Builtin.«object.__getattribute__» := entryFor_alias (id' := "object.__getattribute__") (by rw [fastTable_eq_tree]; kernel_rfl) (by decide +kernel) (by decide +kernel) (by rw [fastTable_eq_tree]; kernel_rfl)
theorem args_bga (a b : Value) : argsOk "BaseException.__getattribute__" ⟨[a, b], []⟩ := by unfold argsOk; kernel_rfl
def valTail (l : List Value) : Bool := l == [.type "ValueError", .type "Exception", .type "BaseException", .type "object"]
def valOver : List Value → Bool
  | .ref c :: r => valTail (.ref c :: r) || valOver r
  | l => valTail l
theorem refuse_tail (self : Value) {l : List Value} (e : valTail l = true) : refuseLoop self "__setattr__" l = pure () := by rw [beq_iff_eq.mp e]; exact PySem.F.store_ValueError.passes self
theorem refuse_val (self : Value) : ∀ (l : List Value), valOver l = true → refuseLoop self "__setattr__" l = pure ()
  | [], e => refuse_tail self e
  | v :: r, e => by
    cases v with
    | ref c =>
      rw [refuseLoop_ref]
      rcases (Bool.or_eq_true _ _).mp e with z | z
      · exact absurd z (by unfold valTail; simp)
      · exact refuse_val self r z
    | _ => exact refuse_tail self e
section
variable {prog : Program} {w : World} {A : Around} {E : Value → Shared → Prop} {s : Shared} {K : Frag} {x C : Addr} {ox : Obj} {od : Option Obj} {name : Str} {v : Value}
theorem xget {expr : Bool} {Q : Value → Shared → Prop} (X : K.In s.heap) (I : InstAt s.heap x ox C od) (hga : findIn K (.ref C) "__getattribute__" = some (some (.builtin "BaseException.__getattribute__"))) (hk : findIn K (.ref C) "__getattr__" = some none)
    (hi : subIn K (.ref C) (.type "BaseException") = some true) (hf : findObj K C od name = some (.value v)) (hh : handedIn v = true) (h : Q v { s with toks := s.toks + 1 }) : wpAny (model prog w) A (getAttr (.ref x) name expr) Q E s := by
  have L0 := I.type (M := model prog w)
  refine wpAny_bind (wpAny_mkText (wpAny_holding (wpAny_bind (L0 _ _ _ _ (fun _ _ e => e) (wpAny_bind (looks_findIn X hga _ _ _ _ (fun _ _ e => e) ?_))))))
  dsimp only
  rw [show (onTheHeap (Value.ref C) && Value.builtin "BaseException.__getattribute__" == Value.builtin "object.__getattribute__") = false from by rw [show (Value.builtin "BaseException.__getattribute__" == Value.builtin "object.__getattribute__") = false from by decide +kernel, Bool.and_false], if_neg (by decide)]
  have hb : Looks (model prog w) s.heap (hookBefore (.ref C)) none := looks_hook X (mc := .ref C) hk
  refine wpAny_bind (hb _ _ _ _ (fun _ _ e => e) (wpAny_bind (wpAny_attempt (wpAny_holding ?_))))
  unfold callGetattribute
  rw [show (expr && onTheHeap (Value.builtin "BaseException.__getattribute__")) = false from Bool.and_false _, if_neg (by decide)]
  unfold boundAndCalled
  rw [slot_bga.bind]
  refine wpAny_bind (wpAny_pure ?_)
  show wpAny _ _ (call (.builtin "BaseException.__getattribute__") [.ref x, .str name s.toks]) _ _ _
  refine wpAny_call ?_
  refine codeAny_call_builtin slot_bga.plain entry_bga ?_
  refine @check_slot (model prog w) _ _ { s with toks := s.toks + 1 } "BaseException.__getattribute__" "BaseException" "__getattribute__" (.ref x) [.str name s.toks] [] _ (by decide +kernel) (by decide +kernel) (L0.andThen (looks_subIn X hi)) (args_bga (.ref x) (.str name s.toks)) ?_
  have L1 := looks_find (M := model prog w) X I hf
  unfold Builtin.«object.__getattribute__»
  refine wpAny_bind (wpAny_pure ?_)
  refine wpAny_bind (wpAny_pure (wpAny_bind (L0.here (s := { s with toks := s.toks + 1 }) (wpAny_bind (L1.here (s := { s with toks := s.toks + 1 }) ?_)))))
  refine wpAny_pure ?_
  show wpAny _ _ (handedOut v) _ _ _
  rw [handedOut_of hh]; exact wpAny_pure h
end
end PySem.W
namespace PySem.W
open PySem PySem.Builtin PySem.Builtin.ObjectAttr
section
variable {prog : Program} {w : World} {A : Around} {E : Value → Shared → Prop} {s : Shared} {K : Frag} {x C : Addr} {ox : Obj} {od : Option Obj} {name : Str} {v : Value} {R : Result → Shared → Prop}
def excOver (K : Frag) (C : Addr) : Bool := (clsIn K C).any fun cd => valOver cd.mro && cd.mro.contains (.type "object") && !cd.mro.isEmpty && cd.hasDict
theorem xosa {tk : Tok} (X : K.In s.heap) (I : InstAt s.heap x ox C od) (hp : excOver K C = true) (ht : takerIn K C name = some none)
    (h : ∀ b cd, clsIn K C = some cd → cd.hasDict = true → wpAny (model prog w) A.in1 (storeInOwnDict (.ref x) (.ref C) (.str name tk) name v b)
      (fun fin s' => match fin with | .done f => R (.ok f) s' | .again c' => c'.quiet = true ∧ codeAny (model prog w) A c' R s') (fun e s' => R (.error e) s') s) :
    codeAny (model prog w) A (.call (.builtin "object.__setattr__") ⟨[.ref x, .str name tk, v], []⟩) R s := by
  have SF := PySem.F.store_object
  obtain ⟨cd, hc, ho⟩ := any_some hp
  rw [Bool.and_eq_true, Bool.and_eq_true, Bool.and_eq_true] at ho
  obtain ⟨⟨⟨ho, h2⟩, h3⟩, h4⟩ := ho
  have ne : cd.mro.isEmpty = false := by simpa using h3
  have sub : Looks (model prog w) s.heap (isInstance (.ref x) (.type "object")) true := I.type.andThen (looks_mroIn X (by unfold mroIn; rw [hc, Option.bind_some, if_neg (by rw [ne]; decide), h2]))
  refine codeAny_call_builtin SF.slot.plain SF.entry (@check_slot (model prog w) _ _ s "object.__setattr__" "object" "__setattr__" (.ref x) [.str name tk, v] [] _ SF.kind SF.split sub (SF.args (.ref x) (.str name tk) v) ?_)
  obtain ⟨attr, ha, hr⟩ := Option.bind_eq_some_iff.mp ht
  have hm : Looks (model prog w) s.heap (mroOf (.ref C)) cd.mro := (looks_clsIn X hc).andThen .now
  have L3 : Looks (model prog w) s.heap (storeTaker? attr) none := by
    cases attr with
    | none => exact .now
    | some a =>
      obtain ⟨b, hb, e⟩ := Option.map_eq_some_iff.mp hr
      refine (looks_takesIn X hb).andThen ?_
      cases b
      · exact .now
      · cases e
  rw [osa_eq, refuse_eq]
  refine wpAny_bind (wpAny_bind (I.type.here (wpAny_bind (hm.here ?_))))
  rw [refuse_val _ _ ho]
  refine wpAny_pure (wpAny_bind (I.type.here (wpAny_bind ((looks_findIn X ha).here (wpAny_bind (L3.here ?_))))))
  exact h _ cd hc h4
abbrev excObj (C : Addr) (od : Option Addr) (vs : Array Value) : Obj := { cls := .ref C, dict := od, data := .fields vs }
theorem xset0 {vs : Array Value} {Q : Unit → Shared → Prop} (X : K.In s.heap) (hx : s.heap.get? x = some (excObj C none vs))
    (hs : findIn K (.ref C) "__setattr__" = some (some (.builtin "object.__setattr__"))) (hp : excOver K C = true) (ht : takerIn K C name = some none)
    (h : ∀ h' dx, s.heap.get? dx = none → dx ≠ x → (∀ b o, b ≠ x → s.heap.get? b = some o → h'.get? b = some o) → h'.get? x = some (excObj C (some dx) vs) → h'.Ns1 dx (fun y => if y = name then some v else none) → Q () { s with heap := h', toks := s.toks + 2 }) :
    wpAny (model prog w) A (setAttr (.ref x) name v) Q E s := by
  have I : InstAt s.heap x (excObj C none vs) C none := ⟨hx, rfl, rfl, trivial⟩
  refine set_plain X I hs (xosa (s := { s with toks := s.toks + 1 }) X I hp ht fun b cd hc hd' => ?_)
  refine wpAny_bind (wpAny_pure (wpAny_bind ?_))
  show wpAny _ _ (instanceDict x true) _ _ _
  unfold instanceDict
  refine wpAny_bind (wpAny_loadPart hx ?_)
  dsimp only
  refine wpAny_bind (Looks.here (s := { s with toks := s.toks + 1 }) (looks_clsIn X hc) ?_)
  rw [hd', if_neg (by decide), if_neg (by simp [typeHasDict])]
  have hx₁ : (s.heap.push { cls := .type "dict", data := .dict #[] }).get? x = some (excObj C none vs) := Heap.get?_push_of_some _ hx
  have hxs : x ≠ s.heap.objs.size := Nat.ne_of_lt (Heap.lt_size hx)
  refine wpAny_bind (wpAny_alloc' ?_)
  refine wpAny_bind (wpAny_update' hx₁ ?_)
  refine wpAny_pure ?_
  have hgd : ((s.heap.push { cls := .type "dict", data := .dict #[] }).update x fun o => { cls := o.cls, dict := some s.heap.objs.size, data := o.data, slots := o.slots }).get? s.heap.objs.size
      = some { cls := .type "dict", data := .dict #[] } :=
    (Heap.get?_update_ne _ _ _ _ hxs.symm).trans (Heap.get?_push_at rfl rfl)
  have hnd : ((s.heap.push { cls := .type "dict", data := .dict #[] }).update x fun o => { cls := o.cls, dict := some s.heap.objs.size, data := o.data, slots := o.slots }).Ns s.heap.objs.size (fun _ => none) :=
    ⟨_, #[], _, hgd, rfl, fun e he => absurd he (by simp), fun _ => rfl⟩
  show wpAny _ _ (storeInDict s.heap.objs.size (.str name s.toks) name v) _ _ _
  unfold storeInDict newKeyGuard
  refine wpAny_bind (wpAny_pure (wpAny_bind (wpAny_nsSet1 (Heap.Ns1.of_empty hnd) fun h' hn' hs => ?_)))
  obtain ⟨oD, esD, epD, hoD, hdD, hcD⟩ := hn'.count (Within.cons name v Within.nil)
  refine wpAny_bind (wpAny_lookBehind hoD (by rw [hdD]; exact pastItsLine_dict (Nat.le_trans hcD (by rw [List.length_cons, List.length_nil, sizeLine_eq]; omega))) ?_)
  refine wpAny_pure (h h' s.heap.objs.size (Heap.get?_none_of_le (Nat.le_refl _)) hxs.symm (fun b ob hbx hb => ?_) ?_ hn')
  · exact (hs.2 b (Nat.ne_of_lt (Heap.lt_size hb))).trans ((Heap.get?_update_ne _ _ _ _ hbx).trans (Heap.get?_push_of_some _ hb))
  · exact (hs.2 x hxs).trans (Heap.get?_update_self _ hx₁ rfl)
theorem xset1 {vs : Array Value} {dx : Addr} {mA : Str → Option Value} {ns : List Str} {Q : Unit → Shared → Prop} (X : K.In s.heap) (hx : s.heap.get? x = some (excObj C (some dx) vs)) (hne : dx ≠ x) (hns : s.heap.Ns1 dx mA) (hw : Within mA ns) (hsz : ns.length ≤ 1000)
    (hs : findIn K (.ref C) "__setattr__" = some (some (.builtin "object.__setattr__"))) (hp : excOver K C = true) (ht : takerIn K C name = some none)
    (h : ∀ h', (∀ b o, b ≠ dx → s.heap.get? b = some o → h'.get? b = some o) → h'.Ns1 dx (fun y => if y = name then some v else mA y) → Q () { s with heap := h', toks := s.toks + 2 }) :
    wpAny (model prog w) A (setAttr (.ref x) name v) Q E s := by
  obtain ⟨o0, _, _, ho0, _⟩ := id hns
  have I : InstAt s.heap x (excObj C (some dx) vs) C (some o0) := ⟨hx, rfl, rfl, ho0⟩
  refine set_plain X I hs (xosa (s := { s with toks := s.toks + 1 }) X I hp ht fun b cd hc hd' => ?_)
  refine wpAny_bind (wpAny_pure (wpAny_bind ?_))
  show wpAny _ _ (instanceDict x true) _ _ _
  unfold instanceDict
  refine wpAny_bind (wpAny_loadPart hx ?_)
  dsimp only
  refine wpAny_bind (Looks.here (s := { s with toks := s.toks + 1 }) (looks_clsIn X hc) ?_)
  rw [hd', if_neg (by decide)]
  refine wpAny_pure ?_
  show wpAny _ _ (storeInDict dx (.str name s.toks) name v) _ _ _
  unfold storeInDict newKeyGuard
  refine wpAny_bind (wpAny_pure (wpAny_bind (wpAny_nsSet1 (s := { s with toks := s.toks + 1 }) hns fun h' hn' hs => ?_)))
  obtain ⟨oD, esD, epD, hoD, hdD, hcD⟩ := hn'.count (Within.cons name v hw)
  refine wpAny_bind (wpAny_lookBehind hoD (by rw [hdD]; exact pastItsLine_dict (Nat.le_trans hcD (by rw [List.length_cons, sizeLine_eq]; omega))) ?_)
  exact wpAny_pure (h h' (fun b ob hb e => (hs.2 b hb).trans e) hn')
end
end PySem.W
namespace PySem
open Sem (wp)
section
variable {M : Model} {A : Around} {E : Value → Shared → Prop} {env : Env}
variable {nm q : Str} {C N : Addr} {bs bm : List Value} {hdct : Bool} {sn : List Str} {sub : List Value} {ab : Bool} {col : Option Bool} {dd : Option Addr} {k0 k1 k2 k3 k5 : Option Value} {newId : String}
theorem xraiseStmt {s : Shared} {x : Sem Value} {Q : Flow → Shared → Prop} (hbase : bm.contains (.type "BaseException") = true) (hh : A.handled = none)
    (h : wpAny M A x (fun v s₁ => ∃ e od vs, v = .ref e ∧ s₁.heap.get? C = some (excClassObj nm q C N bs bm hdct sn sub ab col dd k0 k1 k2 k3 k5 newId) ∧
      s₁.heap.get? e = some (PySem.W.excObj C od vs) ∧ vs[1]? = some .none ∧ E (.ref e) s₁) E s) :
    wpAny M A (raiseStmt env (some x) none) Q E s := by
  have hcB : (Value.ref C :: bm).contains (.type "BaseException") = true := by rw [List.contains_cons, hbase, Bool.or_true]
  unfold raiseStmt
  refine wpAny_bind (wpAny_mono h (fun v s₁ h₁ => ?_) fun _ _ x => x)
  obtain ⟨e, od, vs, rfl, hC, he, h1, hE⟩ := h₁
  obtain ⟨hp, g, d, tk, os⟩ := s₁
  repeat (first | with_reducible refine wpAny_field he rfl h1 ?_ | with_reducible refine wpAny_loadPart_at he ?_ | with_reducible refine wpAny_loadPart_at hC ?_ | (with_reducible refine wpAny_isSubtype_exc hC ?_; rw [hcB]) | wp_step)
  exact wpAny_raiseNew_none hh hE
end
section
variable {prog : Program} {w : World} {A : Around} {E : Value → Shared → Prop} {s : Shared} {env : Env}
variable {nm q : Str} {C N fI : Addr} {bs bm bmB : List Value} {hdct : Bool} {sn : List Str} {sub : List Value} {ab : Bool} {col : Option Bool} {dd : Option Addr} {k0 k1 k2 k3 k5 : Option Value} {B newId initId : String}
theorem xRaise_call (F : ExcBaseFacts B newId initId bmB) {mN : Str → Option Value} {x : Str} {np cpos pos : Pos} {args : List Expr} {Q : Flow → Shared → Prop}
    (hbase : bm.contains (.type "BaseException") = true) (hh : A.handled = none) (hplain : (backTo cpos (starEach args env)).any (·.1) = false) (hi : mN "__init__" = some (.ref fI))
    (h : wpAny (model prog w) A (eval (.Name x np) env) (fun f s₁ => f = .ref C ∧ wpAny (model prog w) A (evalArgs (.ref C) true (backTo cpos (starEach args env)) [])
      (fun a s₂ => a.kw = [] ∧ a.pos.length ≤ sizeLine ∧ s₂.heap.get? C = some (excClassObj nm q C N bs bm hdct sn sub ab col dd k0 k1 k2 k3 k5 newId) ∧ s₂.heap.Ns N mN ∧ OwnTail s₂.heap bmB bm ∧ (∃ oI, s₂.heap.get? fI = some oI ∧ oI.cls = .type "function") ∧
        ∀ h' e, Heap.MadeExcOf s₂.heap h' e (.ref C) a.pos → wpAny (model prog w) (A.under (.builtin "type.__call__" ⟨.ref C :: a.pos, []⟩)) (call (.ref fI) (.ref e :: a.pos))
          (fun r s' => r = .none ∧ s'.heap.get? C = some (excClassObj nm q C N bs bm hdct sn sub ab col dd k0 k1 k2 k3 k5 newId) ∧ ∃ od vs, s'.heap.get? e = some (PySem.W.excObj C od vs) ∧ vs[1]? = some .none ∧ E (.ref e) s') E { s₂ with heap := h' }) E s₁) E s) :
    wpAny (model prog w) A (exec (.Raise (some (.Call (.Name x np) args [] cpos)) none pos) env) Q E s := by
  rw [arm_exec_Raise]
  first
    | refine wpAny_bind (wpAny_standAt (xraiseStmt (C := C) (nm := nm) (q := q) (N := N) (bs := bs) (bm := bm) (hdct := hdct) (sn := sn) (sub := sub) (ab := ab) (col := col) (dd := dd) (k0 := k0) (k1 := k1) (k2 := k2) (k3 := k3) (k5 := k5) (newId := newId) hbase hh (wpAny_bind (wpAny_mono (wpAny_Call_ofName (wpAny_mono h (fun f s₁ h₁ => ?_) fun _ _ x => x)) (fun v s₃ h₃ => wpAny_bind (wpAny_standAt (wpAny_pure h₃))) fun _ _ x => x))))
    | (simp only [evalOpt, Option.map]; refine wpAny_bind (wpAny_standAt (xraiseStmt (C := C) (nm := nm) (q := q) (N := N) (bs := bs) (bm := bm) (hdct := hdct) (sn := sn) (sub := sub) (ab := ab) (col := col) (dd := dd) (k0 := k0) (k1 := k1) (k2 := k2) (k3 := k3) (k5 := k5) (newId := newId) hbase hh (wpAny_bind (wpAny_mono (wpAny_Call_ofName (wpAny_mono h (fun f s₁ h₁ => ?_) fun _ _ x => x)) (fun v s₃ h₃ => wpAny_bind (wpAny_standAt (wpAny_pure h₃))) fun _ _ x => x)))))
    | (refine wpAny_bind (wpAny_standAt (xraiseStmt (C := C) (nm := nm) (q := q) (N := N) (bs := bs) (bm := bm) (hdct := hdct) (sn := sn) (sub := sub) (ab := ab) (col := col) (dd := dd) (k0 := k0) (k1 := k1) (k2 := k2) (k3 := k3) (k5 := k5) (newId := newId) hbase hh ?_)); refine wpAny_bind (wpAny_mono (wpAny_Call_ofName (wpAny_mono h (fun f s₁ h₁ => ?_) fun _ _ x => x)) (fun v s₃ h₃ => wpAny_bind (wpAny_standAt (wpAny_pure h₃))) fun _ _ x => x))
  obtain ⟨rfl, h₁⟩ := h₁
  unfold callWith
  refine wpAny_bind (wpAny_holding (wpAny_mono h₁ (fun a s₂ h₂ => wpAny_bind (wpAny_standAt ?_)) fun _ _ x => x))
  obtain ⟨apos, akw⟩ := a
  obtain ⟨hkw, hlen, hC, hn, T, ⟨oI, hfI, hfc⟩, h₂⟩ := h₂
  obtain rfl : akw = [] := hkw
  obtain ⟨hp, g, d, tk, os⟩ := s₂
  simp only [hplain]
  refine wpAny_bind (wpAny_keeperOf_exc hC ?_)
  refine wpAny_bind (xcall_init (hrest := hlen) F T hC hn hi hfI hfc fun h' e hm => wpAny_mono (h₂ h' e hm) (fun r s' hr => ?_) fun _ _ x => x)
  obtain ⟨rfl, hC', od, vs, he, h1, hE⟩ := hr
  exact ⟨rfl, wpAny_bind (wpAny_holding (wpAny_point (wpAny_pure ⟨e, od, vs, rfl, hC', he, h1, hE⟩)))⟩
end
end PySem
namespace L2
open PySem PySem.Spec PyProof.Rows
def xO (a C : Addr) (od : Option Addr) : HO := .ext fun h => ∃ ob vs, h.get? a = some ob ∧ ob.cls = .ref C ∧ ob.dict = od ∧ ob.data = .fields vs
def xN (a C : Addr) (od : Option Addr) : HO := .ext fun h => ∃ (vs : Array Value) (t0 : Addr), h.get? a = some (PySem.W.excObj C od vs) ∧ vs[0]? = some (.ref t0) ∧ vs[1]? = some .none ∧ vs[2]? = some .none
section
variable {P : Program} {w : World} {H : Hp} {h : Heap} {a C : Addr} {od : Option Addr}
theorem xO_ok {ob : Obj} {vs : Array Value} (e : h.get? a = some ob) (h1 : ob.cls = .ref C) (h2 : ob.dict = od) (h3 : ob.data = .fields vs) : ObjOk P w H h a (xO a C od) :=
  ⟨⟨ob, vs, e, h1, h2, h3⟩, ⟨_, e⟩, fun g1 g2 ⟨ob, vs, e, h1, h2, h3⟩ k => ⟨ob, vs, k _ e, h1, h2, h3⟩⟩
theorem xN_ok {vs : Array Value} {t0 : Addr} (e : h.get? a = some (PySem.W.excObj C od vs)) (h0 : vs[0]? = some (.ref t0)) (h1 : vs[1]? = some .none) (h2 : vs[2]? = some .none) : ObjOk P w H h a (xN a C od) :=
  ⟨⟨vs, t0, e, h0, h1, h2⟩, ⟨_, e⟩, fun g1 g2 ⟨vs, t0, e, h0, h1, h2⟩ k => ⟨vs, t0, k _ e, h0, h1, h2⟩⟩
theorem xO_is (x : HOk P w H h) (e : H a = some (xO a C od)) : ∃ ob vs, h.get? a = some ob ∧ ob.cls = .ref C ∧ ob.dict = od ∧ ob.data = .fields vs := (x a _ e).1
theorem xN_is (x : HOk P w H h) (e : H a = some (xN a C od)) : ∃ (vs : Array Value) (t0 : Addr), h.get? a = some (PySem.W.excObj C od vs) ∧ vs[0]? = some (.ref t0) ∧ vs[1]? = some .none ∧ vs[2]? = some .none := (x a _ e).1
theorem HOk.non {P : Program} {w : World} {H : Hp} {h : Heap} {a : Addr} (x : HOk P w H h) (e : h.get? a = none) : H a = none := by
  cases q : H a with
  | none => rfl
  | some u =>
    obtain ⟨ob, z⟩ := ObjOk.here (x a u q)
    rw [e] at z; cases z
end
def drp (x : Addr) (H : Hp) : Hp := fun b => if b = x then none else H b
theorem drp_same {x : Addr} {H : Hp} : drp x H x = none := by unfold drp; rw [if_pos rfl]
theorem drp_ne {x b : Addr} {H : Hp} (h : b ≠ x) : drp x H b = H b := by unfold drp; rw [if_neg h]
section
variable {X : Cx} {pins : List (Addr × Obj)} {σ : St} {H : Hp} {s : Shared} {a x dx : Addr} {o : HO} {h' : Heap}
theorem Inv.track (I : Inv X pins σ H s) (hn : H a = none) (h0 : X.s₀.heap.get? a = none) (hl : X.env.locals ≠ a) (hc : ∀ z c, X.env.cells.lookup z = some c → c ≠ a) (hp : ∀ p ∈ X.pn ++ pins, p.1 ≠ a) (new : ObjOk X.prog X.w (upd H a o) s.heap a o) : Inv X pins σ (upd H a o) s := by
  refine ⟨I.ok, I.os, I.bare, ⟨I.base.keep, I.base.slot, fun b u q n hx => ?_, I.base.there, fun b xs q => ?_, fun b u xs q => ?_, fun b ps q => ?_⟩, I.loc, I.cell, ?_, fun z c q => ?_, fun p q => ?_, fun b u e => ?_, I.len⟩
  · rw [upd_ne (fun z => by rw [z, h0] at q; cases q)]; exact I.base.free b u q n hx
  · have := I.base.tups b xs q
    rw [upd_ne (ne_of_none this hn)]; exact this
  · have := I.base.frzs b u xs q
    rw [upd_ne (ne_of_none this hn)]; exact this
  · obtain ⟨m, e⟩ := I.base.tbls b ps q
    exact ⟨m, by rw [upd_ne (ne_of_none e hn)]; exact e⟩
  · rw [upd_ne hl]; exact I.free
  · rw [upd_ne (hc z c q)]; exact I.freeC z c q
  · obtain ⟨e, n, r⟩ := I.pin p q
    exact ⟨e, by rw [upd_ne (hp p q)]; exact n, r⟩
  · by_cases hb : b = a
    · subst hb; rw [upd_same] at e; cases e; exact new
    · rw [upd_ne hb] at e
      exact (I.hok b u e).stay (fun c v _ q => q) (fun c q => by rw [upd_ne (ne_of_none q hn)]; exact q) fun c xs q => by rw [upd_ne (ne_of_none q hn)]; exact q
theorem Inv.trackN {s1 : Shared} {H1 : Hp} {σ1 : St} (I1 : Inv X pins σ1 H1 s1) (hex : X.ex = []) (hg : s1.heap.get? a = none) (I : Inv X pins σ H s) (hn : H a = none) (new : ObjOk X.prog X.w (upd H a o) s.heap a o) : Inv X pins σ (upd H a o) s := by
  have no : ∀ b u, s1.heap.get? b = some u → b ≠ a := fun b u q z => by rw [z, hg] at q; cases q
  refine I.track hn ?_ ?_ (fun z c q => ?_) (fun p q => ?_) new
  · cases q : X.s₀.heap.get? a with
    | none => rfl
    | some u =>
      obtain ⟨u', e1⟩ := I1.base.there a u q (by rw [hex]; simp)
      rw [hg] at e1; cases e1
  · obtain ⟨m, ⟨ob, _, _, e, _⟩, _⟩ := I1.loc
    exact no _ _ e
  · obtain ⟨v, ob, e, _⟩ := I1.cell z c q
    exact no _ _ e
  · exact no _ _ (I1.pin p q).1
theorem Inv.drop {φ : Heap → Prop} (I : Inv X pins σ H s) (e : H x = some (.ext φ)) : Inv X pins σ (drp x H) s := by
  have nx : ∀ b u, H b = some u → (∀ ψ, u ≠ .ext ψ) → b ≠ x := fun b u q nu z => by rw [z, e] at q; cases q; exact nu _ rfl
  refine ⟨I.ok, I.os, I.bare, ⟨I.base.keep, I.base.slot, fun b u q n hx => ?_, I.base.there, fun b xs q => ?_, fun b u xs q => ?_, fun b ps q => ?_⟩, I.loc, I.cell, ?_, fun z c q => ?_, fun p q => ?_, fun b u q => ?_, I.len⟩
  · by_cases hb : b = x
    · rw [hb, drp_same]
    · rw [drp_ne hb]; exact I.base.free b u q n hx
  · have := I.base.tups b xs q
    rw [drp_ne (nx b _ this fun _ z => nomatch z)]; exact this
  · have := I.base.frzs b u xs q
    rw [drp_ne (nx b _ this fun _ z => nomatch z)]; exact this
  · obtain ⟨m, z⟩ := I.base.tbls b ps q
    exact ⟨m, by rw [drp_ne (nx b _ z fun _ y => nomatch y)]; exact z⟩
  · rw [drp_ne fun z => by have := I.free; rw [z, e] at this; cases this]; exact I.free
  · have := I.freeC z c q
    rw [drp_ne fun y => by rw [y, e] at this; cases this]; exact this
  · obtain ⟨e1, n, r⟩ := I.pin p q
    exact ⟨e1, by rw [drp_ne fun y => by rw [y, e] at n; cases n]; exact n, r⟩
  · by_cases hb : b = x
    · rw [hb, drp_same] at q; cases q
    · rw [drp_ne hb] at q
      exact (I.hok b u q).stay (fun c v _ z => z) (fun c z => by rw [drp_ne (nx c _ z fun _ y => nomatch y)]; exact z) fun c xs z => by rw [drp_ne (nx c _ z fun _ y => nomatch y)]; exact z
end
end L2
namespace L2
open PySem PySem.Spec PyProof.Rows
def excInI (K : PySem.W.Frag) (C : Addr) (bmB : List Value) (newId : String) (fI : Addr) : Bool :=
  match List.lookup C K with
  | some { cls := Value.type "type", dict := _, data := Data.cls cd, slots := sl } =>
    match cd.mro, sl.toList with
    | Value.ref C' :: bm, [_, _, _, _, some (Value.builtin n), _] =>
      C' == C && n == newId && !cd.hasDel && PySem.W.tailIn K bmB bm && PySem.W.nsOkIn K cd.ns &&
        PySem.W.nsIn K cd.ns "__init__" == some (some (.ref fI))
    | _, _ => false
  | _ => false
theorem ns_some_of {K : PySem.W.Frag} {h : Heap} {N : Addr} {mg : Str → Option Value} {n : Str} {v : Value} (X : K.In h) (G : h.Ns N mg) (e : PySem.W.nsIn K N n = some (some v)) : mg n = some v := by
  obtain ⟨o, es, ep, ho, hd, _, hf⟩ := G
  unfold PySem.W.nsIn at e
  split at e
  · rename_i c d es' n' sl q
    have := X _ _ q
    rw [ho] at this
    cases this
    cases hd
    split at e
    · rename_i he
      cases e
      rw [← hf]
      unfold nsFind findBy
      rw [← Array.find?_toList, he]
      rfl
    · split at e <;> cases e
  · cases e
structure ExcClsI (K : PySem.W.Frag) (C : Addr) (bmB : List Value) (newId : String) (fI : Addr) : Prop where
  ok : excInI K C bmB newId fI = true
  fn : PySem.W.isFn K (.ref fI) = true
  sa : PySem.W.findIn K (.ref C) "__setattr__" = some (some (.builtin "object.__setattr__"))
  over : PySem.W.excOver K C = true
theorem ExcClsI.obj {K : PySem.W.Frag} {C fI : Addr} {bmB : List Value} {newId : String} {h0 : Heap} (c : ExcClsI K C bmB newId fI) (X0 : K.In h0) :
    ∃ bm N nm q bs hdct sn sub ab col dd k0 k1 k2 k3 k5 mN, mN ("__init__" : Str) = some (.ref fI) ∧
      ∀ h : Heap, K.In h → h.get? C = some (excClassObj nm q C N bs bm hdct sn sub ab col dd k0 k1 k2 k3 k5 newId) ∧ h.Ns N mN ∧ OwnTail h bmB bm := by
  have q := c.ok
  unfold excInI at q
  split at q
  · rename_i dd cd sl ho
    split at q
    · rename_i C' bm k0 k1 k2 k3 n k5 hm hs
      rw [Bool.and_eq_true, Bool.and_eq_true, Bool.and_eq_true, Bool.and_eq_true, Bool.and_eq_true] at q
      obtain ⟨⟨⟨⟨⟨q1, q2⟩, q3⟩, q4⟩, q5⟩, q6⟩ := q
      cases beq_iff_eq.mp q1
      cases beq_iff_eq.mp q2
      have q3 : cd.hasDel = false := by simpa using q3
      have hsl : sl = #[k0, k1, k2, k3, some (.builtin newId), k5] := by
        cases sl with | mk l => exact congrArg Array.mk hs
      obtain ⟨c1, c2, c3, c4, c5, c6, c7, c8, c9, c10, c11⟩ := cd
      cases (show c3 = _ from hm)
      cases (show c11 = _ from q3)
      subst hsl
      refine ⟨bm, c4, c1, c5, c2, c6, c7, c8, c9, c10, dd, k0, k1, k2, k3, k5, h0.nsMap c4, ns_some_of X0 (.of_isNs (PySem.W.isNs_of_in X0 q5)) (beq_iff_eq.mp q6), fun h X => ⟨X _ _ ho, ?_, PySem.W.tail_of_in X q4⟩⟩
      exact ns_same q5 X0 X (.of_isNs (PySem.W.isNs_of_in X0 q5))
    · cases q
  · cases q
structure InitOf (K : PySem.W.Frag) (D : Addr) (initId : String) : Prop where
  sp : PySem.W.specialIn K (.ref D) "__getattribute__" = some (some (.builtin "type.__getattribute__"))
  rd : PySem.W.readsIn K D (.type "type") = true
  fd : PySem.W.findCls K (.ref D) (.type "type") "__init__" = some (.val (.builtin initId))
  hi : PySem.W.handedIn (.builtin initId) = true
def tBI (C : Addr) (t : TA) : TE := fun σ H Q => t σ H fun vs H1 => ∃ x y od, vs = [.ref x, y] ∧ H1 x = some (xN x C od) ∧ Q .non H1
section
variable {X : Cx} {C D fI : Addr} {t : TA} {te ta : TE} {Bn newId initId : String} {bmB : List Value} {dn : Str} {p apos pos pos' : Pos} {e1 e2 o value : Expr} {f : Str}
theorem pe_binit {pl : Sem Bool} (F : ExcBaseFacts Bn newId initId bmB) (c : ExcClsI X.K C bmB newId fI) (d : InitOf X.K D initId) (hg : Gl X dn) (hm : X.mg dn = some (.ref D)) (ha : PA X [e1, e2] t) (hdb : (dn == ("__debug__" : Str)) = false := by decide)
    (hst : starEach [e1, e2] X.env = (false, eval e1 X.env) :: starEach [e2] X.env := by rfl) (hpl : (backTo pos (starEach [e2] X.env)).any (·.1) = false := by rfl)
    (ht : eval (.Call (.Attribute (.Name dn p) "__init__" apos) [e1, e2] [] pos) X.env = (do
      let ov ← eval (.Name dn p) X.env
      standAt apos.atName
      let (f, first) ← holding [ov] (getMethod ov "__init__" pl)
      callWith pos f first (backTo pos (starEach [e1, e2] X.env)) (backToKw pos (keywordEach [] X.env))) := by rfl) :
    PE X (.Call (.Attribute (.Name dn p) "__init__" apos) [e1, e2] [] pos) (tBI C t) := by
  intro pins s σ H Q I h
  refine PySem.W.methodCall_KW (pl := pl) (ld_glob I hg hm ?_ hdb) ht
  refine PySem.W.method_cls I.kIn d.sp (PySem.W.cls_value I.kIn d.rd d.fd d.hi ?_)
  have I0 := I.tok (s.toks + 1)
  have h2 := ha pos pins _ σ H _ I0 h
  show wpAny _ _ (callWith pos (.builtin initId) [] (backTo pos (starEach [e1, e2] X.env)) []) _ _ _
  rw [hst] at h2 ⊢
  refine Calls.callWith_builtin (by show (false || (backTo pos (starEach [e2] X.env)).any (·.1)) = false; rw [hpl] <;> rfl) (Calls.evalArgs_plain ?_)
  refine thn h2 fun us s2 ⟨vs, H2, I2, r2, x, y, od, ev, hx, q⟩ => ?_
  subst ev
  obtain ⟨u1, u2, rfl, ru1, ru2⟩ := r2.two
  cases ru1
  obtain ⟨bm, N, nm, q', bs, hdct, sn, sub, ab, col, dd, k0, k1, k2, k3, k5, mN, hni, hob⟩ := c.obj I2.kIn
  obtain ⟨g1, g2, g3⟩ := hob _ I2.kIn
  obtain ⟨ws, t0, hx2, w0, w1, w2⟩ := xN_is I2.hok hx
  obtain ⟨hp, gg, dr, tk, os⟩ := s2
  refine xbase_init (rest := [u2]) F g3 g1 hx2 rfl rfl w0 (fun h' hk he => ?_) (by show 1 ≤ sizeLine; decide)
  have I3 : Inv X pins σ (upd H2 x (xN x C od)) { (⟨hp, gg, dr, tk, os⟩ : Shared) with heap := h', toks := tk } := by
    refine I2.write (x := x) (e := x) (by rw [hx]; exact trivial) (.inl rfl) hk ⟨_, he⟩ ?_
    have he' : h'.get? x = some (PySem.W.excObj C od (ws.setIfInBounds 0 (.ref hp.objs.size))) := he
    have hz : 0 < ws.size := (Array.getElem?_eq_some_iff.mp w0).1
    exact xN_ok he' (t0 := hp.objs.size) (by simp [hz]) (by rw [Array.getElem?_setIfInBounds_ne (by decide)]; exact w1) (by rw [Array.getElem?_setIfInBounds_ne (by decide)]; exact w2)
  have eH : upd H2 x (xN x C od) = H2 := by
    funext b
    by_cases hb : b = x
    · rw [hb, upd_same, hx]
    · rw [upd_ne hb]
  rw [eH] at I3
  exact ⟨.non, H2, I3, rfl, q⟩
theorem Inv.writeX {pins : List (Addr × Obj)} {σ : St} {H : Hp} {s : Shared} {dx : Addr} {fs gs : List (Str × V)} {h' : Heap} {t' : Nat} (I : Inv X pins σ H s) (e : H dx = some (.xd fs)) (k : ∀ b u, b ≠ dx → s.heap.get? b = some u → h'.get? b = some u) (heo : ∃ u, h'.get? dx = some u)
    (new : ObjOk X.prog X.w (upd H dx (.xd gs)) h' dx (.xd gs)) : Inv X pins σ (upd H dx (.xd gs)) { s with heap := h', toks := t' } := by
  have nd : ∀ b, H b = none → b ≠ dx := fun b n z => by rw [z, e] at n; cases n
  have nx : ∀ b u, H b = some u → (∀ l, u ≠ .xd l) → b ≠ dx := fun b u q nu z => by rw [z, e] at q; cases q; exact nu _ rfl
  refine I.un ⟨fun b u q n _ _ => k b u (nd b n) q, fun b u q n _ _ => ⟨u.slots, k b u (nd b n) q⟩, fun b u q n _ => by rw [upd_ne (nd b n)]; exact n, fun b u q _ => ?_,
    fun b xs q => by rw [upd_ne (nx b _ q fun _ z => nomatch z)]; exact q, fun b u xs q => by rw [upd_ne (nx b _ q fun _ z => nomatch z)]; exact q, fun b ps q => ⟨#[], by rw [upd_ne (nx b _ q fun _ z => nomatch z), q]; simp⟩⟩ fun b u q => ?_
  · by_cases hb : b = dx
    · rw [hb]; exact heo
    · exact ⟨u, k b u hb q⟩
  · by_cases hb : b = dx
    · subst hb; rw [upd_same] at q; cases q; exact new
    · rw [upd_ne hb] at q
      refine (I.hok b u q).stay (fun c v hc z => k c v ?_ z) (fun c z => by rw [upd_ne (nx c _ z fun _ y => nomatch y)]; exact z) fun c xs z => by rw [upd_ne (nx c _ z fun _ y => nomatch y)]; exact z
      rcases hc with hc | hc
      · rw [hc]; exact hb
      · exact nx c _ hc fun _ y => nomatch y
structure NoTak (K : PySem.W.Frag) (C : Addr) (f : Str) : Prop where
  at_ : PySem.W.takerIn K C f = some none
def sXF (C : Addr) (f : Str) (to tv : TE) : TS := fun D σ H => tv σ H fun y H1 => to σ H1 fun u H2 => ∃ x, u = .ref x ∧
  ((H2 x = some (xN x C none) ∧ ∀ dx, H2 dx = none → dx ≠ x → D.nx σ (upd (upd H2 x (xN x C (some dx))) dx (.xd [(f, y)]))) ∨
   (∃ dx fs, H2 x = some (xN x C (some dx)) ∧ dx ≠ x ∧ H2 dx = some (.xd fs) ∧ fs.length < 1000 ∧ D.nx σ (upd H2 dx (.xd (putF f y fs)))))
theorem ps_xfld (hex : X.ex = []) (c : ExcClsI X.K C bmB newId fI) (n : NoTak X.K C f) (ho : PE X o ta) (hv : PE X value te) (hs : swapsWith value (some (.Attribute o f pos')) pos.line X.env = pure false := by rfl) : PS X (.Assign [.Attribute o f pos'] value pos) (sXF C f ta te) := by
  intro pins s σ H D I h
  refine plainObj_wpAny_Assign_Attribute (thn (hv pins s σ H _ I h) fun u s1 ⟨y, H1, I1, ry, q⟩ => thn (ho pins s1 σ H1 _ I1 q) fun ov s2 ⟨xv, H2, I2, rx, x, ex, q2⟩ => ?_) hs
  subst ex
  obtain rfl : ov = Value.ref x := rx
  rcases q2 with ⟨hx, q2⟩ | ⟨dx, fs, hx, hne, hdx, hlen, q2⟩
  · obtain ⟨ws, t0, hx2, w0, w1, w2⟩ := xN_is I2.hok hx
    refine PySem.W.xset0 I2.kIn hx2 c.sa c.over n.at_ fun h' dx hn hne hk he hns => ?_
    have hHdx : H2 dx = none := I2.hok.non hn
    have I3 : Inv X pins σ (upd H2 x (xN x C (some dx))) { s2 with heap := h', toks := s2.toks + 2 } := I2.write (x := x) (e := x) (by rw [hx]; exact trivial) (.inl rfl) hk ⟨_, he⟩ (xN_ok he w0 w1 w2)
    have hn3 : upd H2 x (xN x C (some dx)) dx = none := by rw [upd_ne hne]; exact hHdx
    refine ⟨σ, _, I2.trackN (o := .xd [(f, y)]) hex hn I3 hn3 (show ∃ mA, h'.Ns1 dx mA ∧ ∀ g, RelO (List.lookup g [(f, y)]) (mA g) from ⟨_, hns, fun g => ?_⟩), q2 dx hHdx hne⟩
    show RelO (List.lookup g [(f, y)]) (if g = f then some u else none)
    by_cases hg : g = f
    · subst hg
      rw [if_pos rfl]
      have : List.lookup g [(g, y)] = some y := by rw [List.lookup_cons, beq_self_eq_true]
      rw [this]; exact ry
    · rw [if_neg hg]
      have : List.lookup g [(f, y)] = none := by
        rw [List.lookup_cons, show (g == f) = false by simpa using hg]; rfl
      rw [this]; trivial
  · obtain ⟨ws, t0, hx2, w0, w1, w2⟩ := xN_is I2.hok hx
    obtain ⟨mA, hns, hr⟩ := (show ObjOk X.prog X.w H2 s2.heap dx (.xd fs) from I2.hok dx _ hdx)
    have hw : PySem.Within mA (fs.map (·.1)) := fun g hg => by
      have := hr g
      cases hl : fs.lookup g with
      | none => rw [hl] at this; cases hm : mA g with
        | none => exact absurd hm hg
        | some z => rw [hm] at this; exact this.elim
      | some v =>
        have := PySem.mem_of_lookup hl
        exact List.mem_map.mpr ⟨_, this, rfl⟩
    refine PySem.W.xset1 I2.kIn hx2 hne hns hw (by rw [List.length_map]; omega) c.sa c.over n.at_ fun h' hk hns' => ?_
    refine ⟨σ, _, I2.writeX hdx hk (let ⟨ob, _, _, e, _⟩ := hns'; ⟨ob, e⟩) (show ∃ mA, h'.Ns1 dx mA ∧ ∀ g, RelO ((putF f y fs).lookup g) (mA g) from ⟨_, hns', fun g => ?_⟩), q2⟩
    show RelO ((putF f y fs).lookup g) (if g = f then some u else mA g)
    rw [lookup_putF]
    by_cases q : g = f
    · rw [if_pos q, if_pos q]; exact ry
    · rw [if_neg q, if_neg q]; exact hr g
end
end L2
namespace L2
open PySem PySem.Spec PyProof.Rows
def tRaiseI (C : Addr) (sp : Sp) (R : St → XK) (t : TA) : TS := fun _ σ H => t σ H fun vs H1 => vs.length ≤ sizeLine ∧ ∀ x, H1 x = none →
  sp (.ref x :: vs) (upd H1 x (xN x C none)) (fun v H2 => v = .non ∧ ∃ od, H2 x = some (xN x C od) ∧ R σ (.ref C) od (drp x H2)) E0
section
variable {X : Cx} {C fI : Addr} {R : St → XK} {t : TA} {Bn newId initId : String} {bmB : List Value} {x : Str} {np cpos pos : Pos} {e : Expr} {es : List Expr} {k : Nat} {fd : FuncData} {ps : List Str} {sp : Sp}
theorem ps_raiseI (hR : Raises X R) (hc : X.calm = true) (hex : X.ex = []) (F : ExcBaseFacts Bn newId initId bmB) (c : ExcClsI X.K C bmB newId fI) (G : FnOk X.prog X.w X.K X.mg X.base (CX1 X.prog X.w) k fI fd ps sp) (hr : Room (k + 1) X.A) (hb : Binds X.K fd ps []) (hg : Gl X x) (hm : X.mg x = some (.ref C)) (ha : PA X (e :: es) t)
    (hdb : (x == ("__debug__" : Str)) = false := by decide) (he : starEach (e :: es) X.env = (false, eval e X.env) :: starEach es X.env := by rfl) (hpl : (backTo cpos (starEach es X.env)).any (·.1) = false := by rfl) :
    PS X (.Raise (some (.Call (.Name x np) (e :: es) [] cpos)) none pos) (tRaiseI C sp R t) := by
  intro pins s σ H D I h
  obtain ⟨bm, N, nm, q, bs, hdct, sn, sub, ab, col, dd, k0, k1, k2, k3, k5, mN, hni, hob⟩ := c.obj I.kIn
  refine xRaise_call (nm := nm) (q := q) (C := C) (N := N) (bs := bs) (bm := bm) (hdct := hdct) (sn := sn) (sub := sub) (ab := ab) (col := col) (dd := dd) (k0 := k0) (k1 := k1) (k2 := k2) (k3 := k3) (k5 := k5) F ((hob _ I.kIn).2.2.hasType F.hasBase) (I.ok.hd hc) (by rw [he]; show (false || (backTo cpos (starEach es X.env)).any (·.1)) = false; rw [hpl]; rfl) hni (ld_glob I hg hm ⟨rfl, ?_⟩ hdb)
  have h2 := ha cpos pins s σ H _ I h
  rw [he] at h2 ⊢
  refine Calls.evalArgs_plain (wpAny_mono h2 (fun us s2 z => ?_) fun _ _ y => y)
  obtain ⟨vs, H1, I1, r, hz, hq⟩ := z
  obtain ⟨g1, g2, g3⟩ := hob _ I1.kIn
  have hfn : ∃ oI, s2.heap.get? fI = some oI ∧ oI.cls = .type "function" := by
    have q : PySem.W.typeIn X.K (.ref fI) = some (.type "function") := beq_iff_eq.mp c.fn
    unfold PySem.W.typeIn at q
    dsimp only at q
    obtain ⟨ob, ho, hcl⟩ := Option.map_eq_some_iff.mp q
    exact ⟨ob, I1.kIn _ _ ho, hcl⟩
  refine ⟨rfl, by rw [← r.length]; exact hz, g1, g2, g3, hfn, fun h' e M => ?_⟩
  obtain ⟨t0, hx, _, _⟩ := M.there
  have hHe : H1 e = none := I1.hok.non M.new
  have I2 : Inv X pins σ (upd H1 e (xN e C none)) { s2 with heap := h' } := I1.trackN (o := xN e C none) hex M.new (I1.kept (t' := s2.toks) M.keeps) hHe (xN_ok hx rfl rfl rfl)
  have hsp := hq e hHe
  have r2 : Vals (V.ref e :: vs) (Value.ref e :: us) := .cons rfl r
  have hl : (Value.ref e :: us).length = ps.length := by rw [← r2.length]; exact G.len _ _ _ _ hsp
  refine wpAny_call (codeAny_mono (G.run _ X.stack _ _ ⟨Value.ref e :: us, []⟩ (Value.ref e :: us) _ _ E0 (hr.make C us []) (I2.env0.make C us []) (by have := hb _ (Value.ref e :: us) I2.kIn (by rw [List.append_nil]; exact hl); rwa [List.append_nil] at this) r2 hsp) fun rr s' hq' => ?_)
  cases rr with
  | error er => exact (passesN (X := X) pins σ _ _ er s' I2 hq' : X.xe er s')
  | ok fl =>
    cases fl with
    | ret u =>
      obtain ⟨v, H', I3, rv, ev, od, hxN, hRq⟩ := I2.after hq'
      subst ev
      obtain ⟨ws, t1, hx3, w0, w1, w2⟩ := xN_is I3.hok hxN
      refine ⟨rv, (hob _ I3.kIn).1, od, ws, hx3, w1, ?_⟩
      refine hR pins σ (drp e H') s' e (PySem.W.excObj C od ws) ws (I3.drop hxN) hx3 w1 w2 ?_ drp_same hRq
      cases q0 : X.s₀.heap.get? e with
      | none => rfl
      | some u0 =>
        obtain ⟨u', e1⟩ := I1.base.there e u0 q0 (by rw [hex]; simp)
        rw [M.new] at e1; cases e1
    | next => exact False.elim hq'
    | brk => exact False.elim hq'
    | cont => exact False.elim hq'
end
theorem Fly.fresh {X : Cx} {H H1 : Hp} {s : Shared} {h1 B : Heap} {x : Addr} {o : Obj} (F : Fly X.prog X.w X.stack H H1 s.heap h1 B x o) : s.heap.get? x = none := by
  cases q : s.heap.get? x with
  | none => rfl
  | some u =>
    by_cases hb : x ∈ frs X.stack
    · obtain ⟨vs, _, _, _, hxx, _⟩ := F.fly.2.2.2
      obtain ⟨_, o', ho', hd⟩ := F.fly.2.2.1.mem hb
      rw [hxx] at ho'; cases ho'
      exact absurd rfl (hd _)
    · obtain ⟨u2, e2⟩ := F.thB x u q hb
      rw [F.fly.2.1] at e2; cases e2
def goesK (i : Nat) (x C : Addr) (od : Option Addr) (D : Ends) : Ends := ⟨fun σ H => H x = none → D.nx (σ.set i none) (upd H x (xO x C od)), fun _ _ => False, fun _ _ => False, fun _ _ => False⟩
def tTryK (K : PySem.W.Frag) (D : Addr) (i : Nat) (tb : (St → XK) → TS) (ts : Addr → TS) : TS := fun Dn σ H => ∃ R : St → XK, tb R Dn σ H ∧
  ∀ σ' cls od H', R σ' cls od H' → ∃ C, cls = .ref C ∧ PySem.W.subIn K (.ref C) (.ref D) = some true ∧ ∀ x, H' x = none → ts x (goesK i x C od Dn) (σ'.set i (some (.ref x))) H'
section
variable {X : Cx} {body : List Stmt} {D : Addr} {dn n : Str} {i : Nat} {b₀ : Stmt} {suite : List Stmt} {pos hpos np : Pos} {tb : (St → XK) → TS} {ts : Addr → TS} {bmB' : List Value} {newId' : String}
theorem ps_tryK (hN : X.N.Nodup) (hi : X.N[i]? = some n) (hk : X.env.scope.names.lookup n = some .local) (hc : X.calm = true) (hex : X.ex = []) (hst : X.stack = X.env :: X.outer) (hf : X.env.frame = some X.env.locals) (d : ExcCls X.K D bmB' newId') (hbe : bmB'.contains (.type "BaseException") = true) (hg : Gl X dn) (hm : X.mg dn = some (.ref D))
    (hb : ∀ (R : St → XK) (pins : List (Addr × Obj)), PSs (Cx.tryC X R pins) body (tb R))
    (hs : ∀ (x : Addr) (pn : List (Addr × Obj)), PSs (Cx.suite X x pn) (b₀ :: suite) (ts x)) (hdb : (dn == ("__debug__" : Str)) = false := by decide) :
    PS X (.Try body [.ExceptHandler (some (.Name dn np)) (some n) (b₀ :: suite) hpos] [] [] pos) (tTryK X.K D i tb ts) := by
  intro pins s σ H Dn I h
  obtain ⟨R, h1, h2⟩ := h
  refine wpAny_Try_except (wpAny_mono (hb R pins [] s σ H Dn (Inv.pnsC I _) h1) (fun fl s1 z => ?_) fun e s1 z => ?_)
  · have z' : SP X pins Dn fl s1 := SP.unpnsC z
    cases fl with
    | next => exact wpAny_execs_nil z'
    | brk => exact z'
    | cont => exact z'
    | ret u => exact z'
  · obtain ⟨pins', σ', H1, s0, I0, hx⟩ := z
    obtain ⟨x, o, H', B, rfl, os, bare, F, hE⟩ := hx
    have I0 : Inv X pins σ' H1 s0 := Inv.unpnsC (E := X.xe) I0
    obtain ⟨C, ec, hu, hts⟩ := h2 σ' _ _ H' hE
    have hfr : X.A.frames = some (X.env :: X.outer) := by rw [← hst]; exact I0.ok.frames
    have hx0 : s0.heap.get? x = none := F.fresh
    refine fl_on (B := B) hfr hf (by rw [← hst]; exact F.fly) fun h4 f4 u4 => ?_
    refine fl_land f4 fun h5 f5 u5 => ?_
    have F5 := F.on (by rw [hst]; exact f5) (u4.trans u5)
    have I5 : Inv X pins σ' H' { s1 with heap := h5 } := F5.back I0 os bare
    obtain ⟨v5, _, _, _, hx5, _⟩ := f5.2.2.2
    refine wpAny_handleBy_cons (codeAny_handlers_test (ld_glob (X := Cx.suite X x (X.pn ++ pins)) (Inv.suiteN I5 x) hg hm ?_ hdb)) (by intro q; cases q)
    refine exc_matches I5.kIn d hbe hu hx5 ec (codeAny_handlers_suite_as ?_)
    refine fl_land f5 fun h6 f6 u6 => ?_
    have F6 := F5.on (by rw [hst]; exact f6) u6
    have I6 : Inv X pins σ' H' { s1 with heap := h6 } := F6.back I0 os bare
    obtain ⟨vs, hv2, J⟩ := suite_at I6 hst hf F6
    refine store_ok (X := Cx.suite X x (X.pn ++ pins ++ [(x, { o with data := .fields vs })])) J hN hi (.inl hk) (v := .ref x) rfl (fun s7 I7 => ?_) (.inr hk)
    refine wpAny_mono (hs x _ [] s7 _ H' (goesK i x C o.dict Dn) I7 (hts x F6.nx)) (fun fl s8 z => ?_) fun _ _ z => z.elim
    cases fl with
    | next =>
      obtain ⟨a, b, I8, q⟩ := z
      obtain ⟨p1, p2, _⟩ := I8.pin (x, { o with data := .fields vs }) (List.mem_append_left _ (List.mem_append_right _ List.mem_cons_self))
      have I8' : Inv X pins a b s8 := Inv.unsuiteC I8 I0.ok.hd
      have I9 := I0.trackN (o := xO x C o.dict) hex hx0 I8' p2 (xO_ok p1 ec rfl rfl)
      exact name_goes I9 hN hi hk fun s9 I9 => ⟨_, _, I9, q p2⟩
    | brk => obtain ⟨a, b, I8, q⟩ := z; exact q.elim
    | cont => obtain ⟨a, b, I8, q⟩ := z; exact q.elim
    | ret u => obtain ⟨v, a, b, I8, r, q⟩ := z; exact q.elim
end
structure XAt (K : PySem.W.Frag) (C : Addr) (f : Str) : Prop where
  no : PySem.W.findIn K (.ref C) f = some none
  hd : PySem.W.hasDictIn K C = true
def tXA (K : PySem.W.Frag) (f : Str) (ta : TE) : TE := fun σ H Q => ta σ H fun u H1 => ∃ a C dx fs v, u = .ref a ∧ H1 a = some (xO a C (some dx)) ∧ H1 dx = some (.xd fs) ∧ ExcTy K C ∧ XAt K C f ∧ fs.lookup f = some v ∧ Q v H1
def rIsX (K : PySem.W.Frag) : List V → Hp → VK → Prop := fun xs H Q => ∃ a C od c t' b, xs = [.ref a, c] ∧ H a = some (xO a C od) ∧ (∀ dx, od = some dx → ∃ o, H dx = some o) ∧ ExcTy K C ∧ clsV c = some t' ∧ PySem.W.kitOne K (.ref C) t' = some b ∧ Q (.bl b) H
section
variable {X : Cx} {e : Expr} {f : Str} {pos : Pos} {ta : TE}
theorem pe_xatt (he : PE X e ta) (hb : attributeBase e f X.env (eval e X.env) = eval e X.env := by rfl) : PE X (.Attribute e f pos) (tXA X.K f ta) := by
  intro pins s σ H Q I h
  refine attr_of hb (thn (he pins s σ H _ I h) fun u s1 ⟨xv, H1, I1, rx, a, C, dx, fs, v, ex, ha, hd, ty, xa, hl, q⟩ => ?_)
  subst ex
  obtain rfl : u = Value.ref a := rx
  obtain ⟨⟨oc, odd, odt, osl⟩, vs, h1, h2, h3, h4⟩ := xO_is I1.hok ha
  obtain ⟨mA, hns, hr⟩ := (show ObjOk X.prog X.w H1 s1.heap dx (.xd fs) from I1.hok dx _ hd)
  obtain ⟨od, hod, hlk⟩ := lookIn_ns hns
  obtain ⟨w, hw, rw'⟩ := RelO.some_of (v := v) (o := mA f) (by rw [← hl]; exact hr f)
  cases h2; cases h3; cases h4
  have J : PySem.W.InstAt s1.heap a ⟨.ref C, some dx, .fields vs, osl⟩ C (some od) := ⟨h1, rfl, rfl, hod⟩
  exact PySem.W.xget I1.kIn J ty.ga ty.gt ty.be (PySem.W.findObj_own xa.hd xa.no rfl (by rw [hlk, hw])) (handed_of rw') ⟨v, H1, I1.tok _, rw', q⟩
theorem call_isX : CallR X (.builtin "isinstance") (rIsX X.K) := by
  intro pins s σ H xs us Q I r h
  obtain ⟨a, C, od, c, t', b, rfl, ha, hdx, ty, hc, hk, q⟩ := h
  obtain ⟨u, u', rfl, r1, r2⟩ := vals2 r
  cases clsV_is r2 hc
  cases r1
  obtain ⟨⟨oc, odd, odt, osl⟩, vs, h1, h2, h3, h4⟩ := xO_is I.hok ha
  cases h2; cases h3; cases h4
  have J : ∃ od', PySem.W.InstAt s.heap a ⟨.ref C, odd, .fields vs, osl⟩ C od' := by
    cases odd with
    | none => exact ⟨none, h1, rfl, rfl, trivial⟩
    | some d =>
      obtain ⟨ho', e1⟩ := hdx d rfl
      obtain ⟨ob, e2⟩ := ObjOk.here (I.hok d ho' e1)
      exact ⟨some ob, h1, rfl, rfl, e2⟩
  exact PySem.W.kia_one (kitx_exc ty) I.kIn J hk (fun z => nomatch z) fun tk => ⟨.bl b, H, I.tok tk, rfl, q⟩
end
end L2
namespace L2
open PySem PySem.Spec PyProof.Rows
section
variable {M : Model} {A : Around} {E : Value → Shared → Prop} {K : PySem.W.Frag} {s : Shared}
end
section
variable {X : Cx} {body : List Stmt} {D D2 : Addr} {dn dn2 n : Str} {i : Nat} {b₀ b₂ : Stmt} {suite suite2 : List Stmt} {pos hpos hpos2 np np2 : Pos} {tb : (St → XK) → TS} {ts ts2 : Addr → Addr → Option Addr → TS} {bmB' bmB2 : List Value} {newId' newId2 : String}
end
section
variable {X : Cx} {e : Expr} {f : Str} {pos : Pos} {ta : TE} {x C : Addr} {od : Option Addr}
end
end L2
namespace L2
open PySem PySem.Spec PyProof.Rows
theorem cf_app : ∀ (l : List (Str × NameKind)) (n : Nat) (acc : List (Str × Addr)), cellsFrom n l acc = cellsFrom n l [] ++ acc
  | [], _, _ => rfl
  | (nm, k) :: r, n, acc => by
    unfold cellsFrom
    split
    · rw [cf_app r (n + 1) ((nm, n) :: acc), cf_app r (n + 1) [(nm, n)], List.append_assoc]; rfl
    · exact cf_app r n acc
theorem cf_mem : ∀ (l : List (Str × NameKind)) (n : Nat) (acc : List (Str × Addr)) (z : Str) (c : Addr), (z, c) ∈ cellsFrom n l acc → (z, NameKind.cell) ∈ l ∨ (z, c) ∈ acc
  | [], _, _, _, _, h => .inr h
  | (nm, k) :: r, n, acc, z, c, h => by
    unfold cellsFrom at h
    split at h
    · rename_i hk
      have hk : k = .cell := by simpa using hk
      rcases cf_mem r _ _ z c h with q | q
      · exact .inl (List.mem_cons_of_mem _ q)
      · rcases List.mem_cons.mp q with q | q
        · cases q; subst hk; exact .inl List.mem_cons_self
        · exact .inr q
    · rcases cf_mem r _ _ z c h with q | q
      · exact .inl (List.mem_cons_of_mem _ q)
      · exact .inr q
theorem lk_some {z : Str} : ∀ {l : List (Str × Addr)} {c : Addr}, (z, c) ∈ l → (l.lookup z).isSome = true
  | (n, d) :: r, c, h => by
    rw [List.lookup_cons]
    by_cases e : z = n
    · subst e; rw [beq_self_eq_true]; rfl
    · rw [show (z == n) = false by simpa using e]
      rcases List.mem_cons.mp h with q | q
      · exact absurd (Prod.mk.inj q).1 e
      · exact lk_some q
theorem cf_has : ∀ (l : List (Str × NameKind)) (n : Nat) (acc : List (Str × Addr)) (z : Str), ((z, NameKind.cell) ∈ l ∨ ∃ c, (z, c) ∈ acc) → ∃ c, (z, c) ∈ cellsFrom n l acc
  | [], _, _, _, h => by
    rcases h with h | h
    · cases h
    · exact h
  | (nm, k) :: r, n, acc, z, h => by
    unfold cellsFrom
    split
    · rename_i hk
      refine cf_has r _ _ z ?_
      rcases h with h | ⟨c, h⟩
      · rcases List.mem_cons.mp h with q | q
        · cases q; exact .inr ⟨n, List.mem_cons_self⟩
        · exact .inl q
      · exact .inr ⟨c, List.mem_cons_of_mem _ h⟩
    · rename_i hk
      refine cf_has r _ _ z ?_
      rcases h with h | h
      · rcases List.mem_cons.mp h with q | q
        · cases q; exact absurd (by decide) hk
        · exact .inl q
      · exact .inr h
theorem lookup_relabel_cell {env : Env} : ∀ {names : List (Str × NameKind)} {x : Str}, names.lookup x = some .cell →
    (names.map fun (n, k) => if (k == NameKind.free && env.scope.kind == .function && env.kindOf n == some .cell) then (n, NameKind.cell) else (n, k)).lookup x = some .cell
  | [], _, h => by simp at h
  | (n, k) :: r, x, h => by
    have ih := @lookup_relabel_cell env r x
    show List.lookup x ((if (k == NameKind.free && env.scope.kind == .function && env.kindOf n == some .cell) = true then (n, NameKind.cell) else (n, k)) :: _) = _
    cases hx : x == n with
    | true =>
      simp only [List.lookup_cons, hx] at h
      cases h
      simp [List.lookup_cons, hx]
    | false =>
      simp only [List.lookup_cons, hx] at h
      by_cases hc : (k == NameKind.free && env.scope.kind == .function && env.kindOf n == some .cell) = true
      · rw [if_pos hc]; simp only [List.lookup_cons, hx]; exact ih h
      · rw [if_neg hc]; simp only [List.lookup_cons, hx]; exact ih h
theorem rel_in2 {env : Env} {y : Str} : ∀ {l : List (Str × NameKind)},
    ((l.map fun (n, k) => if (k == NameKind.free && env.scope.kind == .function && env.kindOf n == some .cell) then (n, NameKind.cell) else (n, k)).lookup y = some .cell ∨
     (l.map fun (n, k) => if (k == NameKind.free && env.scope.kind == .function && env.kindOf n == some .cell) then (n, NameKind.cell) else (n, k)).lookup y = some .free) → (y, NameKind.free) ∈ l ∨ (y, NameKind.cell) ∈ l
  | [], h => by rcases h with h | h <;> cases h
  | (n, k) :: r, h => by
    have ih := @rel_in2 env y r
    rw [List.map_cons] at h
    have go : ∀ {p : Prop}, ((y, NameKind.free) ∈ r ∨ (y, NameKind.cell) ∈ r) → ((y, NameKind.free) ∈ (n, k) :: r ∨ (y, NameKind.cell) ∈ (n, k) :: r) := fun q => q.elim (fun q => .inl (List.mem_cons_of_mem _ q)) fun q => .inr (List.mem_cons_of_mem _ q)
    by_cases q : (k == NameKind.free && env.scope.kind == .function && env.kindOf n == some .cell) = true
    · have hk : k = .free := by
        rw [Bool.and_eq_true, Bool.and_eq_true] at q
        simpa using q.1.1
      subst hk
      by_cases hy : y = n
      · subst hy; exact .inl List.mem_cons_self
      · refine go (p := True) (ih ?_)
        have hb : (y == n) = false := by simpa using hy
        simp only [q, if_true, List.lookup_cons, hb] at h
        exact h
    · by_cases hy : y = n
      · subst hy
        have hb : (y == y) = true := by simp
        simp only [q, Bool.false_eq_true, if_false, List.lookup_cons, hb] at h
        rcases h with h | h
        · rw [← Option.some.inj h]; exact .inr List.mem_cons_self
        · rw [← Option.some.inj h]; exact .inl List.mem_cons_self
      · refine go (p := True) (ih ?_)
        have hb : (y == n) = false := by simpa using hy
        simp only [q, Bool.false_eq_true, if_false, List.lookup_cons, hb] at h
        exact h
theorem wpAny_newFunctionEnv_cc {M : Model} {A : Around} {E : Value → Shared → Prop} {s : Shared} {scope : Scope} {globals : Addr} {closure : List (Str × Addr)} {qual : Str} {func : Option Addr} {code : Value} {outer : Env} {builtins : Addr} {Q : Env → Shared → Prop}
    (hQ : Q (newEnv scope s.heap.objs.size globals (cellsFrom (s.heap.objs.size + 1) scope.names closure) qual func code (some outer) builtins) { s with heap := pushCells (s.heap.push { cls := .type "dict", data := .dict #[] }) scope.names }) :
    wpAny M A (newFunctionEnv scope globals closure [] qual func code (some outer) builtins) Q E s := by
  simp only [newFunctionEnv, Option.isSome_some, if_true]
  refine wpAny_bind (wpAny_alloc ?_)
  refine wpAny_bind (wpAny_layCells _ (fun name kind cells => by cases hkc : kind == NameKind.cell <;> simp [hkc]) _ _ _ _ ?_)
  rw [show ({ s with heap := s.heap.push { cls := .type "dict", data := .dict #[] } } : Shared).heap.objs.size = s.heap.objs.size + 1 from Heap.size_push ..]
  rw [List.forIn_nil]
  exact wpAny_bind (wpAny_pure (wpAny_pure hQ))
abbrev ownC (X : Cx) (scope : Scope) (C : Addr) : List (Str × Addr) := cellsFrom (C + 1) scope.names (clOf X.env scope.names [])
def Cx.compC (X : Cx) (x : Str) (ys : List Str) (scope : Scope) (C : Addr) (s : Shared) (H : Hp) (fp : List Addr) : Cx := { X with
  N := x :: ys
  s₀ := s
  H₀ := H
  env := compEnvC scope (ownC X scope C) C X.env
  outer := X.stack
  ex := fp
  fn := fun z => z == x
  pn := []
  xe := fun _ _ => False }
structure CompScopeC (X : Cx) (scope : Scope) (x : Str) (ys : List Str) (caps : List Nat) : Prop where
  kind : scope.kind = .function
  cells : ∀ p ∈ scope.names, p.2 = .cell → p.1 = x
  names : ∀ p ∈ scope.names, p.2 = .local → scope.names.lookup p.1 = some .local
  own : scope.names.lookup x = some .cell
  free : ∀ p ∈ scope.names, p.2 = .free → X.env.scope.names.lookup p.1 = some .cell
  nd : (x :: ys).Nodup
  cap : ∀ q ∈ ys.zip caps, X.N[q.2]? = some q.1 ∧ X.env.scope.names.lookup q.1 = some .cell ∧ scope.names.lookup q.1 = some .free
  len : ys.length = caps.length
theorem CompScopeC.has {X : Cx} {scope : Scope} {x : Str} {ys : List Str} {caps : List Nat} (S : CompScopeC X scope x ys caps) (ok : X.Ok) : ∀ p ∈ scope.names, p.2 = .free → (X.env.cells.lookup p.1).isSome = true := fun p hp hf => by
  obtain ⟨c, e⟩ := ok.has p.1 (.inl (S.free p hp hf))
  rw [e]; rfl
theorem CompScopeC.look {X : Cx} {scope : Scope} {x : Str} {ys : List Str} {caps : List Nat} (S : CompScopeC X scope x ys caps) {C : Addr} {z : Str} {c : Addr} (h : (ownC X scope C).lookup z = some c) : ((z, c) ∈ cellsFrom (C + 1) scope.names [] ∧ z = x) ∨ (clOf X.env scope.names []).lookup z = some c := by
  unfold ownC at h
  rw [cf_app, List.lookup_append] at h
  cases q : (cellsFrom (C + 1) scope.names []).lookup z with
  | some d =>
    rw [q] at h
    have : d = c := Option.some.inj h
    subst this
    have m := PySem.mem_of_lookup q
    refine .inl ⟨m, ?_⟩
    rcases cf_mem _ _ _ _ _ m with m | m
    · exact S.cells _ m rfl
    · cases m
  | none => rw [q] at h; exact .inr h
theorem CompScopeC.other {X : Cx} {scope : Scope} {x : Str} {ys : List Str} {caps : List Nat} (S : CompScopeC X scope x ys caps) {C : Addr} {z : Str} (h : z ≠ x) : (ownC X scope C).lookup z = (clOf X.env scope.names []).lookup z := by
  unfold ownC
  rw [cf_app, List.lookup_append]
  cases q : (cellsFrom (C + 1) scope.names []).lookup z with
  | some d =>
    rcases cf_mem _ _ _ _ _ (PySem.mem_of_lookup q) with m | m
    · exact absurd (S.cells _ m rfl) h
    · cases m
  | none => rfl
theorem CompScopeC.mine {X : Cx} {scope : Scope} {x : Str} {ys : List Str} {caps : List Nat} (S : CompScopeC X scope x ys caps) {C : Addr} : ∃ c, (ownC X scope C).lookup x = some c ∧ (x, c) ∈ cellsFrom (C + 1) scope.names [] := by
  obtain ⟨c, hc⟩ := cf_has scope.names (C + 1) [] x (.inl (PySem.mem_of_lookup S.own))
  obtain ⟨d, hd⟩ := Option.isSome_iff_exists.mp (lk_some hc)
  refine ⟨d, ?_, PySem.mem_of_lookup hd⟩
  unfold ownC
  rw [cf_app, List.lookup_append, hd]
  rfl
theorem CompScope.inner {X : Cx} {scope : Scope} {x : Str} {ys : List Str} {caps : List Nat} (S : CompScopeC X scope x ys caps) {C : Addr} {s : Shared} {H : Hp} {fp : List Addr} {sc : Scope} {x' : Str} {ys' : List Str} {caps' : List Nat} (hk : X.env.scope.kind = .function) (kind : sc.kind = .function) (nocell : ∀ p ∈ sc.names, p.2 ≠ .cell)
    (names : ∀ p ∈ sc.names, p.2 = .local → sc.names.lookup p.1 = some .local) (own : sc.names.lookup x' = some .local) (free : ∀ p ∈ sc.names, p.2 = .free → p.1 = x ∨ scope.names.lookup p.1 = some .free) (nd : (x' :: ys').Nodup)
    (cap : ∀ q ∈ ys'.zip caps', (x :: ys)[q.2]? = some q.1 ∧ (q.1 = x ∨ scope.names.lookup q.1 = some .free) ∧ sc.names.lookup q.1 = some .free) (len : ys'.length = caps'.length) : CompScope (Cx.compC X x ys scope C s H fp) sc x' ys' caps' := by
  have look : ∀ y : Str, (y = x ∨ scope.names.lookup y = some .free) → (Cx.compC X x ys scope C s H fp).env.scope.names.lookup y = some .cell := fun y h => by
    rcases h with rfl | h
    · exact lookup_relabel_cell (env := X.env) S.own
    · exact rel_cell (env := X.env) hk (S.free (y, .free) (PySem.mem_of_lookup h) rfl) h
  exact ⟨kind, nocell, names, own, fun p hp hf => look _ (free p hp hf), nd, fun q hq => ⟨(cap q hq).1, look _ (cap q hq).2.1, (cap q hq).2.2⟩, len⟩
section
variable {X : Cx} {elt iter : Expr} {x : Str} {px : Pos} {scope : Scope} {pos : Pos} {wi : TI} {te : TE} {ys : List Str} {caps : List Nat}
theorem comp_runC (S : CompScopeC X scope x ys caps) (hc : X.calm = true) (he : ∀ C s H fp, PE (Cx.compC X x ys scope C s H fp) elt te)
    {pins : List (Addr × Obj)} {σ : St} {H2 : Hp} {s2 : Shared} {it : Addr} {fp : List Addr} {tn : Nat → Heap → Prop} {J : It} {Q : V → Hp → Prop} {PQ : Value → Addr → Result → Shared → Prop} (I : Inv X pins σ H2 s2) (T : Turn X.prog X.w X.K (.Name x px) J fp it tn) (t0 : tn 0 s2.heap) (f2 : ∀ b ∈ fp, FpOk X pins H2 b)
    (h : ∀ D, H2 D = none → CompR J te (capV caps σ) Q H2 D)
    (hPQ : ∀ D C s' H', Inv X pins σ H' s' → Q (.ref D) H' → (∃ m, s'.heap.Ns C m) → H' C = none → X.s₀.heap.objs.size ≤ C → C ≠ X.env.locals → (∀ z c, X.env.cells.lookup z = some c → c ≠ C) → (∀ p ∈ X.pn ++ pins, p.1 ≠ C) → PQ (.ref D) C (.ok .next) s') :
    wpAny (model X.prog X.w) X.A (newList []) (fun acc s3 => wpAny (model X.prog X.w) X.A (newFunctionEnv scope X.env.globals (clOf X.env scope.names []) [] X.env.qual none .none (some X.env)) (fun cenv s4 =>
      codeAny (model X.prog X.w) X.A (.compStart (.ListComp elt [⟨.Name x px, iter, [], 0⟩] scope pos) 0 (.ref it) acc { cenv with scope := relabel scope X.env }) (PQ acc cenv.locals) s4) X.xe s3) X.xe s2 := by
  have hD : H2 s2.heap.objs.size = none := I.fresh
  obtain ⟨W, ⟨m0, w0⟩, step⟩ := h _ hD
  refine wpAny_newObj_type ?_
  have I3 : Inv X pins σ (upd H2 s2.heap.objs.size (.lst [])) { s2 with heap := s2.heap.push { cls := .type "list", data := .seq ([] : List Value).toArray } } := Inv.lnew (t' := s2.toks) I (ys := []) (its := []) .nil (Nat.zero_le _)
  generalize hH3 : upd H2 s2.heap.objs.size (.lst []) = H3 at I3 w0
  generalize hs3 : ({ s2 with heap := s2.heap.push { cls := .type "list", data := .seq ([] : List Value).toArray } } : Shared) = s3 at I3
  have hfp3 : ∀ b ∈ fp, H3 b = none := fun b hb => by
    obtain ⟨o, e, _⟩ := T.obj _ _ t0 b hb
    rw [← hH3, upd_ne (Nat.ne_of_lt (Heap.lt_size e))]
    exact (f2 b hb).1
  have t3 : tn 0 s3.heap := T.keep _ _ _ t0 fun b hb o e => by rw [← hs3]; exact Heap.get?_push_of_some _ e
  refine wpAny_newFunctionEnv_cc ?_
  have hC : H3 s3.heap.objs.size = none := I3.fresh
  have kp : ∀ b o, s3.heap.get? b = some o → (pushCells (s3.heap.push { cls := .type "dict", data := .dict #[] }) scope.names).get? b = some o := fun b o e => pushCells_keeps _ _ b o (Heap.get?_push_of_some _ e)
  have ns4 := (Heap.Ns.new s3.heap (.type "dict")).keeps (pushCells_keeps scope.names _)
  have ck := cellsFrom_ok scope.names (s3.heap.push { cls := .type "dict", data := .dict #[] }) (s3.heap.objs.size + 1) [] ⟨fun _ _ hm => (nomatch hm), List.Pairwise.nil⟩ (by rw [Heap.size_push]; exact Nat.le_refl _)
  rw [Heap.size_push] at ck
  generalize pushCells (s3.heap.push { cls := .type "dict", data := .dict #[] }) scope.names = h4 at kp ns4 ck
  generalize hs4 : ({ s3 with heap := h4 } : Shared) = s4
  have e4 : s4.heap = h4 := by rw [← hs4]
  have cne : ∀ z c, X.env.cells.lookup z = some c → c ≠ s3.heap.objs.size := fun z c e q => by
    obtain ⟨v, w⟩ := I3.cell z c e
    exact Nat.lt_irrefl _ (q ▸ w.lt)
  have cl_in : ∀ z c, (clOf X.env scope.names []).lookup z = some c → X.env.cells.lookup z = some c := fun z c e => clOf_look scope.names [] (S.has I.ok) (fun q => nomatch q) e
  have Lne : s3.heap.objs.size ≠ X.env.locals := Nat.ne_of_gt I3.lt
  have cl_lt : ∀ z c, (clOf X.env scope.names []).lookup z = some c → c < s3.heap.objs.size := fun z c e => by
    obtain ⟨v, w⟩ := I3.cell z c (cl_in z c e)
    exact w.lt
  have own_ge : ∀ z c, (z, c) ∈ cellsFrom (s3.heap.objs.size + 1) scope.names [] → s3.heap.objs.size < c := fun z c m => (ck.empty z c m).2
  have ok : (Cx.compC X x ys scope s3.heap.objs.size s3 H3 fp).Ok := by
    refine ⟨I3.ok.mod, S.kind, I3.ok.glob, I3.ok.blt, Nat.le_refl _, fun z z' c e1 e2 => ?_, fun z hz => ?_, fun z c hz e => ?_, I3.ok.hd, I3.ok.frames, .inl rfl, fun b hb => ⟨?_, fun z c e => ?_⟩, I3.bs, ?_, fun b o e hb => ?_, fun b hb hf => ?_, I3.stack, I3.stkFree⟩
    · rcases S.look e1 with ⟨m1, _⟩ | l1 <;> rcases S.look e2 with ⟨m2, _⟩ | l2
      · exact name_of_addr ck.apart m1 m2
      · exact absurd (Nat.lt_trans (own_ge _ _ m1) (cl_lt _ _ l2)) (Nat.lt_irrefl _)
      · exact absurd (Nat.lt_trans (own_ge _ _ m2) (cl_lt _ _ l1)) (Nat.lt_irrefl _)
      · exact I3.ok.inj z z' c (cl_in z c l1) (cl_in z' c l2)
    · rcases rel_in2 hz with hz | hz
      · by_cases hx : z = x
        · subst hx
          obtain ⟨c, e, _⟩ := S.mine (C := s3.heap.objs.size)
          exact ⟨c, e⟩
        · have := clOf_has (env := X.env) scope.names [] (.inl hz)
          obtain ⟨c, e⟩ := Option.isSome_iff_exists.mp this
          exact ⟨c, (S.other hx).trans e⟩
      · have hx : z = x := S.cells _ hz rfl
        subst hx
        obtain ⟨c, e, _⟩ := S.mine (C := s3.heap.objs.size)
        exact ⟨c, e⟩
    · have hx : z = x := by simpa using (show (z == x) = true from hz)
      subst hx
      obtain ⟨d, e', m⟩ := S.mine (C := s3.heap.objs.size)
      have e : (ownC X scope s3.heap.objs.size).lookup z = some c := e
      rw [e'] at e
      cases e
      exact Nat.le_of_lt (own_ge _ _ m)
    · obtain ⟨o, e, _⟩ := T.obj _ _ t3 b hb
      exact Nat.ne_of_lt (Heap.lt_size e)
    · rcases S.look e with ⟨m, _⟩ | l
      · intro q
        obtain ⟨o, e, _⟩ := T.obj _ _ t3 b hb
        exact absurd (Nat.lt_trans (own_ge _ _ m) (q ▸ Heap.lt_size e)) (Nat.lt_irrefl _)
      · exact (f2 b hb).2.2.2.2.1 z c (cl_in z c l)
    · exact Nat.le_trans I3.ok.bsz I3.sz
    · obtain ⟨_, _, _, hy, _⟩ := f2 b hb
      have e0 := (I3.ok.bs b o e).1
      rcases hy with hy | hy
      · exact I3.ok.noex b o e hy
      · exact absurd (Nat.lt_of_lt_of_le (Heap.lt_size e0) hy) (Nat.lt_irrefl _)
    · obtain ⟨_, hl, hfs, _⟩ := f2 b hb
      exact (List.mem_cons.mp (I3.stkSub b hf)).elim hl hfs
  have hlen : ((none : Option V) :: capV caps σ).length = (x :: ys).length := by
    rw [List.length_cons, List.length_cons, S.len]
    unfold capV
    rw [List.length_map]
  have I4 : Inv X pins σ H3 s4 := by
    rw [← hs4]
    exact I3.kept kp
  have Ic : Inv (Cx.compC X x ys scope s3.heap.objs.size s3 H3 fp) [] ((none : Option V) :: capV caps σ) H3 s4 := by
    refine ⟨ok, by rw [← hs4]; rfl, I4.bare, Un.kept (by rw [e4]; exact kp), ⟨_, by rw [e4]; exact ns4, fun i z v e1 e2 e3 => ?_⟩, fun z c e => ?_, hC, fun z c e => ?_, (fun p hp => nomatch hp), I4.hok, hlen⟩
    rotate_left
    · rcases S.look e with ⟨m, _⟩ | l
      · exact ⟨none, by rw [e4]; exact (ck.empty z c m).1⟩
      · exact I4.cell z c (cl_in z c l)
    · rcases S.look e with ⟨m, _⟩ | l
      · exact I3.hok.fresh (Nat.le_of_lt (own_ge _ _ m))
      · exact I4.freeC z c (cl_in z c l)
    cases i with
    | zero => cases e2
    | succ j =>
      have e1 : ys[j]? = some z := e1
      have e2 : (capV caps σ)[j]? = some (some v) := e2
      unfold capV at e2
      rw [List.getElem?_map] at e2
      cases hi : caps[j]? with
      | none => rw [hi] at e2; cases e2
      | some i =>
        rw [hi] at e2
        have e2 : (σ[i]?).join = some v := Option.some.inj e2
        have e2 : σ[i]? = some (some v) := by
          cases q : σ[i]? with
          | none => rw [q] at e2; cases e2
          | some o => rw [q] at e2; exact congrArg some e2
        obtain ⟨c1, c2, c3⟩ := S.cap (z, i) (zip_at e1 hi)
        have c4 := rel_cell (env := X.env) I.ok.kind c2 c3
        have c3 : (z, NameKind.free) ∈ scope.names := PySem.mem_of_lookup c3
        obtain ⟨m, hn, hl⟩ := I4.loc
        obtain ⟨u, r, lk⟩ := hl i z v c1 e2 (.inr (.inl c2))
        refine ⟨u, r, .inr ⟨.inl c4, ?_⟩⟩
        rcases lk with ⟨k, _⟩ | ⟨_, c, hc', z'⟩
        · exact absurd ((show X.env.scope.names.lookup z = some .local from k).symm.trans c2) (by decide)
        · obtain ⟨d, hd⟩ := Option.isSome_iff_exists.mp (clOf_has (env := X.env) scope.names [] (.inl c3))
          have := cl_in z d hd
          rw [hc'] at this
          cases this
          have hzx : z ≠ x := fun q => (List.nodup_cons.mp S.nd).1 (q ▸ List.mem_of_getElem? e1)
          exact ⟨c, (S.other hzx).trans hd, z'⟩
  have loop : codeAny (model X.prog X.w) X.A (.compLoop (.ListComp elt [⟨.Name x px, iter, [], 0⟩] scope pos) 0 (.ref it) (.ref s2.heap.objs.size) (compEnvC scope (ownC X scope s3.heap.objs.size) s3.heap.objs.size X.env)) (PQ (.ref s2.heap.objs.size) s3.heap.objs.size) s4 := by
    have fpC : ∀ {H' : Hp}, (∀ b ∈ fp, H' b = none) → ∀ b ∈ fp, FpOk (Cx.compC X x ys scope s3.heap.objs.size s3 H3 fp) [] H' b := fun hn b hb =>
      ⟨hn b hb, (ok.exf b hb).1, ok.exfs b hb, .inl hb, (ok.exf b hb).2, (fun p hp => nomatch hp)⟩
    refine codeAny_loop rfl (fun n s' => ∃ i zs v H', Inv (Cx.compC X x ys scope s3.heap.objs.size s3 H3 fp) [] (v :: capV caps σ) H' s' ∧ tn i s'.heap ∧ (∀ b ∈ fp, H' b = none) ∧ W i n zs H') (fun n s5 z => ?_) m0 ⟨0, [], none, H3, Ic, T.keep _ _ _ t3 (fun b hb o e => by rw [e4]; exact kp b o e), hfp3, w0⟩
    obtain ⟨i, zs, v, H5, I5, t5, fr5, w5⟩ := z
    show wpAny _ _ ((compTurn _ 0 (.ref it) _ _).onRaise _) _ _ s5
    refine wpAny_noted ?_
    rw [compTurn_list1]
    refine wpAny_bind (wpAny_standAt (wpAny_bind ?_))
    obtain ⟨hacc, stop | go⟩ := step i n zs H5 w5
    · obtain ⟨stop, q⟩ := stop
      refine thn (T.done (Cx.compC X x ys scope s3.heap.objs.size s3 H3 fp) rfl rfl rfl hc i [] s5 _ H5 _ I5 (fpC fr5) t5 stop) fun r s6 ⟨hr, I6⟩ => ?_
      subst hr
      refine wpAny_pure (hPQ _ _ s6 H5 ?_ q ?_ I6.free ?_ Lne cne fun p hp z => ?_)
      · refine I3.call' I6.os I6.base I6.hok I6.bare fun b hb => ?_
        obtain ⟨_, g1, _, g3, g4, g5⟩ := f2 b hb
        exact ⟨g3, g1, g4, g5⟩
      · obtain ⟨m, hn, _⟩ := I6.loc
        exact ⟨m, hn⟩
      · exact I3.sz
      · exact Nat.ne_of_lt (Heap.lt_size (I3.pin p hp).1) z
    · obtain ⟨go, turn⟩ := go
      refine thn (T.item (Cx.compC X x ys scope s3.heap.objs.size s3 H3 fp) rfl rfl rfl hc i [] s5 _ H5 _ I5 (fpC fr5) t5 go) fun r s6 ⟨u, hr, h6⟩ => ?_
      subst hr
      refine wpAny_bind (thn h6 fun _ s7 ⟨y, H7, I7, r7, y7, t7, fr7⟩ => ?_)
      have I7' := I7.pinned (fpC fr7) (T.obj _ _ t7)
      have hg : PG (Cx.compC X x ys scope s3.heap.objs.size s3 H3 fp) (.Name x px) (gName 0) := pg_name S.nd rfl (.inr (lookup_relabel_cell (env := X.env) S.own)) (.inl (by show (x == x) = true; exact beq_self_eq_true x))
      refine wpAny_bind (wpAny_mono (hg _ s7 _ H7 y u (fun σ' H' => σ' = some y :: capV caps σ ∧ H' = H7) I7' r7 ⟨rfl, rfl⟩) (fun _ s8 z8 => ?_) fun _ _ f => f.elim)
      obtain ⟨σ8, H8, I8, e8, e8'⟩ := z8
      subst e8 e8'
      refine wpAny_bind (wpAny_bind (wpAny_mono (he _ _ _ _ _ s8 _ _ _ I8 (turn y _ y7)) (fun u9 s9 z9 => ?_) fun _ _ f => f.elim))
      obtain ⟨v9, H9, I9, r9, a9, l9, m9, hm9, w9⟩ := z9
      refine wpAny_bind (wpAny_mono (mt_append (X := Cx.compC X x ys scope s3.heap.objs.size s3 H3 fp) _ s9 _ H9 (.ref s2.heap.objs.size) [v9] _ [u9] (fun _ H' => H' = upd H9 s2.heap.objs.size (.lst (zs ++ [v9]))) I9 rfl (.cons r9 .nil) ⟨_, zs, v9, rfl, rfl, a9, l9, rfl⟩) (fun _ s10 z10 => ?_) fun _ _ f => f.elim)
      obtain ⟨_, H10, I10, _, e10⟩ := z10
      subst e10
      refine wpAny_pure (wpAny_pure ⟨rfl, m9, hm9, i + 1, zs ++ [v9], some y, _, I10.unpinned, T.keep _ _ _ t7 fun b hb o e => (I10.pin (b, o) (List.mem_append_right _ (List.mem_append_right _ (mem_pinsAt hb e)))).1, fun b hb => ?_, w9⟩)
      obtain ⟨o, e, _⟩ := T.obj _ _ t7 b hb
      exact (I10.pin (b, o) (List.mem_append_right _ (List.mem_append_right _ (mem_pinsAt hb e)))).2.1
  exact codeAny_compStart_list loop (T.self X.A 0 _ _ _ (T.keep _ _ _ t3 (fun b hb o e => by rw [e4]; exact kp b o e)) loop)
theorem pe_compC (S : CompScopeC X scope x ys caps) (hc : X.calm = true) (hi : PI X (.Name x px) iter wi) (he : ∀ C s H fp, PE (Cx.compC X x ys scope C s H fp) elt te) (hs : ∀ x, foldedSetIterable iter X.env x = pure x := by intro _; rfl) :
    PE X (.ListComp elt [⟨.Name x px, iter, [], 0⟩] scope pos) (tComp wi te caps) := by
  intro pins s σ H Q I h
  rw [eval_ListComp]
  refine wpAny_comprehension_free (use := none) rfl hs (closure_is (S.has I.ok)) S.kind S.names (thn (hi pins s σ H _ I h) fun v s1 h1 => thn h1 fun itv s2 h2 => ?_)
  obtain ⟨it, fp, tn, J, H2, rfl, I2, T, t0, f2, q⟩ := h2
  refine comp_runC S hc he (Q := Q) I2 T t0 f2 q fun D C s' H' I' q' n' hC hz hL hcc hp => ?_
  obtain ⟨m, n'⟩ := n'
  exact ⟨m, n', fun h' sb => ⟨.ref D, H', I'.turned (it := C) (t' := s'.toks) (fun b o hb e => (sb.2 b hb).trans e) hC hL (.inr hz) hcc hp, rfl, q'⟩⟩
theorem ps_setcompC {i : Nat} {y : Str} {py spos : Pos} (hN : X.N.Nodup) (hiy : X.N[i]? = some y) (hy : Loc X.env.scope y) (S : CompScopeC X scope x ys caps) (hc : X.calm = true) (hi : PI X (.Name x px) iter wi) (he : ∀ C s H fp, PE (Cx.compC X x ys scope C s H fp) elt te)
    (hsw : swapsWith (.ListComp elt [⟨.Name x px, iter, [], 0⟩] scope pos) (some (.Name y py)) spos.line X.env = pure true := by rfl) (hs : ∀ x, foldedSetIterable iter X.env x = pure x := by intro _; rfl)
    (hf : X.fn y = true ∨ X.env.scope.names.lookup y = some .local := by first | exact .inl rfl | exact .inr rfl | assumption) :
    PS X (.Assign [.Name y py] (.ListComp elt [⟨.Name x px, iter, [], 0⟩] scope pos) spos) (tSetComp i wi te caps) := by
  intro pins s σ H D I h
  rw [exec_Assign_Name_used _ _ _ _ hsw]
  refine wpAny_bind (wpAny_standAt (wpAny_bind ?_))
  show wpAny _ _ (do let _ ← comprehension (.ListComp elt [⟨.Name x px, iter, [], 0⟩] scope pos) scope X.env _ (newList []) false (eval iter X.env) (some (assign (.Name y py) X.env))) _ _ s
  refine wpAny_bind (wpAny_mono (wpAny_comprehension_free (use := some (assign (.Name y py) X.env)) (Q := fun _ s' => SP X pins D .next s') rfl hs (closure_is (S.has I.ok)) S.kind S.names (thn (hi pins s σ H _ I h) fun v s1 h1 => thn h1 fun itv s2 h2 => ?_)) (fun _ s' hq => wpAny_pure (wpAny_pure hq)) fun _ _ e => e)
  obtain ⟨it, fp, tn, J, H2, rfl, I2, T, t0, f2, q⟩ := h2
  refine comp_runC S hc he (Q := fun v H1 => D.nx (σ.set i (some v)) H1) I2 T t0 f2 q fun Dl C s' H' I' q' n' hC hz hL hcc hp => ?_
  obtain ⟨m, n'⟩ := n'
  show wpAny _ _ (assign (.Name y py) X.env (.ref Dl)) _ _ s'
  refine wpAny_assign_Name (store_ok2 I' hN hiy hy (v := .ref Dl) rfl (fun s3 I3 sb3 => ?_) hf)
  obtain ⟨a, sb3, ha⟩ := sb3
  have hCa : C ≠ a := by
    rcases ha with rfl | ha
    · exact hL
    · exact (hcc _ _ ha).symm
  exact ⟨m, n'.sameBut sb3 hCa, fun h' sb => ⟨_, H', I3.turned (it := C) (t' := s3.toks) (fun b o hb e => (sb.2 b hb).trans e) hC hL (.inr hz) hcc hp, q'⟩⟩
end
end L2
set_option maxRecDepth 100000
set_option maxHeartbeats 4000000
set_option maxRecDepth 100000
namespace L2
open PySem PySem.Spec PyProof.Rows
end L2
namespace L2
open PySem PySem.Spec PyProof.Rows
section
variable (P : Program) (w : World)
end
section
variable {P : Program} {w : World} {H H' : Hp} {h h' : Heap} {a : Addr} {o : HO}
end
section
variable {P : Program} {w : World} {H : Hp} {h h' : Heap} {x e : Addr} {o' : HO}
end
section
variable {fs fs' ex ex' : List Addr} {H H1 H2 : Hp} {h h1 h2 h' : Heap} {a x e : Addr} {o : HO}
end
end L2
namespace L2
open PySem PySem.Spec PyProof.Rows
section
variable {X : Cx} {pins : List (Addr × Obj)} {σ : List (Option V)} {H H' : Hp} {s : Shared} {h' : Heap}
end
end L2
namespace L2
open PySem PySem.Spec PyProof.Rows
section
variable {X : Cx}
variable {a b : Expr} {ta tb : TE} {pos : Pos}
variable {tA tB' : TT} {rest : List Expr}
end
end L2
namespace L2
open PySem PySem.Spec PyProof.Rows
section
variable {X : Cx} {pins : List (Addr × Obj)} {σ : St} {H : Hp} {s : Shared} {a : Addr} {xs ys : List V}
end
section
variable {X : Cx} {pins : List (Addr × Obj)} {σ : St} {H : Hp} {s : Shared} {E : Value → Shared → Prop}
end
section
variable {X : Cx} {st : Stmt} {rest : List Stmt} {t u : TS} {e : Expr} {te : TE} {pos : Pos}
end
section
variable {X : Cx} {pos : Pos}
end
section
variable {X : Cx} {pos : Pos}
end
end L2
namespace L2
open PySem PySem.Spec PyProof.Rows
section
variable {X : Cx} {tg : Expr}
end
end L2
namespace L2
open PySem PySem.Spec PyProof.Rows
section
variable {X : Cx} {a b c : Expr} {ta tb tc : TE} {pos : Pos}
end
section
variable {X : Cx} {a b c : Expr} {ta tb tc : TE} {pos : Pos}
end
end L2
namespace L2
open PySem PySem.Spec PyProof.Rows
section
variable {prog : Program} {w : World} {A : Around} {E : Value → Shared → Prop} {s : Shared} {K : PySem.W.Frag} {x dx C f : Addr} {mA : Str → Option Value} {name : Str} {v : Value}
end
section
variable {P : Program} {w : World} {H H' : Hp} {h h' : Heap} {a C dx : Addr} {fs fs' : List (Str × V)}
end
section
variable {X : Cx} {pins : List (Addr × Obj)} {σ : St} {H : Hp} {s : Shared} {a C dx : Addr} {fs : List (Str × V)} {f : Str} {v : V} {A : Around} {E : Value → Shared → Prop}
end
section
variable {X : Cx} {o e value : Expr} {f : Str} {pos pos' tpos : Pos} {ta tv : TE}
end
section
variable {X : Cx} {pins : List (Addr × Obj)} {σ : St} {H : Hp} {s : Shared} {A : Around} {E : Value → Shared → Prop} {Q : Value → Shared → Prop} {c : Value} {b : Bool}
end
end L2
namespace L2
open PySem PySem.Spec PyProof.Rows
section
variable {X : Cx} {e : Expr} {es : List Expr} {te : TE} {t : TA} {pos : Pos}
end
section
variable {X : Cx} {pins : List (Addr × Obj)} {σ : St} {H : Hp} {s s' : Shared}
end
section
variable {X : Cx} {CX : CXT} {k : Nat} {f C : Addr} {fd : FuncData} {ps : List Str} {sp : Sp} {dvs : List V} {ds : List Value} {E : XK} {x m : Str} {p pos apos : Pos} {e o : Expr} {es : List Expr} {ta : TE} {t : TA}
end
section
variable {X : Cx} {CX : CXT} {k : Nat} {f C : Addr} {fd : FuncData} {ps ks : List Str} {sp : Sp} {E : XK} {x m : Str} {p pos apos kpos : Pos} {e o : Expr} {es : List Expr} {kws : List Keyword} {te ta : TE} {t tk : TA} {nm : Option Str}
variable {g : List Value → List Value → List Value} {gV : List V → List V → List V}
end
end L2
namespace L2
open PySem PySem.Spec PyProof.Rows
section
variable {X : Cx} {x : Str} {p pos : Pos} {e : Expr} {es : List Expr} {t : TA} {id T : String} {r : List V → Hp → VK → Prop}
end
end L2
namespace L2
open PySem PySem.Spec PyProof.Rows
section
variable {κ : Type} [DecidableEq κ]
end
section
variable {P : Program} {w : World} {H : Hp} {h : Heap} {a : Addr}
end
section
variable {X : Cx} {pins : List (Addr × Obj)} {σ : St} {H : Hp} {s : Shared} {a : Addr} {y v : V} {u r : Value} {o : Option V} {A : Around} {E : Value → Shared → Prop}
end
section
variable {X : Cx} {pins : List (Addr × Obj)} {σ : St} {H : Hp} {s : Shared} {a : Addr} {kvs : List (Key × V)} {k : Key} {u : Value} {A : Around} {E : Value → Shared → Prop}
end
section
variable {X : Cx} {o i e value : Expr} {pos pos' tpos : Pos} {td ty tv : TE}
end
section
variable {X : Cx} {pos : Pos}
end
section
variable {X : Cx} {pins : List (Addr × Obj)} {σ : St} {H : Hp} {s : Shared} {a : Addr} {y d : V} {u r : Value} {o : Option V} {A : Around} {E : Value → Shared → Prop}
end
section
variable {X : Cx} {o e f : Expr} {apos cpos : Pos} {td ty tx : TE}
end
section
variable {X : Cx} {pins : List (Addr × Obj)} {σ : St} {H : Hp} {s : Shared} {a : Addr} {kvs : List (Key × V)} {A : Around} {E : Value → Shared → Prop}
end
section
variable {X : Cx} {pins : List (Addr × Obj)} {σ : St} {H : Hp} {s : Shared} {a : Addr} {y : V} {u : Value} {A : Around} {E : Value → Shared → Prop}
end
end L2
namespace Att
open PySem PySem.W PySem.Calls PyProof.Rows
section
variable {prog : Program} {w : World} {A : Around} {E : Value → Shared → Prop} {s : Shared} {K : Frag}
end
end Att
namespace L2
open PySem PySem.Spec PyProof.Rows
end L2
namespace L2
open PySem PySem.Spec PyProof.Rows
end L2
/- THE LAST THEOREM (shape; LID, My.* are yours):
   My.Adr: a structure of the addresses that your layer names (classes, functions); My.Txt K t: a structure (Prop) of the equations over K;
   My.txt_mk : {K} {implicit addresses ..} (e1 : nsIn K mainGlobals "law" = some (some (.ref f))) (e2 : K.lookup f = some ⟨oc, od, .func (fnOf "law" "law" params body scope dV kV doc pm an cdv ct), sl⟩) (e3 : codeIn K cdv "law" = true) .. : ∃ t, My.Txt K t
set_option maxRecDepth 100000 in
set_option maxHeartbeats 0 in
theorem PySem.Challenge.cw_LID_holds : PySem.Challenge.rw_LID.Holds := by
  w_on; o_law; k_head; (case hw => w_witness2)
  k_fill
  refine L2.walk_of (l := PySem.Challenge.rw_LID) (n := 63) (k := 40) (x := "script") (CX := fun w => ..) (sp := fun _ => My.sp_law) rfl (by decide) rfl ⟨rfl, by decide, by decide⟩ (fun w h Y => PySem.W.kIn_of Y) ?F ?S ?C
  case F =>
    intro w mg fa h KX G hmg
    have T : ∃ t, My.Txt (L2.KOf KX) t := by
      dsimp only [L2.KOf]                          -- K must stand as «<heap const> w.params» for k_is
      refine' My.txt_mk ?e1 ?e2 ?e3 ..
      (case e1 => PySem.W.k_is)                    -- in the order: a name -> its address -> its object -> its parts
      (case e2 => PySem.W.k_is)
      ..
    obtain ⟨t, T⟩ := T
    have e0 := hmg.symm.trans (PySem.W.mg_of KX G T.law)
    cases e0                                       -- fa is the law's own address
    exact ⟨_, fun s u => .of_eq rfl, fun base kb nb => My.law_fn T kb nb⟩     -- if «.of_eq rfl» comes too early: refine' ⟨_, ?b, fun base kb nb => My.law_fn T kb nb⟩; exact fun s u => .of_eq rfl
  case S => exact fun w H a ns hl hO hS => ..
  case C => exact ..
(the tactic k_is has no namespace: write k_is) -/
namespace L2
open PySem PySem.Spec PyProof.Rows
section
variable {P : Program} {w : World} {K : PySem.W.Frag} {mg : Str → Option Value} {base : Heap}
end
section
variable {X : Cx}
end
section
variable {κ : Type} [DecidableEq κ]
end
end L2
set_option maxRecDepth 100000
set_option maxHeartbeats 4000000
namespace L2
open PySem PySem.Spec PyProof.Rows
inductive Dt where
  | non
  | bl (b : Bool)
  | int (i : Int)
  | str (x : Str)
  | tup (xs : List Dt)
  | lst (xs : List Dt)
  | obj (C : Addr) (ns : List Str) (xs : List Dt)
  | loc (k : Nat)
  | ref (a : Addr)
  | ty (n : String)
  | scr (ns : List Int)
  | kt (xs : List Dt)
  | exc (C : Addr) (ns : List Str) (xs : List Dt)
  | exn (x C : Addr) (od : Option Addr) (ns : List Str) (xs : List Dt)
inductive MO where
  | lst (xs : List Dt)
  | ins (C : Addr) (ns : List Str) (xs : List Dt)
  | dct (ks : List Key) (xs : List Dt)
abbrev Ms := List MO
abbrev En := List (Option Dt)
mutual
def Den (K : PySem.W.Frag) (G : Hp) (L : List Addr) : Dt → V → Prop
  | .non, v => v = .non
  | .bl b, v => v = .bl b
  | .int i, v => v = .int i
  | .str x, v => v = .str x
  | .tup ds, v => ∃ a vs, v = .ref a ∧ G a = some (.tup vs) ∧ DenL K G L ds vs
  | .lst ds, v => ∃ a vs, v = .ref a ∧ G a = some (.lst vs) ∧ DenL K G L ds vs
  | .obj C ns ds, v => ∃ a dx vs, v = .ref a ∧ G a = some (.ins C dx (ns.zip vs)) ∧ ns.length = ds.length ∧ DenL K G L ds vs
  | .loc k, v => ∃ a, v = .ref a ∧ L[k]? = some a
  | .ref a, v => v = .ref a
  | .ty n, v => v = .ty n
  | .scr ns, v => ∃ a, v = .ref a ∧ SqL K G a (ns.map V.int)
  | .kt ds, v => ∃ a vs, v = .ref a ∧ SqT K G a vs ∧ DenL K G L ds vs
  | .exc C ns ds, v => ∃ a od vs, v = .ref a ∧ G a = some (xO a C od) ∧ ((ns = [] ∧ od = none) ∨ ∃ dx, od = some dx ∧ G dx = some (.xd (ns.zip vs))) ∧ ns.length = ds.length ∧ DenL K G L ds vs
  | .exn x _ od ns ds, v => ∃ vs, v = .ref x ∧ ((ns = [] ∧ od = none) ∨ ∃ dx, od = some dx ∧ G dx = some (.xd (ns.zip vs))) ∧ ns.length = ds.length ∧ DenL K G L ds vs
def DenL (K : PySem.W.Frag) (G : Hp) (L : List Addr) : List Dt → List V → Prop
  | [], vs => vs = []
  | d :: ds, vs => ∃ v r, vs = v :: r ∧ Den K G L d v ∧ DenL K G L ds r
end
def Pre (L L' : List Addr) : Prop := ∃ t, L' = L ++ t
theorem Pre.refl (L : List Addr) : Pre L L := ⟨[], by simp⟩
theorem Pre.trans {a b c : List Addr} (h : Pre a b) (h' : Pre b c) : Pre a c := by
  obtain ⟨t, rfl⟩ := h
  obtain ⟨u, rfl⟩ := h'
  exact ⟨t ++ u, by simp⟩
theorem Pre.get {a b : List Addr} (h : Pre a b) {k : Nat} {x : Addr} (e : a[k]? = some x) : b[k]? = some x := by
  obtain ⟨t, rfl⟩ := h
  have hk : k < a.length := (List.getElem?_eq_some_iff.mp e).1
  rw [List.getElem?_append_left hk]; exact e
theorem Same.rd {H H' : Hp} {a : Addr} {u : HO} (e : Same H H') (h : Rd H a u) : Rd H' a u := by
  rcases h with h | ⟨o, h⟩
  · exact .inl (e _ _ h)
  · exact .inr ⟨o, e _ _ h⟩
theorem Same.sqT {K : PySem.W.Frag} {H H' : Hp} {a : Addr} {xs : List V} (e : Same H H') (h : SqT K H a xs) : SqT K H' a xs := by
  rcases h with h | h
  · exact .inl (e.rd h)
  · exact .inr h
section
variable {K : PySem.W.Frag} {G G' : Hp} {L L' : List Addr}
mutual
theorem Den.mono (g : Same G G') (l : Pre L L') : ∀ (d : Dt) (v : V), Den K G L d v → Den K G' L' d v
  | .non, _, h => h
  | .bl _, _, h => h
  | .int _, _, h => h
  | .str _, _, h => h
  | .tup ds, _, ⟨a, vs, e, h1, h2⟩ => ⟨a, vs, e, g _ _ h1, DenL.mono g l ds vs h2⟩
  | .lst ds, _, ⟨a, vs, e, h1, h2⟩ => ⟨a, vs, e, g _ _ h1, DenL.mono g l ds vs h2⟩
  | .obj C ns ds, _, ⟨a, dx, vs, e, h1, hn, h2⟩ => ⟨a, dx, vs, e, g _ _ h1, hn, DenL.mono g l ds vs h2⟩
  | .loc k, _, ⟨a, e, h1⟩ => ⟨a, e, l.get h1⟩
  | .ref _, _, h => h
  | .ty _, _, h => h
  | .scr _, _, ⟨a, e, h1⟩ => ⟨a, e, g.seq h1⟩
  | .kt ds, _, ⟨a, vs, e, h1, h2⟩ => ⟨a, vs, e, g.sqT h1, DenL.mono g l ds vs h2⟩
  | .exc _ _ ds, _, ⟨a, od, vs, e, h1, h2, h3, h4⟩ => ⟨a, od, vs, e, g _ _ h1, h2.imp (fun z => z) (fun ⟨dx, z1, z2⟩ => ⟨dx, z1, g _ _ z2⟩), h3, DenL.mono g l ds vs h4⟩
  | .exn _ _ _ _ ds, _, ⟨vs, e, h2, h3, h4⟩ => ⟨vs, e, h2.imp (fun z => z) (fun ⟨dx, z1, z2⟩ => ⟨dx, z1, g _ _ z2⟩), h3, DenL.mono g l ds vs h4⟩
theorem DenL.mono (g : Same G G') (l : Pre L L') : ∀ (ds : List Dt) (vs : List V), DenL K G L ds vs → DenL K G' L' ds vs
  | [], _, h => h
  | d :: ds, _, ⟨v, r, e, h1, h2⟩ => ⟨v, r, e, Den.mono g l d v h1, DenL.mono g l ds r h2⟩
end
theorem DenL.pair : ∀ {ds : List Dt} {vs : List V}, DenL K G L ds vs → Paired (Den K G L) ds vs
  | [], _, h => by
    have h : _ = _ := h
    subst h
    exact .nil
  | d :: ds, _, ⟨v, r, e, h1, h2⟩ => by
    subst e
    exact .cons h1 (DenL.pair h2)
theorem DenL.of : ∀ {ds : List Dt} {vs : List V}, Paired (Den K G L) ds vs → DenL K G L ds vs
  | _, _, .nil => rfl
  | _, _, .cons h t => ⟨_, _, rfl, h, DenL.of t⟩
end
section
variable {α β : Type} {F : α → β → Prop}
theorem prd_get : ∀ {xs : List α} {us : List β} {i : Nat} {x : α}, Paired F xs us → xs[i]? = some x → ∃ u, us[i]? = some u ∧ F x u
  | _, _, _, _, .nil, e => by simp at e
  | _, _, 0, _, .cons r _, e => by simp at e; subst e; exact ⟨_, rfl, r⟩
  | _, _, i + 1, x, .cons _ t, e => by
    obtain ⟨u, h1, h2⟩ := prd_get (i := i) (x := x) t (by simpa using e)
    exact ⟨u, by simpa using h1, h2⟩
theorem prd_set {x : α} {u : β} (r : F x u) : ∀ {xs : List α} {us : List β} (i : Nat), Paired F xs us → Paired F (xs.set i x) (us.set i u)
  | _, _, _, .nil => .nil
  | _, _, 0, .cons _ t => .cons r t
  | _, _, i + 1, .cons q t => .cons q (prd_set r i t)
theorem prd_app : ∀ {xs ys : List α} {us ws : List β}, Paired F xs us → Paired F ys ws → Paired F (xs ++ ys) (us ++ ws)
  | _, _, _, _, .nil, s => s
  | _, _, _, _, .cons r t, s => .cons r (prd_app t s)
theorem prd_take : ∀ {xs : List α} {us : List β} (n : Nat), Paired F xs us → Paired F (xs.take n) (us.take n)
  | _, _, 0, _ => .nil
  | _, _, _ + 1, .nil => .nil
  | _, _, n + 1, .cons r t => .cons r (prd_take n t)
theorem prd_drop : ∀ {xs : List α} {us : List β} (n : Nat), Paired F xs us → Paired F (xs.drop n) (us.drop n)
  | _, _, 0, r => r
  | _, _, _ + 1, .nil => .nil
  | _, _, n + 1, .cons _ t => prd_drop n t
theorem prd_rep {xs : List α} {us : List β} (h : Paired F xs us) : ∀ k : Nat, Paired F (List.replicate k xs).flatten (List.replicate k us).flatten
  | 0 => .nil
  | k + 1 => by
    rw [List.replicate_succ, List.replicate_succ, List.flatten_cons, List.flatten_cons]
    exact prd_app h (prd_rep h k)
end
section
variable {K : PySem.W.Frag} {G : Hp} {L : List Addr}
theorem DenL.length {ds : List Dt} {vs : List V} (h : DenL K G L ds vs) : ds.length = vs.length := Paired.length h.pair
theorem DenL.get {ds : List Dt} {vs : List V} {i : Nat} {d : Dt} (h : DenL K G L ds vs) (e : ds[i]? = some d) : ∃ v, vs[i]? = some v ∧ Den K G L d v := prd_get h.pair e
theorem DenL.app {ds es : List Dt} {vs us : List V} (h : DenL K G L ds vs) (h' : DenL K G L es us) : DenL K G L (ds ++ es) (vs ++ us) := .of (prd_app h.pair h'.pair)
theorem denL_ints : ∀ {ns : List Int}, DenL K G L (ns.map Dt.int) (ns.map V.int)
  | [] => rfl
  | n :: ns => ⟨_, _, rfl, rfl, denL_ints⟩
theorem denL_one {d : Dt} {vs : List V} (h : DenL K G L [d] vs) : ∃ v, vs = [v] ∧ Den K G L d v := by
  obtain ⟨v, r, rfl, h1, h2⟩ := h
  have h2 : r = [] := h2
  subst h2
  exact ⟨v, rfl, h1⟩
theorem denL_two {d e : Dt} {vs : List V} (h : DenL K G L [d, e] vs) : ∃ v u, vs = [v, u] ∧ Den K G L d v ∧ Den K G L e u := by
  obtain ⟨v, r, rfl, h1, h2⟩ := h
  obtain ⟨u, rfl, h3⟩ := denL_one h2
  exact ⟨v, u, rfl, h1, h3⟩
end
def MOk (K : PySem.W.Frag) (G : Hp) (L : List Addr) (H : Hp) (a : Addr) : MO → Prop
  | .lst ds => ∃ vs, H a = some (.lst vs) ∧ DenL K G L ds vs
  | .ins C ns ds => ∃ dx vs, H a = some (.ins C dx (ns.zip vs)) ∧ ns.length = ds.length ∧ DenL K G L ds vs
  | .dct ks ds => ∃ vs, H a = some (.dK (ks.zip vs)) ∧ ks.length = ds.length ∧ DenL K G L ds vs
structure Rl (K : PySem.W.Frag) (G : Hp) (L : List Addr) (M : Ms) (H : Hp) : Prop where
  sub : Same G H
  len : L.length = M.length
  nd : L.Nodup
  ats : ∀ (k : Nat) (a : Addr) (m : MO), L[k]? = some a → M[k]? = some m → G a = none ∧ MOk K G L H a m
structure Ex (G : Hp) (L : List Addr) (H : Hp) (G' : Hp) (L' : List Addr) (H' : Hp) : Prop where
  g : Same G G'
  l : Pre L L'
  fr : ∀ b, G b = none → H b ≠ none → G' b = none
  out : ∀ b o, H b = some o → b ∉ L → H' b = some o
  new : ∀ b ∈ L', b ∈ L ∨ H b = none
  dom : ∀ b, H b ≠ none → H' b ≠ none
theorem Ex.refl (G : Hp) (L : List Addr) (H : Hp) : Ex G L H G L H := ⟨.refl _, .refl _, fun _ h _ => h, fun _ _ h _ => h, fun _ h => .inl h, fun _ h => h⟩
theorem Ex.trans {G : Hp} {L : List Addr} {H G1 : Hp} {L1 : List Addr} {H1 G2 : Hp} {L2 : List Addr} {H2 : Hp} (a : Ex G L H G1 L1 H1) (b : Ex G1 L1 H1 G2 L2 H2) : Ex G L H G2 L2 H2 where
  g := a.g.trans b.g
  l := a.l.trans b.l
  fr := fun x h1 h2 => b.fr x (a.fr x h1 h2) (a.dom x h2)
  out := fun x o h1 h2 => b.out x o (a.out x o h1 h2) fun z => (a.new x z).elim h2 fun q => by rw [h1] at q; cases q
  new := fun x h => by
    rcases b.new x h with z | z
    · exact a.new x z
    · right
      cases q : H x with
      | none => rfl
      | some o => exact absurd z (a.dom x (by rw [q]; simp))
  dom := fun x h => b.dom x (a.dom x h)
theorem MOk.there {K : PySem.W.Frag} {G : Hp} {L : List Addr} {H : Hp} {a : Addr} {m : MO} (h : MOk K G L H a m) : H a ≠ none := by
  cases m with
  | lst ds => obtain ⟨vs, e, _⟩ := h; rw [e]; simp
  | ins C ns ds => obtain ⟨dx, vs, e, _⟩ := h; rw [e]; simp
  | dct ks ds => obtain ⟨vs, e, _⟩ := h; rw [e]; simp
theorem MOk.mono {K : PySem.W.Frag} {G G' : Hp} {L L' : List Addr} {H H' : Hp} {a : Addr} {m : MO} (g : Same G G') (l : Pre L L') (e : H' a = H a) (h : MOk K G L H a m) : MOk K G' L' H' a m := by
  cases m with
  | lst ds => obtain ⟨vs, e1, h⟩ := h; exact ⟨vs, e.trans e1, DenL.mono g l _ _ h⟩
  | ins C ns ds => obtain ⟨dx, vs, e1, h0, h⟩ := h; exact ⟨dx, vs, e.trans e1, h0, DenL.mono g l _ _ h⟩
  | dct ks ds => obtain ⟨vs, e1, h0, h⟩ := h; exact ⟨vs, e.trans e1, h0, DenL.mono g l _ _ h⟩
section
variable {K : PySem.W.Frag} {G : Hp} {L : List Addr} {M : Ms} {H : Hp} {p : Addr} {o : HO}
theorem Rl.at_mem (r : Rl K G L M H) {a : Addr} (h : a ∈ L) : ∃ (k : Nat) (m : MO), L[k]? = some a ∧ M[k]? = some m ∧ G a = none ∧ MOk K G L H a m := by
  obtain ⟨k, hk, e⟩ := List.getElem_of_mem h
  have e1 : L[k]? = some a := by rw [List.getElem?_eq_getElem hk, e]
  have e2 : M[k]? = some (M[k]'(by rw [← r.len]; exact hk)) := List.getElem?_eq_getElem _
  exact ⟨k, _, e1, e2, r.ats k a _ e1 e2⟩
theorem Rl.memN (r : Rl K G L M H) (hp : H p = none) : p ∉ L := fun z => by
  obtain ⟨k, m, _, _, _, h⟩ := r.at_mem z
  exact h.there hp
theorem Rl.newG (r : Rl K G L M H) (hp : H p = none) : Rl K (upd G p o) L M (upd H p o) where
  sub := fun b u e => by
    by_cases hb : b = p
    · subst hb; rw [upd_same] at e ⊢; exact e
    · rw [upd_ne hb] at e ⊢; exact r.sub b u e
  len := r.len
  nd := r.nd
  ats := fun k a m h1 h2 => by
    obtain ⟨q1, q2⟩ := r.ats k a m h1 h2
    have hb : a ≠ p := fun z => q2.there (by rw [z]; exact hp)
    exact ⟨by rw [upd_ne hb]; exact q1, q2.mono (fun b u e => by rw [upd_ne (fun z => by rw [z, r.sub.free hp] at e; cases e)]; exact e) (.refl _) (upd_ne hb)⟩
theorem Rl.exG (r : Rl K G L M H) (hp : H p = none) : Ex G L H (upd G p o) L (upd H p o) where
  g := fun b u e => by rw [upd_ne (fun z => by rw [z, r.sub.free hp] at e; cases e)]; exact e
  l := .refl _
  fr := fun b h1 h2 => by rw [upd_ne (fun z => h2 (by rw [z]; exact hp))]; exact h1
  out := fun b u h1 _ => by rw [upd_ne (fun z => by rw [z, hp] at h1; cases h1)]; exact h1
  new := fun b h => .inl h
  dom := fun b h => by rw [upd_ne (fun z => h (by rw [z]; exact hp))]; exact h
theorem Rl.newM {m : MO} (r : Rl K G L M H) (hp : H p = none) (hm : MOk K G (L ++ [p]) (upd H p o) p m) : Rl K G (L ++ [p]) (M ++ [m]) (upd H p o) where
  sub := fun b u e => by rw [upd_ne (fun z => by rw [z, r.sub.free hp] at e; cases e)]; exact r.sub b u e
  len := by rw [List.length_append, List.length_append, r.len]; rfl
  nd := List.nodup_append.mpr ⟨r.nd, by simp, fun a ha b hb => by
    have e : b = p := by simpa using hb
    rw [e]; exact fun z => r.memN hp (z ▸ ha)⟩
  ats := fun k a m' h1 h2 => by
    by_cases hk : k < L.length
    · rw [List.getElem?_append_left hk] at h1
      rw [List.getElem?_append_left (by rw [← r.len]; exact hk)] at h2
      obtain ⟨q1, q2⟩ := r.ats k a m' h1 h2
      exact ⟨q1, q2.mono (.refl _) ⟨[p], rfl⟩ (upd_ne fun z => q2.there (by rw [z]; exact hp))⟩
    · have e : k = L.length := by
        have := (List.getElem?_eq_some_iff.mp h1).1
        rw [List.length_append] at this
        simp at this
        omega
      rw [e, List.getElem?_append_right (Nat.le_refl _)] at h1
      rw [e, r.len, List.getElem?_append_right (Nat.le_refl _)] at h2
      simp at h1 h2
      subst h1 h2
      exact ⟨r.sub.free hp, hm⟩
theorem Rl.exM (r : Rl K G L M H) (hp : H p = none) : Ex G L H G (L ++ [p]) (upd H p o) where
  g := .refl _
  l := ⟨[p], rfl⟩
  fr := fun b h1 _ => h1
  out := fun b u h1 _ => by rw [upd_ne (fun z => by rw [z, hp] at h1; cases h1)]; exact h1
  new := fun b h => by
    rcases List.mem_append.mp h with z | z
    · exact .inl z
    · have e : b = p := by simpa using z
      right; rw [e]; exact hp
  dom := fun b h => by rw [upd_ne (fun z => h (by rw [z]; exact hp))]; exact h
theorem Rl.setM {k : Nat} {a : Addr} {m : MO} (r : Rl K G L M H) (hk : L[k]? = some a) (hm : MOk K G L (upd H a o) a m) : Rl K G L (M.set k m) (upd H a o) where
  sub := fun b u e => by
    obtain ⟨k', m', e1, e2, q1, _⟩ := r.at_mem (List.mem_of_getElem? hk)
    rw [upd_ne (fun z => by rw [z, q1] at e; cases e)]; exact r.sub b u e
  len := by rw [List.length_set]; exact r.len
  nd := r.nd
  ats := fun k' a' m' h1 h2 => by
    by_cases e : k' = k
    · subst e
      rw [hk] at h1; cases h1
      have hl : k' < M.length := by rw [← r.len]; exact (List.getElem?_eq_some_iff.mp hk).1
      rw [List.getElem?_set_self hl] at h2
      cases h2
      obtain ⟨_, _, _, _, q1, _⟩ := r.at_mem (List.mem_of_getElem? hk)
      exact ⟨q1, hm⟩
    · rw [List.getElem?_set_ne (fun z => e z.symm)] at h2
      obtain ⟨q1, q2⟩ := r.ats k' a' m' h1 h2
      have ne : a' ≠ a := fun z => by
        subst z
        exact e ((List.getElem?_inj (List.getElem?_eq_some_iff.mp h1).1 r.nd).mp (h1.trans hk.symm))
      exact ⟨q1, q2.mono (.refl _) (.refl _) (upd_ne ne)⟩
theorem Rl.exS {k : Nat} {a : Addr} (r : Rl K G L M H) (hk : L[k]? = some a) : Ex G L H G L (upd H a o) where
  g := .refl _
  l := .refl _
  fr := fun b h1 _ => h1
  out := fun b u h1 h2 => by rw [upd_ne (fun z => h2 (by rw [z]; exact List.mem_of_getElem? hk))]; exact h1
  new := fun b h => .inl h
  dom := fun b h => by
    by_cases e : b = a
    · rw [e, upd_same]; simp
    · rw [upd_ne e]; exact h
end
structure EnD (K : PySem.W.Frag) (G : Hp) (L : List Addr) (ρ : En) (σ : St) : Prop where
  len : ρ.length = σ.length
  ats : ∀ (i : Nat) (d : Dt), ρ[i]? = some (some d) → ∃ v, σ[i]? = some (some v) ∧ Den K G L d v
section
variable {K : PySem.W.Frag} {G G' : Hp} {L L' : List Addr} {H H' : Hp} {ρ : En} {σ : St}
theorem EnD.mono (h : EnD K G L ρ σ) (e : Ex G L H G' L' H') : EnD K G' L' ρ σ := ⟨h.len, fun i d q => let ⟨v, a, b⟩ := h.ats i d q; ⟨v, a, Den.mono e.g e.l d v b⟩⟩
theorem EnD.set (h : EnD K G L ρ σ) (i : Nat) {d : Dt} {v : V} (q : Den K G L d v) : EnD K G L (ρ.set i (some d)) (σ.set i (some v)) := by
  refine ⟨by rw [List.length_set, List.length_set]; exact h.len, fun j d' e => ?_⟩
  by_cases hj : i = j
  · subst hj
    have hl : i < ρ.length := by
      have := (List.getElem?_eq_some_iff.mp e).1
      rwa [List.length_set] at this
    rw [List.getElem?_set_self hl] at e
    cases e
    exact ⟨v, List.getElem?_set_self (by rw [← h.len]; exact hl), q⟩
  · rw [List.getElem?_set_ne hj] at e
    obtain ⟨u, a, b⟩ := h.ats j d' e
    exact ⟨u, by rw [List.getElem?_set_ne hj]; exact a, b⟩
end
abbrev DQ := Dt → Ms → Prop
abbrev DX := En → Addr → List (Str × Dt) → Ms → Prop
def xRel (K : PySem.W.Frag) (G : Hp) (L : List Addr) (H : Hp) (fs : List (Str × Dt)) (od : Option Addr) : Prop :=
  (fs = [] ∧ od = none) ∨ fs ≠ [] ∧ ∃ dx vs, od = some dx ∧ G dx = some (.xd ((fs.map (·.1)).zip vs)) ∧ DenL K G L (fs.map (·.2)) vs
def XOk (K : PySem.W.Frag) (G : Hp) (L : List Addr) (H : Hp) (R : St → XK) (x : DX) : Prop :=
  ∀ σ ρ C fs M' G' L' H' od, x ρ C fs M' → Ex G L H G' L' H' → Rl K G' L' M' H' → EnD K G' L' ρ σ → xRel K G' L' H' fs od → R σ (.ref C) od H'
theorem XOk.on {K : PySem.W.Frag} {G : Hp} {L : List Addr} {H G1 : Hp} {L1 : List Addr} {H1 : Hp} {R : St → XK} {x : DX} (h : XOk K G L H R x) (e : Ex G L H G1 L1 H1) : XOk K G1 L1 H1 R x :=
  fun σ ρ C fs M' G' L' H' od q e' r n y => h σ ρ C fs M' G' L' H' od q (e.trans e') r n y
def noX : DX := fun _ _ _ _ => False
theorem xok_no {K : PySem.W.Frag} {G : Hp} {L : List Addr} {H : Hp} {R : St → XK} : XOk K G L H R noX := fun _ _ _ _ _ _ _ _ _ q => q.elim
abbrev DE := En → Ms → DQ → DX → Prop
abbrev DT := En → Ms → (Bool → Ms → Prop) → DX → Prop
abbrev DA := En → Ms → (List Dt → Ms → Prop) → DX → Prop
structure DEnds where
  nx : En → Ms → Prop
  rt : DQ
  bk : En → Ms → Prop := fun _ _ => False
  ct : En → Ms → Prop := fun _ _ => False
  x : DX := noX
abbrev DS := DEnds → En → Ms → Prop
inductive Fin (K : PySem.W.Frag) (G0 : Hp) (L0 : List Addr) (H0 : Hp) (q : DQ) (v : V) (H : Hp) : Prop
  | mk (d : Dt) (G : Hp) (L : List Addr) (M : Ms) (e : Ex G0 L0 H0 G L H) (r : Rl K G L M H) (n : Den K G L d v) (h : q d M)
inductive FinT (K : PySem.W.Frag) (G0 : Hp) (L0 : List Addr) (H0 : Hp) (q : Bool → Ms → Prop) (b : Bool) (H : Hp) : Prop
  | mk (G : Hp) (L : List Addr) (M : Ms) (e : Ex G0 L0 H0 G L H) (r : Rl K G L M H) (h : q b M)
inductive FinA (K : PySem.W.Frag) (G0 : Hp) (L0 : List Addr) (H0 : Hp) (q : List Dt → Ms → Prop) (vs : List V) (H : Hp) : Prop
  | mk (ds : List Dt) (G : Hp) (L : List Addr) (M : Ms) (e : Ex G0 L0 H0 G L H) (r : Rl K G L M H) (n : DenL K G L ds vs) (h : q ds M)
inductive FinN (K : PySem.W.Frag) (G0 : Hp) (L0 : List Addr) (H0 : Hp) (q : En → Ms → Prop) (σ : St) (H : Hp) : Prop
  | mk (ρ : En) (G : Hp) (L : List Addr) (M : Ms) (e : Ex G0 L0 H0 G L H) (r : Rl K G L M H) (n : EnD K G L ρ σ) (h : q ρ M)
def FinS (K : PySem.W.Frag) (G0 : Hp) (L0 : List Addr) (H0 : Hp) (Dn : DEnds) : Ends := ⟨FinN K G0 L0 H0 Dn.nx, Fin K G0 L0 H0 Dn.rt, FinN K G0 L0 H0 Dn.bk, FinN K G0 L0 H0 Dn.ct⟩
inductive lowE (K : PySem.W.Frag) (R : St → XK) (t : DE) (σ : St) (H : Hp) (Q : VK) : Prop
  | mk (G : Hp) (L : List Addr) (ρ : En) (M : Ms) (q : DQ) (x : DX) (r : Rl K G L M H) (n : EnD K G L ρ σ) (h : t ρ M q x) (hx : XOk K G L H R x) (hQ : ∀ v H1, Fin K G L H q v H1 → Q v H1)
inductive lowT (K : PySem.W.Frag) (R : St → XK) (t : DT) (σ : St) (H : Hp) (Q : Bool → Hp → Prop) : Prop
  | mk (G : Hp) (L : List Addr) (ρ : En) (M : Ms) (q : Bool → Ms → Prop) (x : DX) (r : Rl K G L M H) (n : EnD K G L ρ σ) (h : t ρ M q x) (hx : XOk K G L H R x) (hQ : ∀ b H1, FinT K G L H q b H1 → Q b H1)
inductive lowA (K : PySem.W.Frag) (R : St → XK) (t : DA) (σ : St) (H : Hp) (Q : List V → Hp → Prop) : Prop
  | mk (G : Hp) (L : List Addr) (ρ : En) (M : Ms) (q : List Dt → Ms → Prop) (x : DX) (r : Rl K G L M H) (n : EnD K G L ρ σ) (h : t ρ M q x) (hx : XOk K G L H R x) (hQ : ∀ vs H1, FinA K G L H q vs H1 → Q vs H1)
structure EImp (A B : Ends) : Prop where
  nx : ∀ σ H, A.nx σ H → B.nx σ H
  rt : ∀ v H, A.rt v H → B.rt v H
  bk : ∀ σ H, A.bk σ H → B.bk σ H
  ct : ∀ σ H, A.ct σ H → B.ct σ H
inductive lowS (K : PySem.W.Frag) (R : St → XK) (t : DS) (De : Ends) (σ : St) (H : Hp) : Prop
  | mk (G : Hp) (L : List Addr) (ρ : En) (M : Ms) (Dn : DEnds) (r : Rl K G L M H) (n : EnD K G L ρ σ) (h : t Dn ρ M) (hx : XOk K G L H R Dn.x) (hQ : EImp (FinS K G L H Dn) De)
def JE (X : Cx) (R : St → XK) (e : Expr) (t : DE) : Prop := PE X e (lowE X.K R t)
def JT (X : Cx) (R : St → XK) (e : Expr) (t : DT) : Prop := PT X e (lowT X.K R t)
def JW (X : Cx) (R : St → XK) (e : Expr) (t : DT) : Prop := PW X e (lowT X.K R t)
def JA (X : Cx) (R : St → XK) (es : List Expr) (t : DA) : Prop := PA X es (lowA X.K R t)
def JS (X : Cx) (R : St → XK) (st : Stmt) (t : DS) : Prop := PS X st (lowS X.K R t)
def JSs (X : Cx) (R : St → XK) (st : List Stmt) (t : DS) : Prop := PSs X st (lowS X.K R t)
section
variable {K : PySem.W.Frag} {G0 : Hp} {L0 : List Addr} {H0 G1 : Hp} {L1 : List Addr} {H1 : Hp}
theorem Fin.back {q : DQ} (e : Ex G0 L0 H0 G1 L1 H1) {v : V} {H : Hp} (h : Fin K G1 L1 H1 q v H) : Fin K G0 L0 H0 q v H := let ⟨d, G, L, M, a, b, c, f⟩ := h; ⟨d, G, L, M, e.trans a, b, c, f⟩
theorem FinN.back {q : En → Ms → Prop} (e : Ex G0 L0 H0 G1 L1 H1) {v : St} {H : Hp} (h : FinN K G1 L1 H1 q v H) : FinN K G0 L0 H0 q v H := let ⟨d, G, L, M, a, b, c, f⟩ := h; ⟨d, G, L, M, e.trans a, b, c, f⟩
theorem FinT.back {q : Bool → Ms → Prop} (e : Ex G0 L0 H0 G1 L1 H1) {v : Bool} {H : Hp} (h : FinT K G1 L1 H1 q v H) : FinT K G0 L0 H0 q v H := let ⟨G, L, M, a, b, f⟩ := h; ⟨G, L, M, e.trans a, b, f⟩
theorem FinS.back {Dn : DEnds} (e : Ex G0 L0 H0 G1 L1 H1) : EImp (FinS K G1 L1 H1 Dn) (FinS K G0 L0 H0 Dn) := ⟨fun _ _ h => FinN.back e h, fun _ _ h => Fin.back e h, fun _ _ h => FinN.back e h, fun _ _ h => FinN.back e h⟩
theorem SP.imp {X : Cx} {pins : List (Addr × Obj)} {A B : Ends} (e : EImp A B) {f : Flow} {s : Shared} (h : SP X pins A f s) : SP X pins B f s := by
  cases f with
  | next => obtain ⟨a, b, I, q⟩ := h; exact ⟨a, b, I, e.nx _ _ q⟩
  | brk => obtain ⟨a, b, I, q⟩ := h; exact ⟨a, b, I, e.bk _ _ q⟩
  | cont => obtain ⟨a, b, I, q⟩ := h; exact ⟨a, b, I, e.ct _ _ q⟩
  | ret u => obtain ⟨v, a, b, I, r, q⟩ := h; exact ⟨v, a, b, I, r, e.rt _ _ q⟩
end
section
variable {X : Cx} {R : St → XK} {e : Expr}
theorem JE.of {te : TE} {t : DE} (h : PE X e te) (hw : ∀ σ H G L ρ M q x, Rl X.K G L M H → EnD X.K G L ρ σ → t ρ M q x → XOk X.K G L H R x → te σ H (Fin X.K G L H q)) : JE X R e t := by
  intro pins s σ H Q I ⟨G, L, ρ, M, q, x, r, n, ht, hx, hQ⟩
  refine thn (h pins s σ H _ I (hw σ H G L ρ M q x r n ht hx)) fun u s1 ⟨v, H1, I1, rv, f⟩ => ⟨v, H1, I1, rv, hQ v H1 f⟩
theorem JT.of {te : TT} {t : DT} (h : PT X e te) (hw : ∀ σ H G L ρ M q x, Rl X.K G L M H → EnD X.K G L ρ σ → t ρ M q x → XOk X.K G L H R x → te σ H (FinT X.K G L H q)) : JT X R e t := by
  intro pins s σ H Q I ⟨G, L, ρ, M, q, x, r, n, ht, hx, hQ⟩
  refine thn (h pins s σ H _ I (hw σ H G L ρ M q x r n ht hx)) fun u s1 ⟨H1, I1, f⟩ => ⟨H1, I1, hQ u H1 f⟩
theorem JW.of {te : TT} {t : DT} (h : PW X e te) (hw : ∀ σ H G L ρ M q x, Rl X.K G L M H → EnD X.K G L ρ σ → t ρ M q x → XOk X.K G L H R x → te σ H (FinT X.K G L H q)) : JW X R e t := by
  intro wh pins s σ H Q I ⟨G, L, ρ, M, q, x, r, n, ht, hx, hQ⟩
  refine thn (h wh pins s σ H _ I (hw σ H G L ρ M q x r n ht hx)) fun u s1 ⟨H1, I1, f⟩ => ⟨H1, I1, hQ u H1 f⟩
theorem JA.of {es : List Expr} {te : TA} {t : DA} (h : PA X es te) (hw : ∀ σ H G L ρ M q x, Rl X.K G L M H → EnD X.K G L ρ σ → t ρ M q x → XOk X.K G L H R x → te σ H (FinA X.K G L H q)) : JA X R es t := by
  intro pos pins s σ H Q I ⟨G, L, ρ, M, q, x, r, n, ht, hx, hQ⟩
  refine thn (h pos pins s σ H _ I (hw σ H G L ρ M q x r n ht hx)) fun u s1 ⟨v, H1, I1, rv, f⟩ => ⟨v, H1, I1, rv, hQ v H1 f⟩
theorem JS.of {st : Stmt} {te : TS} {t : DS} (h : PS X st te) (hw : ∀ σ H G L ρ M Dn, Rl X.K G L M H → EnD X.K G L ρ σ → t Dn ρ M → XOk X.K G L H R Dn.x → te (FinS X.K G L H Dn) σ H) : JS X R st t := by
  intro pins s σ H De I ⟨G, L, ρ, M, Dn, r, n, ht, hx, hQ⟩
  exact thn (h pins s σ H _ I (hw σ H G L ρ M Dn r n ht hx)) fun u s1 f => SP.imp hQ f
theorem JSs.of {st : List Stmt} {te : TS} {t : DS} (h : PSs X st te) (hw : ∀ σ H G L ρ M Dn, Rl X.K G L M H → EnD X.K G L ρ σ → t Dn ρ M → XOk X.K G L H R Dn.x → te (FinS X.K G L H Dn) σ H) : JSs X R st t := by
  intro pins s σ H De I ⟨G, L, ρ, M, Dn, r, n, ht, hx, hQ⟩
  exact thn (h pins s σ H _ I (hw σ H G L ρ M Dn r n ht hx)) fun u s1 f => SP.imp hQ f
end
end L2
namespace L2
open PySem PySem.Spec PyProof.Rows
def dVar (i : Nat) : DE := fun ρ M q _ => match ρ[i]? with
  | some (some d) => q d M
  | _ => False
def dC (d : Dt) : DE := fun _ M q _ => q d M
def dOp (f : Dt → Dt → Ms → DQ → Prop) (a b : DE) : DE := fun ρ M q x => a ρ M (fun d1 M1 => b ρ M1 (fun d2 M2 => f d1 d2 M2 q) x) x
def dUn (f : Dt → Ms → DQ → Prop) (a : DE) : DE := fun ρ M q x => a ρ M (fun d1 M1 => f d1 M1 q) x
def aNil : DA := fun _ M q _ => q [] M
def aCons (a : DE) (r : DA) : DA := fun ρ M q x => a ρ M (fun d M1 => r ρ M1 (fun ds M2 => q (d :: ds) M2) x) x
def dFn (f : List Dt → Ms → DQ → Prop) (a : DA) : DE := fun ρ M q x => a ρ M (fun ds M1 => f ds M1 q) x
def OpD (K : PySem.W.Frag) (r : R2) (f : Dt → Dt → Ms → DQ → Prop) : Prop :=
  ∀ G0 L0 H0 G L M H v1 v2 d1 d2 q, Ex G0 L0 H0 G L H → Rl K G L M H → Den K G L d1 v1 → Den K G L d2 v2 → f d1 d2 M q → r v1 v2 H (Fin K G0 L0 H0 q)
def UnD (K : PySem.W.Frag) (r : V → Hp → VK → Prop) (f : Dt → Ms → DQ → Prop) : Prop :=
  ∀ G0 L0 H0 G L M H v1 d1 q, Ex G0 L0 H0 G L H → Rl K G L M H → Den K G L d1 v1 → f d1 M q → r v1 H (Fin K G0 L0 H0 q)
def CaD (K : PySem.W.Frag) (r : List V → Hp → VK → Prop) (f : List Dt → Ms → DQ → Prop) : Prop :=
  ∀ G0 L0 H0 G L M H vs ds q, Ex G0 L0 H0 G L H → Rl K G L M H → DenL K G L ds vs → f ds M q → r vs H (Fin K G0 L0 H0 q)
section
variable {K : PySem.W.Frag} {R : St → XK} {ta tb : DE} {tc : DA} {σ : St} {H G : Hp} {L : List Addr} {ρ : En} {M : Ms} {q : DQ} {x : DX}
theorem bin_rd {r : R2} {f : Dt → Dt → Ms → DQ → Prop} (od : OpD K r f) (rl : Rl K G L M H) (n : EnD K G L ρ σ) (h : dOp f ta tb ρ M q x) (hx : XOk K G L H R x) : tOp r (lowE K R ta) (lowE K R tb) σ H (Fin K G L H q) := by
  refine ⟨G, L, ρ, M, _, x, rl, n, h, hx, fun v H1 ⟨d1, G1, L1, M1, e1, r1, n1, h1⟩ => ?_⟩
  refine ⟨G1, L1, ρ, M1, _, x, r1, n.mono e1, h1, hx.on e1, fun v2 H2 ⟨d2, G2, L2, M2, e2, r2, n2, h2⟩ => ?_⟩
  exact od G L H G2 L2 M2 H2 v v2 d1 d2 q (e1.trans e2) r2 (Den.mono e2.g e2.l _ _ n1) n2 h2
theorem un_rd {r : V → Hp → VK → Prop} {f : Dt → Ms → DQ → Prop} (od : UnD K r f) (rl : Rl K G L M H) (n : EnD K G L ρ σ) (h : dUn f ta ρ M q x) (hx : XOk K G L H R x) : tUn r (lowE K R ta) σ H (Fin K G L H q) := by
  refine ⟨G, L, ρ, M, _, x, rl, n, h, hx, fun v H1 ⟨d1, G1, L1, M1, e1, r1, n1, h1⟩ => ?_⟩
  exact od G L H G1 L1 M1 H1 v d1 q e1 r1 n1 h1
theorem ca_rd {r : List V → Hp → VK → Prop} {f : List Dt → Ms → DQ → Prop} (od : CaD K r f) (rl : Rl K G L M H) (n : EnD K G L ρ σ) (h : dFn f tc ρ M q x) (hx : XOk K G L H R x) : tCB r (lowA K R tc) σ H (Fin K G L H q) := by
  refine ⟨G, L, ρ, M, _, x, rl, n, h, hx, fun v H1 ⟨d1, G1, L1, M1, e1, r1, n1, h1⟩ => ?_⟩
  exact od G L H G1 L1 M1 H1 v d1 q e1 r1 n1 h1
end
section
variable {X : Cx} {R : St → XK} {a b c : Expr} {ta tb : DE} {pos : Pos}
theorem jv (i : Nat) {x : Str} {pos : Pos} (hN : X.N[i]? = some x := by rfl) (hv : Vis X.env.scope x := by first | exact Or.inl rfl | exact Or.inr (Or.inl rfl) | exact Or.inr (Or.inr rfl)) (hd : (x == ("__debug__" : Str)) = false := by decide)
    (hcd : (x == ("__classdict__" : Str)) = false := by decide) : JE X R (.Name x pos) (dVar i) := .of (pe_var hN hv hd hcd) fun σ H G L ρ M q x r n h hx => by
  unfold dVar at h
  split at h
  · rename_i d e
    obtain ⟨v, e1, h1⟩ := n.ats i d e
    exact ⟨v, e1, d, G, L, M, .refl _ _ _, r, h1, h⟩
  · exact h.elim
theorem j_c {d : Dt} {v : V} {e : Expr} (h : PE X e (tC v)) (hd : ∀ G L, Den X.K G L d v) : JE X R e (dC d) := .of h fun σ H G L ρ M q x r n h hx => ⟨d, G, L, M, .refl _ _ _, r, hd G L, h⟩
theorem jint {i j pos} : JE X R (.Constant (.int i) j pos) (dC (.int i)) := j_c pe_int fun _ _ => rfl
theorem jbl {b j pos} : JE X R (.Constant (.bool b) j pos) (dC (.bl b)) := j_c pe_bl fun _ _ => rfl
theorem jnon {j pos} : JE X R (.Constant .none j pos) (dC .non) := j_c pe_non fun _ _ => rfl
theorem jstr {x j pos} : JE X R (.Constant (.str x) j pos) (dC (.str x)) := j_c pe_str fun _ _ => rfl
theorem j_op {op : Operator} {r : R2} {f : Dt → Dt → Ms → DQ → Prop} (ho : OpR X (binaryOp op) r) (od : OpD X.K r f) (ja : JE X R a ta) (jb : JE X R b tb) : JE X R (.BinOp a op b pos) (dOp f ta tb) :=
  .of (pe_op ho ja jb) fun σ H G L ρ M q x r n h hx => bin_rd od r n h hx
theorem j_un {op : UnaryOp} {r : V → Hp → VK → Prop} {f : Dt → Ms → DQ → Prop} (ho : UnR X (unaryOp op) r) (od : UnD X.K r f) (ja : JE X R a ta) : JE X R (.UnaryOp op a pos) (dUn f ta) :=
  .of (pe_un ho ja) fun σ H G L ρ M q x r n h hx => un_rd od r n h hx
theorem j_cmp {op : CmpOp} {r : R2} {f : Dt → Dt → Ms → DQ → Prop} (ho : OpR X (compareOp op) r) (od : OpD X.K r f) (ja : JE X R a ta) (jb : JE X R b tb) (hm : behindInMarks op b = false) : JE X R (.Compare a [op] [b] pos) (dOp f ta tb) :=
  .of (pe_cmpR ho ja jb hm) fun σ H G L ρ M q x r n h hx => bin_rd od r n h hx
theorem j_ixs {r : R2} {f : Dt → Dt → Ms → DQ → Prop} (hr : IxR X r) (od : OpD X.K r f) (ja : JE X R a ta) (jb : JE X R b tb) (hs : PlainIx b) : JE X R (.Subscript a b pos) (dOp f ta tb) :=
  .of (pe_ix hr ja jb hs) fun σ H G L ρ M q x r n h hx => bin_rd od r n h hx
theorem starC {env : Env} {es : List Expr} {c j p} : starEach (.Constant c j p :: es) env = (false, eval (.Constant c j p) env) :: starEach es env := rfl
theorem starN {env : Env} {es : List Expr} {c p} : starEach (.Name c p :: es) env = (false, eval (.Name c p) env) :: starEach es env := rfl
theorem starB {env : Env} {es : List Expr} {a o b p} : starEach (.BinOp a o b p :: es) env = (false, eval (.BinOp a o b p) env) :: starEach es env := rfl
theorem starF {env : Env} {es : List Expr} {a b c p} : starEach (.Call a b c p :: es) env = (false, eval (.Call a b c p) env) :: starEach es env := rfl
theorem starX {env : Env} {es : List Expr} {a b p} : starEach (.Subscript a b p :: es) env = (false, eval (.Subscript a b p) env) :: starEach es env := rfl
theorem starU {env : Env} {es : List Expr} {a b p} : starEach (.UnaryOp a b p :: es) env = (false, eval (.UnaryOp a b p) env) :: starEach es env := rfl
theorem ja_nil : JA X R [] aNil := .of pa_nil fun σ H G L ρ M q x r n h hx => ⟨[], G, L, M, .refl _ _ _, r, rfl, h⟩
theorem ja_cons {e : Expr} {es : List Expr} {te : DE} {t : DA} (ha : JE X R e te) (hr : JA X R es t) (hs : starEach (e :: es) X.env = (false, eval e X.env) :: starEach es X.env := by first | exact starC | exact starN | exact starB | exact starF | exact starX | exact starT | exact starK | exact starU | rfl) : JA X R (e :: es) (aCons te t) :=
  .of (pa_cons ha hr hs) fun σ H G L ρ M q x rl n h hx => by
    refine ⟨G, L, ρ, M, _, x, rl, n, h, hx, fun v H1 ⟨d1, G1, L1, M1, e1, r1, n1, h1⟩ => ?_⟩
    refine ⟨G1, L1, ρ, M1, _, x, r1, n.mono e1, h1, hx.on e1, fun v2 H2 ⟨d2, G2, L2, M2, e2, r2, n2, h2⟩ => ?_⟩
    exact ⟨d1 :: d2, G2, L2, M2, e1.trans e2, r2, ⟨_, _, rfl, Den.mono e2.g e2.l _ _ n1, n2⟩, h2⟩
def dTup (t : DA) : DE := fun ρ M q x => t ρ M (fun ds M1 => ds.length ≤ sizeLine ∧ q (.tup ds) M1) x
def dLst (t : DA) : DE := fun ρ M q x => t ρ M (fun ds M1 => ds.length ≤ sizeLine ∧ q (.lst ds) M1) x
def dLstM (t : DA) : DE := fun ρ M q x => t ρ M (fun ds M1 => ds.length ≤ sizeLine ∧ q (.loc M1.length) (M1 ++ [.lst ds])) x
theorem fin_new {K : PySem.W.Frag} {G0 : Hp} {L0 : List Addr} {H0 G : Hp} {L : List Addr} {M : Ms} {H : Hp} {p : Addr} {o : HO} {d : Dt} {q : DQ} (e : Ex G0 L0 H0 G L H) (r : Rl K G L M H) (hp : H p = none) (hd : Den K (upd G p o) L d (.ref p)) (h : q d M) : Fin K G0 L0 H0 q (.ref p) (upd H p o) :=
  ⟨d, upd G p o, L, M, e.trans (r.exG hp), r.newG hp, hd, h⟩
theorem den_tup {K : PySem.W.Frag} {G : Hp} {L : List Addr} {M : Ms} {H : Hp} {p : Addr} {ds : List Dt} {vs : List V} (r : Rl K G L M H) (hp : H p = none) (h : DenL K G L ds vs) : Den K (upd G p (.tup vs)) L (.tup ds) (.ref p) :=
  ⟨p, vs, rfl, upd_same, DenL.mono (r.exG hp).g (.refl _) _ _ h⟩
theorem den_lst {K : PySem.W.Frag} {G : Hp} {L : List Addr} {M : Ms} {H : Hp} {p : Addr} {ds : List Dt} {vs : List V} (r : Rl K G L M H) (hp : H p = none) (h : DenL K G L ds vs) : Den K (upd G p (.lst vs)) L (.lst ds) (.ref p) :=
  ⟨p, vs, rfl, upd_same, DenL.mono (r.exG hp).g (.refl _) _ _ h⟩
theorem fin_loc {K : PySem.W.Frag} {G0 : Hp} {L0 : List Addr} {H0 G : Hp} {L : List Addr} {M : Ms} {H : Hp} {p : Addr} {q : DQ} {ds : List Dt} {vs : List V} (e : Ex G0 L0 H0 G L H) (r : Rl K G L M H) (hp : H p = none) (hd : DenL K G L ds vs) (h : q (.loc M.length) (M ++ [.lst ds])) : Fin K G0 L0 H0 q (.ref p) (upd H p (.lst vs)) :=
  ⟨.loc M.length, G, L ++ [p], M ++ [.lst ds], e.trans (r.exM hp), r.newM (m := .lst ds) hp ⟨vs, upd_same, DenL.mono (.refl _) ⟨[p], rfl⟩ _ _ hd⟩, ⟨p, rfl, by rw [← r.len, List.getElem?_append_right (Nat.le_refl _)]; simp⟩, h⟩
variable {es : List Expr} {t : DA}
theorem j_tup {x1} (h : JA X R es t) : JE X R (.Tuple es x1 pos) (dTup t) := .of (pe_tup h) fun σ H G L ρ M q x rl n h hx => by
  refine ⟨G, L, ρ, M, _, x, rl, n, h, hx, fun v H1 ⟨d1, G1, L1, M1, e1, r1, n1, h1⟩ => ⟨by rw [← n1.length]; exact h1.1, fun p hp => ?_⟩⟩
  exact fin_new e1 r1 hp (den_tup r1 hp n1) h1.2
theorem j_lst (h : JA X R es t) : JE X R (.List es pos) (dLst t) := .of (pe_lst h) fun σ H G L ρ M q x rl n h hx => by
  refine ⟨G, L, ρ, M, _, x, rl, n, h, hx, fun v H1 ⟨d1, G1, L1, M1, e1, r1, n1, h1⟩ => ⟨by rw [← n1.length]; exact h1.1, fun p hp => ?_⟩⟩
  exact fin_new e1 r1 hp (den_lst r1 hp n1) h1.2
theorem j_lstM (h : JA X R es t) : JE X R (.List es pos) (dLstM t) := .of (pe_lst h) fun σ H G L ρ M q x rl n h hx => by
  refine ⟨G, L, ρ, M, _, x, rl, n, h, hx, fun v H1 ⟨d1, G1, L1, M1, e1, r1, n1, h1⟩ => ⟨by rw [← n1.length]; exact h1.1, fun p hp => ?_⟩⟩
  exact fin_loc e1 r1 hp n1 h1.2
def tstD (t : DE) : DT := fun ρ M q x => t ρ M (fun d M1 => match d with
  | .bl b => q b M1
  | _ => False) x
def orT (t u : DT) : DT := fun ρ M q x => t ρ M (fun c M1 => (c = true → q true M1) ∧ (c = false → u ρ M1 q x)) x
def notT (t : DT) : DT := fun ρ M q x => t ρ M (fun c M1 => q (!c) M1) x
theorem tst_rd {K : PySem.W.Frag} {t : DE} {σ : St} {H G : Hp} {L : List Addr} {ρ : En} {M : Ms} {q : Bool → Ms → Prop} {x : DX} (rl : Rl K G L M H) (n : EnD K G L ρ σ) (h : tstD t ρ M q x) (hx : XOk K G L H R x) : tB (lowE K R t) σ H (FinT K G L H q) := by
  refine ⟨G, L, ρ, M, _, x, rl, n, h, hx, fun v H1 ⟨d1, G1, L1, M1, e1, r1, n1, h1⟩ => ?_⟩
  (try dsimp only at h1)
  split at h1
  · rename_i b
    exact ⟨b, n1, G1, L1, M1, e1, r1, h1⟩
  · exact h1.elim
theorem jt_val {e : Expr} {t : DE} (h : JE X R e t) (he : ∀ whole, isTrue e X.env whole = (do let v ← whole; standAt e.pos; holding [v] (truthy v)) := by intro _; rfl) : JT X R e (tstD t) :=
  .of (pt_val h he) fun σ H G L ρ M q x rl n h hx => tst_rd rl n h hx
theorem jt_cmp {op : CmpOp} {r : R2} {f : Dt → Dt → Ms → DQ → Prop} (ho : OpR X (compareOp op) r) (od : OpD X.K r f) (ja : JE X R a ta) (jb : JE X R b tb) (hm : behindInMarks op b = false) : JT X R (.Compare a [op] [b] pos) (tstD (dOp f ta tb)) :=
  .of (pt_cmpR ho ja jb hm) fun σ H G L ρ M q x rl n h hx => by
    have h : dOp f ta tb ρ M (fun d M1 => match d with | .bl b => q b M1 | _ => False) x := h
    refine ⟨G, L, ρ, M, _, x, rl, n, h, hx, fun v H1 ⟨d1, G1, L1, M1, e1, r1, n1, h1⟩ => ?_⟩
    refine ⟨G1, L1, ρ, M1, _, x, r1, n.mono e1, h1, hx.on e1, fun v2 H2 ⟨d2, G2, L2, M2, e2, r2, n2, h2⟩ => ?_⟩
    have := od G L H G2 L2 M2 H2 v v2 d1 d2 _ (e1.trans e2) r2 (Den.mono e2.g e2.l _ _ n1) n2 h2
    have e : (fun x H' => ∃ k, x = V.bl k ∧ FinT X.K G L H q k H') = Fin X.K G L H (fun d M1 => match d with | .bl b => q b M1 | _ => False) := by
      funext y H'
      apply propext
      constructor
      · rintro ⟨k, rfl, G3, L3, M3, e3, r3, h3⟩
        exact ⟨.bl k, G3, L3, M3, e3, r3, rfl, h3⟩
      · rintro ⟨d, G3, L3, M3, e3, r3, n3, h3⟩
        split at h3
        · rename_i k
          exact ⟨k, n3, G3, L3, M3, e3, r3, h3⟩
        · exact h3.elim
    rw [e]
    exact this
theorem JW.jt {e : Expr} {t : DT} (h : JW X R e t) : JT X R e t := h _
variable {t1 t2 : DT} {rest : List Expr}
theorem jw_or1 (ha : JT X R a t1) : JW X R (.BoolOp .Or [a] pos) t1 := pw_or1 ha
theorem jw_or (ha : JT X R a t1) (hb : JW X R (.BoolOp .Or (b :: rest) pos) t2) : JW X R (.BoolOp .Or (a :: b :: rest) pos) (orT t1 t2) := .of (pw_or ha hb) fun σ H G L ρ M q x rl n h hx => by
  refine ⟨G, L, ρ, M, _, x, rl, n, h, hx, fun c H1 ⟨G1, L1, M1, e1, r1, h1⟩ => ?_⟩
  cases c with
  | true => exact iteT ⟨G1, L1, M1, e1, r1, h1.1 rfl⟩
  | false => exact iteF ⟨G1, L1, ρ, M1, _, x, r1, n.mono e1, h1.2 rfl, hx.on e1, fun b H2 f => FinT.back e1 f⟩
theorem jt_not (ha : JT X R a t1) : JT X R (.UnaryOp .Not a pos) (notT t1) := .of (pt_not ha) fun σ H G L ρ M q x rl n h hx =>
  ⟨G, L, ρ, M, _, x, rl, n, h, hx, fun _ _ ⟨G, L, M, e, r, h⟩ => ⟨G, L, M, e, r, h⟩⟩
def dAnd (t u : DE) : DE := fun ρ M q x => t ρ M (fun d M1 => match d with
  | .bl c => (c = true → u ρ M1 q x) ∧ (c = false → q (.bl false) M1)
  | _ => False) x
def dNot (t : DE) : DE := fun ρ M q x => t ρ M (fun d M1 => match d with
  | .bl c => q (.bl (!c)) M1
  | _ => False) x
theorem je_one {op} {t : DE} (h : JE X R a t) : JE X R (.BoolOp op [a] pos) t := pe_one h
theorem je_and (ha : JE X R a ta) (hb : JE X R (.BoolOp .And (b :: rest) pos) tb) : JE X R (.BoolOp .And (a :: b :: rest) pos) (dAnd ta tb) := .of (pe_and ha hb) fun σ H G L ρ M q x rl n h hx => by
  refine ⟨G, L, ρ, M, _, x, rl, n, h, hx, fun v H1 ⟨d1, G1, L1, M1, e1, r1, n1, h1⟩ => ?_⟩
  (try dsimp only at h1)
  split at h1
  · rename_i c
    refine ⟨c, n1, ?_⟩
    cases c with
    | true => exact iteT ⟨G1, L1, ρ, M1, _, x, r1, n.mono e1, h1.1 rfl, hx.on e1, fun b H2 f => Fin.back e1 f⟩
    | false => exact iteF ⟨.bl false, G1, L1, M1, e1, r1, rfl, h1.2 rfl⟩
  · exact h1.elim
theorem je_not (ha : JE X R a ta) : JE X R (.UnaryOp .Not a pos) (dNot ta) := .of (pe_not ha) fun σ H G L ρ M q x rl n h hx => by
  refine ⟨G, L, ρ, M, _, x, rl, n, h, hx, fun v H1 ⟨d1, G1, L1, M1, e1, r1, n1, h1⟩ => ?_⟩
  (try dsimp only at h1)
  split at h1
  · rename_i c
    exact ⟨c, n1, .bl (!c), G1, L1, M1, e1, r1, rfl, h1⟩
  · exact h1.elim
end
def sNext : DS := fun Dn ρ M => Dn.nx ρ M
def sSeq (t u : DS) : DS := fun Dn ρ M => t { Dn with nx := u Dn } ρ M
def sIf (c : DT) (t u : DS) : DS := fun Dn ρ M => c ρ M (fun b M1 => (b = true → t Dn ρ M1) ∧ (b = false → u Dn ρ M1)) Dn.x
def sRet (t : DE) : DS := fun Dn ρ M => t ρ M Dn.rt Dn.x
def sSet (i : Nat) (t : DE) : DS := fun Dn ρ M => t ρ M (fun d M1 => Dn.nx (ρ.set i (some d)) M1) Dn.x
def sDrop (t : DE) : DS := fun Dn ρ M => t ρ M (fun _ M1 => Dn.nx ρ M1) Dn.x
def sCut (t : DS) : DS := fun Dn ρ M => ∃ J : En → Ms → Prop, t { Dn with nx := J } ρ M ∧ ∀ ρ' M', J ρ' M' → Dn.nx ρ' M'
section
variable {X : Cx} {R : St → XK} {st : Stmt} {rest : List Stmt} {t u : DS} {e : Expr} {te : DE} {pos : Pos}
theorem jss_nil : JSs X R [] sNext := .of pss_nil fun σ H G L ρ M Dn rl n h hx => ⟨ρ, G, L, M, .refl _ _ _, rl, n, h⟩
theorem jss_one (h1 : JS X R st t) : JSs X R [st] t := pss_one h1
theorem jss_cons (h1 : JS X R st t) (h2 : JSs X R rest u) : JSs X R (st :: rest) (sSeq t u) := .of (pss_cons h1 h2) fun σ H G L ρ M Dn rl n h hx => by
  refine ⟨G, L, ρ, M, _, rl, n, h, hx, ⟨fun σ1 H1 ⟨ρ1, G1, L1, M1, e1, r1, n1, h1⟩ => ?_, fun _ _ f => f, fun _ _ f => f, fun _ _ f => f⟩⟩
  exact ⟨G1, L1, ρ1, M1, Dn, r1, n1, h1, hx.on e1, FinS.back e1⟩
theorem js_continue : JS X R (.Continue pos) (fun Dn ρ M => Dn.ct ρ M) := .of ps_continue fun σ H G L ρ M Dn rl n h hx => ⟨ρ, G, L, M, .refl _ _ _, rl, n, h⟩
theorem js_ret (he : JE X R e te) : JS X R (.Return (some e) pos) (sRet te) := .of (ps_ret he) fun σ H G L ρ M Dn rl n h hx => ⟨G, L, ρ, M, _, _, rl, n, h, hx, fun _ _ f => f⟩
theorem js_expr (he : JE X R e te) (hs : swapsWith e none pos.line X.env = pure false := by rfl) : JS X R (.Expr e pos) (sDrop te) := .of (ps_expr he hs) fun σ H G L ρ M Dn rl n h hx => by
  refine ⟨G, L, ρ, M, _, _, rl, n, h, hx, fun v H1 ⟨d1, G1, L1, M1, e1, r1, n1, h1⟩ => ⟨ρ, G1, L1, M1, e1, r1, n.mono e1, h1⟩⟩
theorem js_if {c : Expr} {a b : List Stmt} {tc : DT} (hc : JT X R c tc) (ha : JSs X R a t) (hb : JSs X R b u) : JS X R (.If c a b pos) (sIf tc t u) := .of (ps_if hc ha hb) fun σ H G L ρ M Dn rl n h hx => by
  refine ⟨G, L, ρ, M, _, _, rl, n, h, hx, fun c H1 ⟨G1, L1, M1, e1, r1, h1⟩ => ?_⟩
  cases c with
  | true => exact iteT ⟨G1, L1, ρ, M1, Dn, r1, n.mono e1, h1.1 rfl, hx.on e1, FinS.back e1⟩
  | false => exact iteF ⟨G1, L1, ρ, M1, Dn, r1, n.mono e1, h1.2 rfl, hx.on e1, FinS.back e1⟩
theorem js_set {i : Nat} {x : Str} {pos' : Pos} (hN : X.N.Nodup) (hi : X.N[i]? = some x) (hx : Loc X.env.scope x) (he : JE X R e te) (hs : swapsWith e (some (.Name x pos')) pos.line X.env = pure false := by rfl) (hf : X.fn x = true ∨ X.env.scope.names.lookup x = some .local := by first | exact .inl rfl | exact .inr rfl | assumption) :
    JS X R (.Assign [.Name x pos'] e pos) (sSet i te) := .of (ps_set hN hi hx he hs hf) fun σ H G L ρ M Dn rl n h hx => by
  refine ⟨G, L, ρ, M, _, _, rl, n, h, hx, fun v H1 ⟨d1, G1, L1, M1, e1, r1, n1, h1⟩ => ⟨_, G1, L1, M1, e1, r1, (n.mono e1).set i n1, h1⟩⟩
theorem js_cut (h : JS X R st t) : JS X R st (sCut t) := .of h fun σ H G L ρ M Dn rl n h hx => by
  obtain ⟨J, h1, h2⟩ := h
  refine ⟨G, L, ρ, M, _, rl, n, h1, hx, ⟨fun σ1 H1 ⟨ρ1, G1, L1, M1, e1, r1, n1, h1⟩ => ⟨ρ1, G1, L1, M1, e1, r1, n1, h2 _ _ h1⟩, fun _ _ f => f, fun _ _ f => f, fun _ _ f => f⟩⟩
end
end L2
set_option maxRecDepth 100000
set_option maxHeartbeats 4000000
namespace L2
open PySem PySem.Spec PyProof.Rows
abbrev DXF := Addr → List (Str × Dt) → Ms → Prop
abbrev DF := List Dt → Ms → DQ → DXF → Prop
inductive spD (K : PySem.W.Frag) (T : DF) (vs : List V) (H : Hp) (Q : VK) (E : XK) : Prop
  | mk (G : Hp) (L : List Addr) (ds : List Dt) (M : Ms) (q : DQ) (x : DXF) (r : Rl K G L M H) (n : DenL K G L ds vs) (h : T ds M q x) (hQ : ∀ v H1, Fin K G L H q v H1 → Q v H1) (hE : ∀ C fs M1 G1 L1 H1 od, x C fs M1 → Ex G L H G1 L1 H1 → Rl K G1 L1 M1 H1 → xRel K G1 L1 H1 fs od → E (.ref C) od H1)
def startD (N : List Str) (ds : List Dt) : En := ds.map some ++ List.replicate (N.length - ds.length) none
theorem start_en {K : PySem.W.Frag} {G : Hp} {L : List Addr} {N : List Str} {ds : List Dt} {vs : List V} (h : DenL K G L ds vs) : EnD K G L (startD N ds) (start N vs) := by
  have hl := h.length
  refine ⟨by unfold startD start; simp [hl], fun i d e => ?_⟩
  unfold startD at e
  unfold start
  by_cases hi : i < ds.length
  · rw [List.getElem?_append_left (by simpa using hi), List.getElem?_map] at e
    rw [List.getElem?_append_left (by simpa [← hl] using hi), List.getElem?_map]
    cases q : ds[i]? with
    | none => rw [q] at e; cases e
    | some d' =>
      rw [q] at e
      cases e
      obtain ⟨v, e1, h1⟩ := h.get q
      exact ⟨v, by rw [e1]; rfl, h1⟩
  · rw [List.getElem?_append_right (by simpa using Nat.le_of_not_lt hi), List.getElem?_replicate] at e
    split at e <;> cases e
section
variable {P : Program} {w : World} {K : PySem.W.Frag} {mg : Str → Option Value} {base : Heap}
theorem Fun.okD {x qual : Str} {st : Stmt} {f : Addr} {fd : FuncData} {N ps : List Str} {k : Nat} {T : DF} (F : Fun K x qual st f fd) (S : FnScope N ps (defScope st)) (len : ∀ ds M q x, T ds M q x → ds.length = ps.length)
    (hbody : ∀ (cdv : Value) (A : Around) (outer : List Env) (s : Shared) (H : Hp) (E : XK), Room k (A.deeper (envOfC qual (defScope st) s.heap.objs.size f cdv)) →
      ∃ t, JSs (cxOf (CX1 P w) P w K mg base N qual (defScope st) f cdv A outer s H E) (fun _ => E) (defBody st) t ∧ ∀ ds M q x, T ds M q x → t { nx := fun _ M' => q .non M', rt := q, x := fun _ => x } (startD N ds) M) :
    FnOk P w K mg base (CX1 P w) (k + 1) f fd ps (spD K T) := by
  refine F.okX S (fun vs H Q E h => ?_) (fun cdv A outer s H vs Q E hr h => ?_)
  · obtain ⟨G, L, ds, M, q, x, rl, n, hT, _⟩ := h
    rw [← n.length]; exact len _ _ _ _ hT
  · obtain ⟨t, j, ht⟩ := hbody cdv A outer s H E hr
    obtain ⟨G, L, ds, M, q, x, rl, n, hT, hQ, hE⟩ := h
    refine ⟨_, j, G, L, startD N ds, M, _, rl, start_en n, ht ds M q x hT, fun σ ρ C fs M' G' L' H' od hx e r _ y => hE C fs M' G' L' H' od hx e r y, ⟨fun σ' H' ⟨ρ', G', L', M', e, r, _, h⟩ => hQ _ _ ⟨.non, G', L', M', e, r, rfl, h⟩, fun v H' f => hQ v H' f, fun _ _ ⟨_, _, _, _, _, _, _, h⟩ => h.elim, fun _ _ ⟨_, _, _, _, _, _, _, h⟩ => h.elim⟩⟩
structure CalD (P : Program) (w : World) (K : PySem.W.Frag) (mg : Str → Option Value) (base : Heap) (k : Nat) (x : Str) (ps : List Str) (T : DF) (f : Addr) (fd : FuncData) : Prop where
  ok : FnOk P w K mg base (CX1 P w) k f fd ps (spD K T)
  b : Binds K fd ps []
  m : mg x = some (.ref f)
  kp : PySem.W.keepIn K (.ref f) = true
end
def dCall (T : DF) (t : DA) : DE := fun ρ M q x => t ρ M (fun ds M1 => T ds M1 q (fun C fs M' => x ρ C fs M')) x
section
variable {X : Cx} {R : St → XK} {T : DF} {k k' : Nat} {f : Addr} {fd : FuncData} {ps : List Str} {x : Str} {p pos : Pos} {e : Expr} {es : List Expr} {t : DA}
theorem j_fn (C : CalD X.prog X.w X.K X.mg X.base k x ps T f fd) (hr : Room k' X.A) (hx : PassesR (CX1 X.prog X.w) X R) (ha : JA X R (e :: es) t) (hk : k ≤ k' := by decide) (hg : Gl X x := by rfl) (hdb : (x == ("__debug__" : Str)) = false := by decide)
    (he : starEach (e :: es) X.env = (false, eval e X.env) :: starEach es X.env := by rfl) (hpl : (backTo pos (starEach es X.env)).any (·.1) = false := by rfl) : JE X R (.Call (.Name x p) (e :: es) [] pos) (dCall T t) :=
  .of (pe_callR C.ok (hr.mono hk) hg C.m C.kp C.b .nil hx ha hdb he hpl) fun σ H G L ρ M q x rl n h hx => by
    refine ⟨G, L, ρ, M, _, x, rl, n, h, hx, fun vs H1 ⟨ds, G1, L1, M1, e1, r1, n1, h1⟩ => ?_⟩
    show spD X.K T (vs ++ []) H1 _ _
    rw [List.append_nil]
    exact ⟨G1, L1, ds, M1, q, _, r1, n1, h1, fun v H' f => Fin.back e1 f, fun C fs M' G' L' H' od hq e' r' y => hx σ ρ C fs M' G' L' H' od hq (e1.trans e') r' (n.mono (e1.trans e')) y⟩
end
def sRaise (C : Addr) (t : DA) : DS := fun Dn ρ M => t ρ M (fun ds M1 => ds.length ≤ sizeLine ∧ Dn.x ρ C [] M1) Dn.x
section
variable {X : Cx} {R : St → XK} {C : Addr} {t : DA} {Bn newId initId : String} {bmB : List Value} {x : Str} {np cpos pos : Pos} {e : Expr} {es : List Expr}
theorem js_raise (hR : Raises X R) (F : ExcBaseFacts Bn newId initId bmB) (c : ExcCls X.K C bmB newId) (hm : X.mg x = some (.ref C)) (ha : JA X R (e :: es) t) (hc : X.calm = true := by rfl) (hex : X.ex = [] := by rfl) (hg : Gl X x := by rfl)
    (hdb : (x == ("__debug__" : Str)) = false := by decide) (he : starEach (e :: es) X.env = (false, eval e X.env) :: starEach es X.env := by rfl) (hpl : (backTo cpos (starEach es X.env)).any (·.1) = false := by rfl) :
    JS X R (.Raise (some (.Call (.Name x np) (e :: es) [] cpos)) none pos) (sRaise C t) := .of (ps_raise hR hc hex F c hg hm ha hdb he hpl) fun σ H G L ρ M Dn rl n h hx => by
  refine ⟨G, L, ρ, M, _, _, rl, n, h, hx, fun vs H1 ⟨ds, G1, L1, M1, e1, r1, n1, h1⟩ => ⟨by rw [← n1.length]; exact h1.1, ?_⟩⟩
  exact hx σ ρ C [] M1 G1 L1 H1 none h1.2 e1 r1 (n.mono e1) (.inl ⟨rfl, rfl⟩)
end
structure Yl (K : PySem.W.Frag) (J : It) (xs : List Dt) (G0 : Hp) (L0 : List Addr) : Prop where
  go : ∀ (i : Nat) G L M H (d : Dt), Same G0 G → Pre L0 L → Rl K G L M H → xs[i]? = some d → J.go i H ∧ ∀ v H', J.yld i H v H' → ∃ G', Ex G L H G' L H' ∧ Rl K G' L M H' ∧ Den K G' L d v
  stop : ∀ (i : Nat) G L M H, Same G0 G → Pre L0 L → Rl K G L M H → xs.length ≤ i → J.stop i H
inductive FinJ (K : PySem.W.Frag) (G0 : Hp) (L0 : List Addr) (H0 : Hp) (q : List Dt → Ms → Prop) (J : It) (H : Hp) : Prop
  | mk (xs : List Dt) (G : Hp) (L : List Addr) (M : Ms) (e : Ex G0 L0 H0 G L H) (r : Rl K G L M H) (y : Yl K J xs G L) (h : q xs M)
inductive lowI (K : PySem.W.Frag) (R : St → XK) (t : DA) (σ : St) (H : Hp) (Q : It → Hp → Prop) : Prop
  | mk (G : Hp) (L : List Addr) (ρ : En) (M : Ms) (q : List Dt → Ms → Prop) (x : DX) (r : Rl K G L M H) (n : EnD K G L ρ σ) (h : t ρ M q x) (hx : XOk K G L H R x) (hQ : ∀ J H1, FinJ K G L H q J H1 → Q J H1)
def JI (X : Cx) (R : St → XK) (tg iter : Expr) (t : DA) : Prop := PI X tg iter (lowI X.K R t)
theorem PIE.imp {X : Cx} {pins : List (Addr × Obj)} {σ : St} {tg : Expr} {R R' : It → Hp → Prop} (hR : ∀ J H, R J H → R' J H) {v : Value} {s : Shared} (h : PIE X pins σ tg R v s) : PIE X pins σ tg R' v s := by
  obtain ⟨it, fp, tn, J, H', a, b, c, d, e, f⟩ := h
  exact ⟨it, fp, tn, J, H', a, b, c, d, e, hR J H' f⟩
theorem yl_list {K : PySem.W.Frag} {G : Hp} {L : List Addr} {a : Addr} {ds : List Dt} {vs : List V} (h : ∀ G' : Hp, Same G G' → SqL K G' a vs) (n : DenL K G L ds vs) : Yl K (Itl K a) ds G L where
  go := fun i G1 L1 M1 H1 d g l r e => by
    obtain ⟨v, e1, n1⟩ := n.get e
    have hs := h H1 (g.trans r.sub)
    exact ⟨⟨vs, v, hs, e1⟩, fun v' H' ⟨eH, y⟩ => by
      subst eH
      have e2 := y vs hs
      rw [e1] at e2; cases e2
      exact ⟨G1, .refl _ _ _, r, Den.mono g l _ _ n1⟩⟩
  stop := fun i G1 L1 M1 H1 g l r e => ⟨vs, h H1 (g.trans r.sub), by rw [← n.length]; exact e⟩
theorem yl_tup {K : PySem.W.Frag} {G : Hp} {L : List Addr} {a : Addr} {ds : List Dt} {vs : List V} (h : ∀ G' : Hp, Same G G' → SqT K G' a vs) (n : DenL K G L ds vs) : Yl K (Itt K a) ds G L where
  go := fun i G1 L1 M1 H1 d g l r e => by
    obtain ⟨v, e1, n1⟩ := n.get e
    have hs := h H1 (g.trans r.sub)
    exact ⟨⟨vs, v, hs, e1⟩, fun v' H' ⟨eH, y⟩ => by
      subst eH
      have e2 := y vs hs
      rw [e1] at e2; cases e2
      exact ⟨G1, .refl _ _ _, r, Den.mono g l _ _ n1⟩⟩
  stop := fun i G1 L1 M1 H1 g l r e => ⟨vs, h H1 (g.trans r.sub), by rw [← n.length]; exact e⟩
def rngD (lo : Int) (n : Nat) : List Dt := (List.range n).map fun k : Nat => Dt.int (lo + (k : Int))
theorem yl_rng {K : PySem.W.Frag} {G : Hp} {L : List Addr} {lo : Int} {n : Nat} : Yl K (Itr lo n) (rngD lo n) G L where
  go := fun i G1 L1 M1 H1 d g l r e => by
    unfold rngD at e
    rw [List.getElem?_map] at e
    have hi : i < n := by
      cases q : (List.range n)[i]? with
      | none => rw [q] at e; cases e
      | some j =>
        have := (List.getElem?_eq_some_iff.mp q).1
        rwa [List.length_range] at this
    rw [List.getElem?_range hi] at e
    cases e
    exact ⟨hi, fun v' H' ⟨eH, y⟩ => by subst eH y; exact ⟨G1, .refl _ _ _, r, rfl⟩⟩
  stop := fun i G1 L1 M1 H1 g l r e => by show n ≤ i; unfold rngD at e; simpa using e
section
variable {X : Cx} {R : St → XK} {tg iter : Expr}
theorem JI.of {wi : TI} {t : DA} (h : PI X tg iter wi) (hw : ∀ σ H G L ρ M q x, Rl X.K G L M H → EnD X.K G L ρ σ → t ρ M q x → XOk X.K G L H R x → wi σ H (FinJ X.K G L H q)) : JI X R tg iter t := by
  intro pins s σ H Q I ⟨G, L, ρ, M, q, x, r, n, ht, hx, hQ⟩
  exact thn (h pins s σ H _ I (hw σ H G L ρ M q x r n ht hx)) fun u s1 f => thn f fun u2 s2 f2 => PIE.imp hQ f2
def iRng (t : DA) : DA := fun ρ M q x => t ρ M (fun ds M1 => match ds with
  | [.int j] => (-(2 ^ 62) ≤ j ∧ j < 2 ^ 62) ∧ q (rngD 0 j.toNat) M1
  | _ => False) x
theorem ji_range {a : Expr} {t : DA} {p pos : Pos} (hm : X.mg "range" = none) (ha : JA X R [a] t) (hg : Gl X "range" := by rfl) (hs : starEach [a] X.env = [(false, eval a X.env)] := by rfl) : JI X R tg (.Call (.Name "range" p) [a] [] pos) (iRng t) :=
  .of (pi_range1 hg hm ha hs) fun σ H G L ρ M q x rl n h hx => by
    refine ⟨G, L, ρ, M, _, x, rl, n, h, hx, fun vs H1 ⟨ds, G1, L1, M1, e1, r1, n1, h1⟩ => ?_⟩
    (try dsimp only at h1)
    split at h1
    · rename_i j
      obtain ⟨v, rfl, n2⟩ := denL_one n1
      have n2 : v = .int j := n2
      subst n2
      exact ⟨j, rfl, h1.1.1, h1.1.2, _, G1, L1, M1, e1, r1, yl_rng, h1.2⟩
    · exact h1.elim
def iRng2D (t : DA) : DA := fun ρ M q x => t ρ M (fun ds M1 => match ds with
  | [.int i, .int j] => (-(2 ^ 62) ≤ i ∧ i < 2 ^ 62 ∧ -(2 ^ 62) ≤ j ∧ j < 2 ^ 62) ∧ q (rngD i (j - i).toNat) M1
  | _ => False) x
theorem ji_range2 {a b : Expr} {t : DA} {p pos : Pos} (hm : X.mg "range" = none) (ha : JA X R [a, b] t) (hg : Gl X "range" := by rfl) (hs : starEach [a, b] X.env = [(false, eval a X.env), (false, eval b X.env)] := by rfl) (hs2 : starEach [b] X.env = [(false, eval b X.env)] := by rfl) :
    JI X R tg (.Call (.Name "range" p) [a, b] [] pos) (iRng2D t) :=
  .of (pi_range2 hg hm ha hs hs2) fun σ H G L ρ M q x rl n h hx => by
    refine ⟨G, L, ρ, M, _, x, rl, n, h, hx, fun vs H1 ⟨ds, G1, L1, M1, e1, r1, n1, h1⟩ => ?_⟩
    (try dsimp only at h1)
    split at h1
    · rename_i i j
      obtain ⟨v, u, rfl, n3, n2⟩ := denL_two n1
      have n3 : v = .int i := n3
      have n2 : u = .int j := n2
      subst n3 n2
      exact ⟨i, j, rfl, h1.1, _, G1, L1, M1, e1, r1, yl_rng, h1.2⟩
    · exact h1.elim
end
def GD (K : PySem.W.Frag) (gg : TG) (g : Dt → En → (En → Prop) → Prop) : Prop :=
  ∀ G L M H d v ρ σ (k : En → Prop) (Q : St → Hp → Prop), Rl K G L M H → Den K G L d v → EnD K G L ρ σ → g d ρ k → (∀ ρ' σ', EnD K G L ρ' σ' → k ρ' → Q σ' H) → gg v σ H Q
def gN (i : Nat) : Dt → En → (En → Prop) → Prop := fun d ρ k => k (ρ.set i (some d))
theorem gd_name {K : PySem.W.Frag} {i : Nat} : GD K (gName i) (gN i) := fun G L M H d v ρ σ k Q rl n en h hQ => hQ _ _ (en.set i n) h
def g2 (i j : Nat) : Dt → En → (En → Prop) → Prop := fun d ρ k => match d with
  | .tup [a, b] => k ((ρ.set i (some a)).set j (some b))
  | _ => False
theorem gd_two {K : PySem.W.Frag} {i j : Nat} : GD K (gTup K 2 (gCons (gName i) (gCons (gName j) gNil))) (g2 i j) := fun G L M H d v ρ σ k Q rl n en h hQ => by
  unfold g2 at h
  split at h
  · rename_i a b
    obtain ⟨p, vs, rfl, e, n⟩ := n
    obtain ⟨v1, v2, rfl, n1, n2⟩ := denL_two n
    exact ⟨p, _, rfl, .inl (.inl (rl.sub _ _ e)), rfl, v1, _, rfl, v2, _, rfl, rfl, hQ _ _ ((en.set i n1).set j n2) h⟩
  · exact h.elim
def forD (g : Dt → En → (En → Prop) → Prop) (tb : DS) (Dn : DEnds) : List Dt → En → Ms → Prop
  | [], ρ, M => Dn.nx ρ M
  | x :: xs, ρ, M => g x ρ fun ρ' => tb { Dn with nx := forD g tb Dn xs, ct := forD g tb Dn xs, bk := Dn.nx } ρ' M
def sFor (ti : DA) (g : Dt → En → (En → Prop) → Prop) (tb : DS) : DS := fun Dn ρ M => ti ρ M (fun xs M1 => forD g tb Dn xs ρ M1) Dn.x
section
variable {X : Cx} {R : St → XK} {tg iter : Expr} {body : List Stmt} {ti : DA} {gg : TG} {g : Dt → En → (En → Prop) → Prop} {tb : DS} {pos : Pos}
theorem js_for (hi : JI X R tg iter ti) (hg : PG X tg gg) (gd : GD X.K gg g) (hb : JSs X R body tb) (hp : PassesOwn (model X.prog X.w) X.A X.env X.xe := by first | exact PassesOwn.never | exact PassesOwn.leaving) (hc : X.calm = true := by rfl) (hs : ∀ x, foldedSetIterable iter X.env x = pure x := by intro _; rfl) :
    JS X R (.For tg iter body [] pos) (sFor ti g tb) := .of (ps_for hp hc hi hg hb hs) fun σ H G L ρ M Dn rl n h hx => by
  refine ⟨G, L, ρ, M, _, _, rl, n, h, hx, fun J H1 ⟨xs, G1, L1, M1, e1, r1, y, h1⟩ => ?_⟩
  refine ⟨fun i m σ' H' => m + i = xs.length ∧ FinN X.K G1 L1 H1 (fun ρ' M' => forD g tb Dn (xs.drop i) ρ' M') σ' H', ⟨xs.length, rfl, ρ, G1, L1, M1, .refl _ _ _, r1, n.mono e1, by rw [List.drop_zero]; exact h1⟩, ?_⟩
  rintro i m σ' H' ⟨hm, ρ', G', L', M', e', r', n', h'⟩
  by_cases hi : i < xs.length
  · right
    have hd : xs[i]? = some xs[i] := List.getElem?_eq_getElem hi
    obtain ⟨go, yl⟩ := y.go i G' L' M' H' _ e'.g e'.l r' hd
    rw [List.drop_eq_getElem_cons hi] at h'
    refine ⟨go, FinN X.K G1 L1 H1 (fun ρ' M' => forD g tb Dn (xs.drop (i + 1)) ρ' M'), fun σ2 H2 f => ⟨m - 1, by omega, by omega, f⟩, fun v H2 hy => ?_⟩
    obtain ⟨G2, e2, r2, n2⟩ := yl v H2 hy
    refine gd G2 L' M' H2 _ v ρ' σ' _ _ r2 n2 (n'.mono e2) h' fun ρ3 σ3 n3 h3 => ?_
    refine ⟨G2, L', ρ3, M', _, r2, n3, h3, hx.on (e1.trans (e'.trans e2)), ⟨fun _ _ f => FinN.back (e'.trans e2) f, fun _ _ f => Fin.back (e1.trans (e'.trans e2)) f, fun _ _ f => FinN.back (e1.trans (e'.trans e2)) f, fun _ _ f => FinN.back (e'.trans e2) f⟩⟩
  · left
    refine ⟨y.stop i G' L' M' H' e'.g e'.l r' (by omega), ρ', G', L', M', e1.trans e', r', n', ?_⟩
    rw [List.drop_eq_nil_of_le (by omega)] at h'
    exact h'
end
def capD (caps : List Nat) (ρ : En) : En := caps.map fun i => (ρ[i]?).join
theorem cap_en {K : PySem.W.Frag} {G : Hp} {L : List Addr} {ρ : En} {σ : St} (h : EnD K G L ρ σ) (caps : List Nat) {d : Dt} {v : V} (n : Den K G L d v) : EnD K G L (some d :: capD caps ρ) (some v :: capV caps σ) := by
  refine ⟨by unfold capD capV; simp, fun i d' e => ?_⟩
  cases i with
  | zero => cases e; exact ⟨v, rfl, n⟩
  | succ j =>
    have e : (capD caps ρ)[j]? = some (some d') := e
    show ∃ v', (capV caps σ)[j]? = some (some v') ∧ _
    unfold capD at e
    unfold capV
    rw [List.getElem?_map] at e ⊢
    cases q : caps[j]? with
    | none => rw [q] at e; cases e
    | some i =>
      rw [q] at e
      have e : (ρ[i]?).join = some d' := Option.some.inj e
      have e : ρ[i]? = some (some d') := by
        cases q2 : ρ[i]? with
        | none => rw [q2] at e; cases e
        | some o => rw [q2] at e; exact congrArg some e
      obtain ⟨v', e1, n1⟩ := h.ats i d' e
      exact ⟨v', by show some ((σ[i]?).join) = _; rw [e1]; rfl, n1⟩
def compD (te : DE) (cs : En) : List Dt → List Dt → Ms → (List Dt → Ms → Prop) → Prop
  | [], acc, M, k => k acc M
  | x :: xs, acc, M, k => te (some x :: cs) M (fun d M1 => compD te cs xs (acc ++ [d]) M1 k) noX
def dComp (ti : DA) (te : DE) (caps : List Nat) : DE := fun ρ M q x => ti ρ M (fun xs M1 => xs.length ≤ sizeLine ∧ compD te (capD caps ρ) xs [] M1 (fun ys M2 => q (.lst ys) M2)) x
theorem comp_rd {K : PySem.W.Frag} {J : It} {te : DE} {caps : List Nat} {ρ : En} {σ : St} {G1 : Hp} {L1 : List Addr} {M1 : Ms} {H1 : Hp} {xs : List Dt} {Dl : Addr} {Q : VK} {k : List Dt → Ms → Prop} (r1 : Rl K G1 L1 M1 H1) (n : EnD K G1 L1 ρ σ) (y : Yl K J xs G1 L1) (hD : H1 Dl = none) (hz : xs.length ≤ sizeLine)
    (h : compD te (capD caps ρ) xs [] M1 k)
    (fin : ∀ G2 L2 M2 H2 ds vs, Ex G1 L1 H1 G2 L2 H2 → Rl K G2 L2 M2 H2 → G2 Dl = none → Dl ∉ L2 → H2 Dl = some (.lst vs) → DenL K G2 L2 ds vs → k ds M2 → Q (.ref Dl) H2) :
    CompR J (lowE K (fun _ => E0) te) (capV caps σ) Q H1 Dl := by
  refine ⟨fun i m ys H2 => m + i = xs.length ∧ H2 Dl = some (.lst ys) ∧ ∃ acc G2 L2 M2, Ex G1 L1 H1 G2 L2 H2 ∧ Rl K G2 L2 M2 H2 ∧ G2 Dl = none ∧ Dl ∉ L2 ∧ DenL K G2 L2 acc ys ∧ acc.length = i ∧ compD te (capD caps ρ) (xs.drop i) acc M2 k, ⟨xs.length, rfl, upd_same, [], G1, L1, M1, ?_⟩, ?_⟩
  · have gn : G1 Dl = none := r1.sub.free hD
    refine ⟨⟨.refl _, .refl _, fun _ h _ => h, fun b u h1 _ => by rw [upd_ne (fun z => by rw [z, hD] at h1; cases h1)]; exact h1, fun _ h => .inl h, fun b h => by rw [upd_ne (fun z => h (by rw [z]; exact hD))]; exact h⟩, ⟨fun b u e => by rw [upd_ne (fun z => by rw [z, gn] at e; cases e)]; exact r1.sub b u e, r1.len, r1.nd, fun i a m h1 h2 => ?_⟩, gn, r1.memN hD, rfl, rfl, by rw [List.drop_zero]; exact h⟩
    obtain ⟨q1, q2⟩ := r1.ats i a m h1 h2
    exact ⟨q1, q2.mono (.refl _) (.refl _) (upd_ne fun z => q2.there (by rw [z]; exact hD))⟩
  · rintro i m ys H2 ⟨hm, hacc, acc, G2, L2, M2, e2, r2, g2, l2, n2, la, h2⟩
    refine ⟨hacc, ?_⟩
    by_cases hi : i < xs.length
    · right
      have hd : xs[i]? = some xs[i] := List.getElem?_eq_getElem hi
      obtain ⟨go, yl⟩ := y.go i G2 L2 M2 H2 _ e2.g e2.l r2 hd
      rw [List.drop_eq_getElem_cons hi] at h2
      refine ⟨go, fun v H3 hy => ?_⟩
      obtain ⟨G3, e3, r3, n3⟩ := yl v H3 hy
      refine ⟨G3, L2, _, M2, _, noX, r3, cap_en ((n.mono e2).mono e3) caps n3, h2, xok_no, fun v4 H4 ⟨d4, G4, L4, M4, e4, r4, n4, h4⟩ => ?_⟩
      have l3 : Dl ∉ L2 := l2
      have h3 : H3 Dl = some (.lst ys) := e3.out _ _ hacc l2
      have g3 : G3 Dl = none := e3.fr _ g2 (by rw [hacc]; simp)
      have h4' : H4 Dl = some (.lst ys) := e4.out _ _ h3 l2
      have g4 : G4 Dl = none := e4.fr _ g3 (by rw [h3]; simp)
      have l4 : Dl ∉ L4 := fun z => (e4.new _ z).elim l2 fun q => by rw [h3] at q; cases q
      have e24 := e3.trans e4
      have lenys : ys.length = i := by rw [← n2.length]; exact la
      have ne1 : ∀ {b : Addr} {u : HO}, H1 b = some u → b ≠ Dl := fun e z => by rw [z, hD] at e; cases e
      refine ⟨h4', by omega, m - 1, by omega, by omega, upd_same, acc ++ [d4], G4, L4, M4, ?_, ?_, g4, l4, (DenL.mono e24.g e24.l _ _ n2).app ⟨_, _, rfl, n4, rfl⟩, by rw [List.length_append, la]; rfl, h4⟩
      · have e14 := e2.trans e24
        exact ⟨e14.g, e14.l, e14.fr, fun b u h1 h2 => by rw [upd_ne (ne1 h1)]; exact e14.out b u h1 h2, e14.new, fun b h => by
          by_cases hb : b = Dl
          · rw [hb, upd_same]; simp
          · rw [upd_ne hb]; exact e14.dom b h⟩
      · refine ⟨fun b u e => by rw [upd_ne (fun z => by rw [z, g4] at e; cases e)]; exact r4.sub b u e, r4.len, r4.nd, fun i a m h1 h2 => ?_⟩
        obtain ⟨q1, q2⟩ := r4.ats i a m h1 h2
        exact ⟨q1, q2.mono (.refl _) (.refl _) (upd_ne fun z => l4 (by rw [← z]; exact List.mem_of_getElem? h1))⟩
    · left
      rw [List.drop_eq_nil_of_le (by omega)] at h2
      exact ⟨y.stop i G2 L2 M2 H2 e2.g e2.l r2 (by omega), fin G2 L2 M2 H2 acc ys e2 r2 g2 l2 hacc n2 h2⟩
section
variable {K : PySem.W.Frag} {G1 : Hp} {L1 : List Addr} {H1 G : Hp} {L : List Addr} {M : Ms} {H : Hp} {p : Addr} {ds : List Dt} {vs : List V} {q : DQ}
theorem own_val (e : Ex G1 L1 H1 G L H) (r : Rl K G L M H) (hp1 : H1 p = none) (hg : G p = none) (hl : p ∉ L) (h : H p = some (.lst vs)) (n : DenL K G L ds vs) (k : q (.lst ds) M) : Fin K G1 L1 H1 q (.ref p) H := by
  have g1 : Same G (upd G p (.lst vs)) := fun b u e => by rw [upd_ne (fun z => by rw [z, hg] at e; cases e)]; exact e
  refine ⟨.lst ds, upd G p (.lst vs), L, M, ⟨e.g.trans g1, e.l, fun b h1 h2 => ?_, e.out, e.new, e.dom⟩, ⟨fun b u e => ?_, r.len, r.nd, fun k a m h1 h2 => ?_⟩, ⟨p, vs, rfl, upd_same, DenL.mono g1 (.refl _) _ _ n⟩, k⟩
  · rw [upd_ne (fun z => h2 (by rw [z]; exact hp1))]; exact e.fr b h1 h2
  · by_cases hb : b = p
    · rw [hb, upd_same] at e; rw [hb]; cases e; exact h
    · rw [upd_ne hb] at e; exact r.sub b u e
  · obtain ⟨q1, q2⟩ := r.ats k a m h1 h2
    have hb : a ≠ p := fun z => hl (by rw [← z]; exact List.mem_of_getElem? h1)
    exact ⟨by rw [upd_ne hb]; exact q1, q2.mono g1 (.refl _) rfl⟩
theorem own_loc (e : Ex G1 L1 H1 G L H) (r : Rl K G L M H) (hp1 : H1 p = none) (hg : G p = none) (hl : p ∉ L) (h : H p = some (.lst vs)) (n : DenL K G L ds vs) (k : q (.loc M.length) (M ++ [.lst ds])) : Fin K G1 L1 H1 q (.ref p) H := by
  refine ⟨.loc M.length, G, L ++ [p], M ++ [.lst ds], ⟨e.g, e.l.trans ⟨[p], rfl⟩, e.fr, e.out, fun b hb => ?_, e.dom⟩, ⟨r.sub, by rw [List.length_append, List.length_append, r.len]; rfl, List.nodup_append.mpr ⟨r.nd, by simp, fun a ha b hb => ?_⟩, fun k a m h1 h2 => ?_⟩, ⟨p, rfl, by rw [← r.len, List.getElem?_append_right (Nat.le_refl _)]; simp⟩, k⟩
  · rcases List.mem_append.mp hb with z | z
    · exact e.new b z
    · have e : b = p := by simpa using z
      right; rw [e]; exact hp1
  · have e : b = p := by simpa using hb
    rw [e]; exact fun z => hl (z ▸ ha)
  · by_cases hk : k < L.length
    · rw [List.getElem?_append_left hk] at h1
      rw [List.getElem?_append_left (by rw [← r.len]; exact hk)] at h2
      obtain ⟨q1, q2⟩ := r.ats k a m h1 h2
      exact ⟨q1, q2.mono (.refl _) ⟨[p], rfl⟩ rfl⟩
    · have e : k = L.length := by
        have := (List.getElem?_eq_some_iff.mp h1).1
        rw [List.length_append] at this
        simp at this
        omega
      rw [e, List.getElem?_append_right (Nat.le_refl _)] at h1
      rw [e, r.len, List.getElem?_append_right (Nat.le_refl _)] at h2
      simp at h1 h2
      subst h1 h2
      exact ⟨hg, vs, h, DenL.mono (.refl _) ⟨[p], rfl⟩ _ _ n⟩
end
section
variable {X : Cx} {R : St → XK} {elt iter : Expr} {x : Str} {px : Pos} {scope : Scope} {pos : Pos} {ti : DA} {te : DE} {ys : List Str} {caps : List Nat}
theorem j_comp (S : CompScope X scope x ys caps) (hi : JI X R (.Name x px) iter ti) (he : ∀ C s H fp, JE (Cx.comp X (x :: ys) scope C s H fp) (fun _ => E0) elt te) (hc : X.calm = true := by rfl) (hs : ∀ x, foldedSetIterable iter X.env x = pure x := by intro _; rfl) :
    JE X R (.ListComp elt [⟨.Name x px, iter, [], 0⟩] scope pos) (dComp ti te caps) := .of (pe_comp (wi := lowI X.K R ti) (te := lowE X.K (fun _ => E0) te) S hc hi he hs) fun σ H G L ρ M q x rl n h hx => by
  refine ⟨G, L, ρ, M, _, x, rl, n, h, hx, fun J H1 ⟨xs, G1, L1, M1, e1, r1, y, hz, h1⟩ D hD => ?_⟩
  exact comp_rd r1 (n.mono e1) y hD hz h1 fun G2 L2 M2 H2 ds vs e2 r2 g2 l2 h2 n2 k => Fin.back e1 (own_val e2 r2 hD g2 l2 h2 n2 k)
end
end L2
set_option maxRecDepth 100000
set_option maxHeartbeats 4000000
namespace L2
open PySem PySem.Spec PyProof.Rows
theorem fin_same {K : PySem.W.Frag} {G0 : Hp} {L0 : List Addr} {H0 G : Hp} {L : List Addr} {M : Ms} {H : Hp} {d : Dt} {v : V} {q : DQ} (e : Ex G0 L0 H0 G L H) (r : Rl K G L M H) (n : Den K G L d v) (h : q d M) : Fin K G0 L0 H0 q v H := ⟨d, G, L, M, e, r, n, h⟩
theorem fin_v {K : PySem.W.Frag} {G0 : Hp} {L0 : List Addr} {H0 G : Hp} {L : List Addr} {M : Ms} {H : Hp} {d : Dt} {v : V} {q : DQ} (e : Ex G0 L0 H0 G L H) (r : Rl K G L M H) (h : q d M) (n : Den K G L d v := by rfl) : Fin K G0 L0 H0 q v H := ⟨d, G, L, M, e, r, n, h⟩
def fAdd : Dt → Dt → Ms → DQ → Prop
  | .int i, .int j, M, q => q (.int (i + j)) M
  | .str a, .str b, M, q => a.length + b.length ≤ sizeLine ∧ q (.str (a ++ b)) M
  | .lst a, .lst b, M, q => a.length + b.length ≤ sizeLine ∧ q (.lst (a ++ b)) M
  | .tup a, .tup b, M, q => (a ≠ [] ∧ a.length + b.length ≤ sizeLine) ∧ q (.tup (a ++ b)) M
  | _, _, _, _ => False
def fSub : Dt → Dt → Ms → DQ → Prop
  | .int i, .int j, M, q => q (.int (i - j)) M
  | _, _, _, _ => False
def fMul : Dt → Dt → Ms → DQ → Prop
  | .int i, .int j, M, q => (Big i ∧ Big j) ∧ q (.int (i * j)) M
  | .lst a, .int k, M, q => (-(2 ^ 63) ≤ k ∧ k < 2 ^ 63 ∧ a.length * k.toNat ≤ sizeLine) ∧ q (.lst (List.replicate k.toNat a).flatten) M
  | _, _, _, _ => False
def fDiv : Dt → Dt → Ms → DQ → Prop
  | .int i, .int j, M, q => (0 < j ∧ Big j) ∧ q (.int (i / j)) M
  | _, _, _, _ => False
def fDivN : Dt → Dt → Ms → DQ → Prop
  | .int i, .int j, M, q => (j ≠ 0 ∧ Big j) ∧ q (.int (i.fdiv j)) M
  | _, _, _, _ => False
def fMod : Dt → Dt → Ms → DQ → Prop
  | .int i, .int j, M, q => 0 < j ∧ q (.int (i % j)) M
  | _, _, _, _ => False
def fPow : Dt → Dt → Ms → DQ → Prop
  | .int i, .int j, M, q => CPow i j ∧ q (.int (i ^ j.toNat)) M
  | _, _, _, _ => False
def fNeg : Dt → Ms → DQ → Prop
  | .int i, M, q => q (.int (-i)) M
  | _, _, _ => False
section
variable {K : PySem.W.Frag}
theorem catD : OpD K (fun x y H Q => (∃ i j, x = V.int i ∧ y = .int j ∧ Q (.int (i + j)) H) ∨ (∃ i j, x = V.str i ∧ y = .str j ∧ i.length + j.length ≤ sizeLine ∧ Q (.str (i ++ j)) H) ∨ rCat x y H Q ∨ rCatT K x y H Q) fAdd := by
  intro G0 L0 H0 G L M H v1 v2 d1 d2 q e r n1 n2 h
  unfold fAdd at h
  split at h
  · rename_i i j
    exact .inl ⟨i, j, n1, n2, fin_v e r h⟩
  · rename_i a b
    exact .inr (.inl ⟨a, b, n1, n2, h.1, fin_v e r h.2⟩)
  · rename_i a b
    obtain ⟨p1, w1, rfl, e1, m1⟩ := n1
    obtain ⟨p2, w2, rfl, e2, m2⟩ := n2
    refine .inr (.inr (.inl ⟨p1, p2, w1, w2, rfl, rfl, r.sub _ _ e1, r.sub _ _ e2, by rw [← m1.length, ← m2.length]; exact h.1, fun p hp => ?_⟩))
    exact fin_new e r hp (den_lst r hp (m1.app m2)) h.2
  · rename_i a b
    obtain ⟨p1, w1, rfl, e1, m1⟩ := n1
    obtain ⟨p2, w2, rfl, e2, m2⟩ := n2
    have ne : w1 ≠ [] := fun z => h.1.1 (by have := m1.length; rw [z] at this; exact List.eq_nil_of_length_eq_zero this)
    refine .inr (.inr (.inr ⟨p1, p2, w1, w2, rfl, rfl, .inl (.inl (r.sub _ _ e1)), .inl (.inl (r.sub _ _ e2)), ne, by rw [← m1.length, ← m2.length]; exact h.1.2, fun z => ?_, fun _ p hp => ?_⟩))
    · have hb : b = [] := by have := m2.length; rw [z] at this; exact List.eq_nil_of_length_eq_zero this
      subst hb
      rw [List.append_nil] at h
      exact fin_same (d := .tup a) e r ⟨p1, w1, rfl, e1, m1⟩ h.2
    · exact fin_new e r hp (den_tup r hp (m1.app m2)) h.2
  · exact h.elim
theorem subD : OpD K (rI0 fun i j => .int (i - j)) fSub := by
  intro G0 L0 H0 G L M H v1 v2 d1 d2 q e r n1 n2 h
  unfold fSub at h
  split at h
  · exact ⟨_, _, n1, n2, fin_v e r h⟩
  · exact h.elim
theorem mulD : OpD K (fun x y H Q => (rI (fun i j => Big i ∧ Big j) fun i j => .int (i * j)) x y H Q ∨ rRep x y H Q) fMul := by
  intro G0 L0 H0 G L M H v1 v2 d1 d2 q e r n1 n2 h
  unfold fMul at h
  split at h
  · exact .inl ⟨_, _, n1, n2, h.1, fin_v e r h.2⟩
  · rename_i a k
    obtain ⟨p1, w1, rfl, e1, m1⟩ := n1
    refine .inr ⟨p1, k, w1, rfl, n2, r.sub _ _ e1, h.1.1, h.1.2.1, by rw [← m1.length]; exact h.1.2.2, fun p hp => ?_⟩
    exact fin_new e r hp (den_lst r hp (.of (prd_rep m1.pair k.toNat))) h.2
  · exact h.elim
theorem divD : OpD K (rI (fun _ j => j ≠ 0 ∧ Big j) fun i j => .int (i.fdiv j)) fDiv := by
  intro G0 L0 H0 G L M H v1 v2 d1 d2 q e r n1 n2 h
  unfold fDiv at h
  split at h
  · rename_i i j
    have h0 := h.1.1
    refine ⟨_, _, n1, n2, ⟨by omega, h.1.2⟩, fin_same (d := .int (i.fdiv j)) e r rfl ?_⟩
    rw [Int.fdiv_eq_ediv_of_nonneg i (Int.le_of_lt h0)]
    exact h.2
  · exact h.elim
theorem divND : OpD K (rI (fun _ j => j ≠ 0 ∧ Big j) fun i j => .int (i.fdiv j)) fDivN := by
  intro G0 L0 H0 G L M H v1 v2 d1 d2 q e r n1 n2 h
  unfold fDivN at h
  split at h
  · exact ⟨_, _, n1, n2, h.1, fin_v e r h.2⟩
  · exact h.elim
theorem modD : OpD K (rI (fun _ j => 0 < j) fun i j => .int (i % j)) fMod := by
  intro G0 L0 H0 G L M H v1 v2 d1 d2 q e r n1 n2 h
  unfold fMod at h
  split at h
  · exact ⟨_, _, n1, n2, h.1, fin_v e r h.2⟩
  · exact h.elim
theorem powD : OpD K (rI CPow fun i j => .int (i ^ j.toNat)) fPow := by
  intro G0 L0 H0 G L M H v1 v2 d1 d2 q e r n1 n2 h
  unfold fPow at h
  split at h
  · exact ⟨_, _, n1, n2, h.1, fin_v e r h.2⟩
  · exact h.elim
theorem negD : UnD K (rU fun i => .int (-i)) fNeg := by
  intro G0 L0 H0 G L M H v1 d1 q e r n1 h
  unfold fNeg at h
  split at h
  · exact ⟨_, n1, fin_v e r h⟩
  · exact h.elim
end
section
variable {X : Cx} {R : St → XK} {a b c : Expr} {ta tb : DE} {pos : Pos}
theorem j_add (ja : JE X R a ta) (jb : JE X R b tb) : JE X R (.BinOp a .Add b pos) (dOp fAdd ta tb) := j_op (op_add.or (op_add_str.or (op_cat.or op_catT))) catD ja jb
theorem j_sub (ja : JE X R a ta) (jb : JE X R b tb) : JE X R (.BinOp a .Sub b pos) (dOp fSub ta tb) := j_op op_sub subD ja jb
theorem j_mul (ja : JE X R a ta) (jb : JE X R b tb) : JE X R (.BinOp a .Mult b pos) (dOp fMul ta tb) := j_op (op_mulB.or op_rep) mulD ja jb
theorem j_div (ja : JE X R a ta) (jb : JE X R b tb) : JE X R (.BinOp a .FloorDiv b pos) (dOp fDiv ta tb) := j_op op_fdivB divD ja jb
theorem j_divN (ja : JE X R a ta) (jb : JE X R b tb) : JE X R (.BinOp a .FloorDiv b pos) (dOp fDivN ta tb) := j_op op_fdivB divND ja jb
theorem j_mod (ja : JE X R a ta) (jb : JE X R b tb) : JE X R (.BinOp a .Mod b pos) (dOp fMod ta tb) := j_op op_mod modD ja jb
theorem j_pow (ja : JE X R a ta) (jb : JE X R b tb) : JE X R (.BinOp a .Pow b pos) (dOp fPow ta tb) := j_op op_pow powD ja jb
theorem j_neg (ja : JE X R a ta) : JE X R (.UnaryOp .USub a pos) (dUn fNeg ta) := j_un un_neg negD ja
end
def fLt : Dt → Dt → Ms → DQ → Prop
  | .int i, .int j, M, q => q (.bl (decide (i < j))) M
  | _, _, _, _ => False
def flatD : Dt → Option V
  | .non => some .non
  | .bl b => some (.bl b)
  | .int i => some (.int i)
  | .str x => some (.str x)
  | _ => none
def flatDs : List Dt → Option (List V)
  | [] => some []
  | d :: ds => match flatD d, flatDs ds with
    | some v, some vs => some (v :: vs)
    | _, _ => none
section
variable {K : PySem.W.Frag} {G : Hp} {L : List Addr}
theorem flatD_is {d : Dt} {v u : V} (h : flatD d = some u) (n : Den K G L d v) : v = u ∧ flatV u = true := by
  cases d <;> first | (cases h; exact ⟨n, rfl⟩) | cases h
theorem flatDs_is : ∀ {ds : List Dt} {vs us : List V}, flatDs ds = some us → DenL K G L ds vs → vs = us ∧ us.all flatV = true
  | [], vs, us, h, n => by
    cases h
    exact ⟨n, rfl⟩
  | d :: ds, _, us, h, ⟨v, r, e, n1, n2⟩ => by
    subst e
    unfold flatDs at h
    split at h
    · rename_i u1 u2 h1 h2
      cases h
      obtain ⟨a1, a2⟩ := flatD_is h1 n1
      obtain ⟨b1, b2⟩ := flatDs_is h2 n2
      subst a1 b1
      exact ⟨rfl, by rw [List.all_cons, a2, b2]; rfl⟩
    · cases h
end
def fEqF : Dt → Dt → Ms → DQ → Prop
  | .int i, .int j, M, q => q (.bl (decide (i = j))) M
  | .str i, .str j, M, q => q (.bl (decide (i = j))) M
  | .bl i, .bl j, M, q => q (.bl (decide (i = j))) M
  | .tup a, .tup b, M, q => match flatDs a, flatDs b with
    | some us, some vs => q (.bl (eqVs us vs)) M
    | _, _ => False
  | _, _, _, _ => False
def fNeF : Dt → Dt → Ms → DQ → Prop
  | .int i, .int j, M, q => q (.bl (!decide (i = j))) M
  | .str i, .str j, M, q => q (.bl (!decide (i = j))) M
  | .bl i, .bl j, M, q => q (.bl (!decide (i = j))) M
  | .tup a, .tup b, M, q => match flatDs a, flatDs b with
    | some us, some vs => q (.bl (!eqVs us vs)) M
    | _, _ => False
  | _, _, _, _ => False
def fIsN : Dt → Dt → Ms → DQ → Prop
  | .non, .non, M, q => q (.bl true) M
  | .bl _, .non, M, q => q (.bl false) M
  | .int _, .non, M, q => q (.bl false) M
  | .str _, .non, M, q => q (.bl false) M
  | .tup _, .non, M, q => q (.bl false) M
  | .lst _, .non, M, q => q (.bl false) M
  | _, _, _, _ => False
section
variable {K : PySem.W.Frag}
theorem ltD : OpD K (rI0 fun i j => .bl (decide (i < j))) fLt := by
  intro G0 L0 H0 G L M H v1 v2 d1 d2 q e r n1 n2 h
  unfold fLt at h
  split at h
  · exact ⟨_, _, n1, n2, fin_v e r h⟩
  · exact h.elim
theorem dec_iff {p q : Prop} [Decidable p] [Decidable q] (h : p ↔ q) : decide p = decide q := decide_eq_decide.mpr h
theorem eqFD : OpD K (fun x y H Q => rEq x y H Q ∨ rEqT K x y H Q) fEqF := by
  intro G0 L0 H0 G L M H v1 v2 d1 d2 q e r n1 n2 h
  unfold fEqF at h
  split at h
  · rename_i i j
    cases n1; cases n2
    exact .inl ⟨rfl, fin_same (d := .bl _) e r (by show V.bl _ = V.bl _; rw [dec_iff (p := V.int i = V.int j) (q := i = j) ⟨fun z => V.int.inj z, fun z => by rw [z]⟩]) h⟩
  · rename_i i j
    cases n1; cases n2
    exact .inl ⟨rfl, fin_same (d := .bl _) e r (by show V.bl _ = V.bl _; rw [dec_iff (p := V.str i = V.str j) (q := i = j) ⟨fun z => V.str.inj z, fun z => by rw [z]⟩]) h⟩
  · rename_i i j
    cases n1; cases n2
    exact .inl ⟨rfl, fin_same (d := .bl _) e r (by show V.bl _ = V.bl _; rw [dec_iff (p := V.bl i = V.bl j) (q := i = j) ⟨fun z => V.bl.inj z, fun z => by rw [z]⟩]) h⟩
  · rename_i a b
    obtain ⟨p1, w1, rfl, e1, m1⟩ := n1
    obtain ⟨p2, w2, rfl, e2, m2⟩ := n2
    split at h
    · rename_i us vs h1 h2
      obtain ⟨rfl, a2⟩ := flatDs_is h1 m1
      obtain ⟨rfl, b2⟩ := flatDs_is h2 m2
      exact .inr ⟨p1, p2, _, _, rfl, rfl, .inl (.inl (r.sub _ _ e1)), .inl (.inl (r.sub _ _ e2)), a2, b2, fin_v e r h⟩
    · exact h.elim
  · exact h.elim
theorem neFD : OpD K (fun x y H Q => rNe x y H Q ∨ rNeT K x y H Q) fNeF := by
  intro G0 L0 H0 G L M H v1 v2 d1 d2 q e r n1 n2 h
  unfold fNeF at h
  split at h
  · rename_i i j
    cases n1; cases n2
    exact .inl ⟨rfl, fin_same (d := .bl _) e r (by show V.bl _ = V.bl _; rw [dec_iff (p := V.int i = V.int j) (q := i = j) ⟨fun z => V.int.inj z, fun z => by rw [z]⟩]) h⟩
  · rename_i i j
    cases n1; cases n2
    exact .inl ⟨rfl, fin_same (d := .bl _) e r (by show V.bl _ = V.bl _; rw [dec_iff (p := V.str i = V.str j) (q := i = j) ⟨fun z => V.str.inj z, fun z => by rw [z]⟩]) h⟩
  · rename_i i j
    cases n1; cases n2
    exact .inl ⟨rfl, fin_same (d := .bl _) e r (by show V.bl _ = V.bl _; rw [dec_iff (p := V.bl i = V.bl j) (q := i = j) ⟨fun z => V.bl.inj z, fun z => by rw [z]⟩]) h⟩
  · rename_i a b
    obtain ⟨p1, w1, rfl, e1, m1⟩ := n1
    obtain ⟨p2, w2, rfl, e2, m2⟩ := n2
    split at h
    · rename_i us vs h1 h2
      obtain ⟨rfl, a2⟩ := flatDs_is h1 m1
      obtain ⟨rfl, b2⟩ := flatDs_is h2 m2
      exact .inr ⟨p1, p2, _, _, rfl, rfl, .inl (.inl (r.sub _ _ e1)), .inl (.inl (r.sub _ _ e2)), a2, b2, fin_v e r h⟩
    · exact h.elim
  · exact h.elim
theorem isND : OpD K (fun x y H Q => y = .non ∧ Q (.bl (decide (x = .non))) H) fIsN := by
  intro G0 L0 H0 G L M H v1 v2 d1 d2 q e r n1 n2 h
  unfold fIsN at h
  split at h
  · cases n1; exact ⟨n2, fin_same (d := .bl true) e r (by show V.bl _ = V.bl _; rw [decide_eq_true rfl]) h⟩
  · cases n1; exact ⟨n2, fin_same (d := .bl false) e r (by show V.bl _ = V.bl _; rw [decide_eq_false (fun z => nomatch z)]) h⟩
  · cases n1; exact ⟨n2, fin_same (d := .bl false) e r (by show V.bl _ = V.bl _; rw [decide_eq_false (fun z => nomatch z)]) h⟩
  · cases n1; exact ⟨n2, fin_same (d := .bl false) e r (by show V.bl _ = V.bl _; rw [decide_eq_false (fun z => nomatch z)]) h⟩
  · obtain ⟨p1, w1, rfl, _⟩ := n1; exact ⟨n2, fin_same (d := .bl false) e r (by show V.bl _ = V.bl _; rw [decide_eq_false (fun z => nomatch z)]) h⟩
  · obtain ⟨p1, w1, rfl, _⟩ := n1; exact ⟨n2, fin_same (d := .bl false) e r (by show V.bl _ = V.bl _; rw [decide_eq_false (fun z => nomatch z)]) h⟩
  · exact h.elim
end
section
variable {X : Cx} {R : St → XK} {a b c : Expr} {ta tb : DE} {pos : Pos}
theorem j_eq {k : Nat} (hr : Room k X.A) (ja : JE X R a ta) (jb : JE X R b tb) : JE X R (.Compare a [.Eq] [b] pos) (dOp fEqF ta tb) := j_cmp (op_eq.or (op_eqT hr.units0)) eqFD ja jb (nomark _)
theorem j_ne {k : Nat} (hr : Room k X.A) (ja : JE X R a ta) (jb : JE X R b tb) : JE X R (.Compare a [.NotEq] [b] pos) (dOp fNeF ta tb) := j_cmp (op_ne.or (op_neT hr.units0)) neFD ja jb (nomark _)
theorem jt_lt (ja : JE X R a ta) (jb : JE X R b tb) : JT X R (.Compare a [.Lt] [b] pos) (tstD (dOp fLt ta tb)) := jt_cmp op_lt ltD ja jb (nomark _)
theorem jt_eq {k : Nat} (hr : Room k X.A) (ja : JE X R a ta) (jb : JE X R b tb) : JT X R (.Compare a [.Eq] [b] pos) (tstD (dOp fEqF ta tb)) := jt_cmp (op_eq.or (op_eqT hr.units0)) eqFD ja jb (nomark _)
theorem jt_ne {k : Nat} (hr : Room k X.A) (ja : JE X R a ta) (jb : JE X R b tb) : JT X R (.Compare a [.NotEq] [b] pos) (tstD (dOp fNeF ta tb)) := jt_cmp (op_ne.or (op_neT hr.units0)) neFD ja jb (nomark _)
theorem jt_isN (ja : JE X R a ta) (jb : JE X R b tb) : JT X R (.Compare a [.Is] [b] pos) (tstD (dOp fIsN ta tb)) := jt_cmp op_isN isND ja jb (nomark _)
end
def seqD (M : Ms) : Dt → Option (List Dt)
  | .lst xs => some xs
  | .tup xs => some xs
  | .scr ns => some (ns.map .int)
  | .kt xs => some xs
  | .loc k => match M[k]? with
    | some (.lst xs) => some xs
    | _ => none
  | _ => none
theorem seqD_is {K : PySem.W.Frag} {G : Hp} {L : List Addr} {M : Ms} {H : Hp} {d : Dt} {v : V} {xs : List Dt} (r : Rl K G L M H) (n : Den K G L d v) (h : seqD M d = some xs) : ∃ a vs, v = .ref a ∧ (SqL K H a vs ∨ SqT K H a vs) ∧ DenL K G L xs vs := by
  cases d with
  | lst ds => cases h; obtain ⟨a, vs, rfl, e, m⟩ := n; exact ⟨a, vs, rfl, .inl (.of (r.sub _ _ e)), m⟩
  | tup ds => cases h; obtain ⟨a, vs, rfl, e, m⟩ := n; exact ⟨a, vs, rfl, .inr (.of (r.sub _ _ e)), m⟩
  | kt ds => cases h; obtain ⟨a, vs, rfl, e, m⟩ := n; exact ⟨a, vs, rfl, .inr (r.sub.sqT e), m⟩
  | scr ns => cases h; obtain ⟨a, rfl, e⟩ := n; exact ⟨a, _, rfl, .inl (r.sub.seq e), denL_ints⟩
  | loc k =>
    obtain ⟨a, rfl, e⟩ := n
    have h : (match M[k]? with | some (.lst xs) => some xs | _ => none) = some xs := h
    split at h
    · rename_i ys hm
      cases h
      obtain ⟨_, vs, e1, m1⟩ := r.ats k a _ e hm
      exact ⟨a, vs, rfl, .inl (.of e1), m1⟩
    · cases h
  | _ => cases h
theorem atI_den {K : PySem.W.Frag} {G : Hp} {L : List Addr} {ds : List Dt} {vs : List V} {i : Int} {d : Dt} (n : DenL K G L ds vs) (h : atI ds i = some d) : ∃ v, atI vs i = some v ∧ Den K G L d v := by
  unfold atI at h ⊢
  rw [← n.length]
  cases q : ixN ds.length i with
  | none => rw [q] at h; cases h
  | some j =>
    rw [q] at h
    obtain ⟨v, e, m⟩ := n.get h
    exact ⟨v, e, m⟩
def fIx : Dt → Dt → Ms → DQ → Prop
  | .str z, .int i, M, q => z.length ≤ sizeLine ∧ match atI z.cps.toList i with
    | some c => q (.str ⟨#[c]⟩) M
    | none => False
  | d, .int i, M, q => match seqD M d with
    | some xs => (match atI xs i with
      | some y => q y M
      | none => False)
    | none => False
  | _, _, _, _ => False
def fLen : List Dt → Ms → DQ → Prop
  | [.str z], M, q => z.length ≤ sizeLine ∧ q (.int z.length) M
  | [d], M, q => match seqD M d with
    | some xs => q (.int xs.length) M
    | none => False
  | _, _, _ => False
section
variable {K : PySem.W.Frag}
theorem ixD : OpD K (rIx K) fIx := by
  intro G0 L0 H0 G L M H v1 v2 d1 d2 q e r n1 n2 h
  unfold fIx at h
  split at h
  · rename_i z i
    split at h
    · rename_i c hc
      exact .inr (.inr ⟨z, i, c, n1, n2, h.1, hc, fin_v e r h.2⟩)
    · exact h.2.elim
  · rename_i d i _
    split at h
    · rename_i xs hx
      split at h
      · rename_i y hy
        obtain ⟨a, vs, rfl, hs, m⟩ := seqD_is r n1 hx
        obtain ⟨v, e1, m1⟩ := atI_den m hy
        rcases hs with hs | hs
        · exact .inl ⟨a, vs, i, v, rfl, n2, hs, e1, fin_same e r m1 h⟩
        · exact .inr (.inl ⟨a, vs, i, v, rfl, n2, hs, e1, fin_same e r m1 h⟩)
      · exact h.elim
    · exact h.elim
  · exact h.elim
theorem lenD : CaD K (fun xs H Q => (∃ z, xs = [V.str z] ∧ z.length ≤ sizeLine ∧ Q (.int z.length) H) ∨ (∃ p ys, xs = [V.ref p] ∧ (SqL K H p ys ∨ SqT K H p ys) ∧ Q (.int ys.length) H)) fLen := by
  intro G0 L0 H0 G L M H vs ds q e r n h
  unfold fLen at h
  split at h
  · rename_i z
    obtain ⟨v, rfl, n1⟩ := denL_one n
    cases n1
    exact .inl ⟨z, rfl, h.1, fin_v e r h.2⟩
  · rename_i d _
    obtain ⟨v, rfl, n1⟩ := denL_one n
    split at h
    · rename_i xs hx
      obtain ⟨a, ws, rfl, hs, m⟩ := seqD_is r n1 hx
      exact .inr ⟨a, ws, rfl, hs, fin_same (d := .int xs.length) e r (by show V.int _ = V.int _; rw [m.length]) h⟩
    · exact h.elim
  · exact h.elim
end
section
variable {X : Cx} {R : St → XK} {a b c : Expr} {ta tb : DE} {pos : Pos}
theorem j_ix (ja : JE X R a ta) (jb : JE X R b tb) (hs : PlainIx b := by exact fun _ _ => rfl) : JE X R (.Subscript a b pos) (dOp fIx ta tb) := j_ixs ix_seq ixD ja jb hs
variable {x : Str} {p : Pos} {e : Expr} {es : List Expr} {t : DA} {id T : String} {r : List V → Hp → VK → Prop} {f : List Dt → Ms → DQ → Prop}
theorem j_callB (hc : CallR X (.builtin id) r) (cd : CaD X.K r f) (hm : X.mg x = none) (hv : bootBuiltins x = some (.builtin id)) (ha : JA X R (e :: es) t) (hg : Gl X x := by rfl) (hn : x ≠ "__name__" := by decide) (hdb : (x == ("__debug__" : Str)) = false := by decide)
    (he : starEach (e :: es) X.env = (false, eval e X.env) :: starEach es X.env := by rfl) (hpl : (backTo pos (starEach es X.env)).any (·.1) = false := by rfl) : JE X R (.Call (.Name x p) (e :: es) [] pos) (dFn f t) :=
  .of (pe_callB hc hg hm hv ha hn hdb he hpl) fun σ H G L ρ M q x r n h hx => ca_rd cd r n h hx
theorem j_callTy (hc : CallR X (.type T) r) (cd : CaD X.K r f) (hm : X.mg x = none) (hv : bootBuiltins x = some (.type T)) (ha : JA X R (e :: es) t) (hg : Gl X x := by rfl) (hn : x ≠ "__name__" := by decide) (hdb : (x == ("__debug__" : Str)) = false := by decide)
    (he : starEach (e :: es) X.env = (false, eval e X.env) :: starEach es X.env := by rfl) (hpl : (backTo pos (starEach es X.env)).any (·.1) = false := by rfl) : JE X R (.Call (.Name x p) (e :: es) [] pos) (dFn f t) :=
  .of (pe_callTy hc hg hm hv ha hn hdb he hpl) fun σ H G L ρ M q x r n h hx => ca_rd cd r n h hx
theorem j_len (hm : X.mg "len" = none) (ha : JA X R [e] t) (he : starEach [e] X.env = (false, eval e X.env) :: starEach [] X.env := by rfl) (hpl : (backTo pos (starEach [] X.env)).any (·.1) = false := by rfl) (hg : Gl X "len" := by rfl) : JE X R (.Call (.Name "len" p) [e] [] pos) (dFn fLen t) :=
  j_callB (call_len_str.or call_len_seq) lenD hm PySem.boot_len ha hg (by decide) (by decide) he hpl
end
end L2
set_option maxRecDepth 100000
set_option maxHeartbeats 4000000
namespace L2
open PySem PySem.Spec PyProof.Rows
section
variable {X : Cx}
end
section
variable {X : Cx} {a : Expr} {ta : TE} {pos : Pos}
end
def fAbs : List Dt → Ms → DQ → Prop
  | [.int i], M, q => q (.int (if i < 0 then -i else i)) M
  | _, _, _ => False
def kindD : Dt → Option Value
  | .non => some (.type "NoneType")
  | .bl _ => some (.type "bool")
  | .int _ => some (.type "int")
  | .str _ => some (.type "str")
  | .lst _ => some (.type "list")
  | .tup _ => some (.type "tuple")
  | _ => none
def clsD : Dt → Option Value
  | .ty T => some (.type T)
  | .ref C => some (.ref C)
  | _ => none
section
variable {K : PySem.W.Frag}
theorem denL_bls {G : Hp} {L : List Addr} : ∀ {bs : List Bool} {vs : List V}, DenL K G L (bs.map Dt.bl) vs → vs = bs.map V.bl
  | [], _, h => h
  | b :: bs, _, ⟨v, r, e, h1, h2⟩ => by
    subst e
    rw [denL_bls h2, show v = V.bl b from h1]
    rfl
theorem absD : CaD K (fun xs H Q => ∃ i, xs = [V.int i] ∧ Q (.int (if i < 0 then -i else i)) H) fAbs := by
  intro G0 L0 H0 G L M H vs ds q e r n h
  unfold fAbs at h
  split at h
  · rename_i i
    obtain ⟨v, rfl, n1⟩ := denL_one n
    cases n1
    exact ⟨i, rfl, fin_v e r h⟩
  · exact h.elim
theorem tyOf_kind {G : Hp} {L : List Addr} {M : Ms} {H : Hp} {d : Dt} {v : V} {t : Value} (r : Rl K G L M H) (n : Den K G L d v) (h : kindD d = some t) : TyOf K H v t := by
  cases d with
  | non => cases h; cases n; exact .non
  | bl b => cases h; cases n; exact .bl _
  | int i => cases h; cases n; exact .int _
  | str x => cases h; cases n; exact .str _
  | lst xs => cases h; obtain ⟨a, ws, rfl, e, _⟩ := n; exact .lst (r.sub _ _ e)
  | tup xs => cases h; obtain ⟨a, ws, rfl, e, _⟩ := n; exact .tup (r.sub _ _ e)
  | _ => cases h
theorem cls_den {G : Hp} {L : List Addr} {d : Dt} {v : V} {t : Value} (n : Den K G L d v) (h : clsD d = some t) : clsV v = some t := by
  cases d with
  | ty T => cases n; exact h
  | ref C => cases n; exact h
  | _ => cases h
end
section
variable {X : Cx} {R : St → XK} {o a e e1 e2 : Expr} {es : List Expr} {to ta te : DE} {t : DA} {name : Str} {apos cpos pos p p2 : Pos} {T id : String}
theorem boot_int' : bootBuiltins "int" = some (.type "int") := by decide +kernel
theorem boot_abs' : bootBuiltins "abs" = some (.builtin "abs") := by decide +kernel
theorem boot_isinstance' : bootBuiltins "isinstance" = some (.builtin "isinstance") := by decide +kernel
theorem boot_bool' : bootBuiltins "bool" = some (.type "bool") := by decide +kernel
theorem boot_tuple' : bootBuiltins "tuple" = some (.type "tuple") := by decide +kernel
theorem boot_list' : bootBuiltins "list" = some (.type "list") := by decide +kernel
theorem j_ty {x : Str} {T : String} (hm : X.mg x = none) (hv : bootBuiltins x = some (.type T)) (hg : Gl X x := by rfl) (hn : x ≠ "__name__" := by decide) (hd : (x == ("__debug__" : Str)) = false := by decide) : JE X R (.Name x p) (dC (.ty T)) := j_c (pe_bltn (v := .ty T) hg hm hv rfl hn hd) fun _ _ => rfl
theorem j_gref {x : Str} {C : Addr} (hm : X.mg x = some (.ref C)) (hg : Gl X x := by rfl) (hd : (x == ("__debug__" : Str)) = false := by decide) : JE X R (.Name x p) (dC (.ref C)) := j_c (pe_glob (v := .ref C) hg hm rfl hd) fun _ _ => rfl
end
end L2
set_option maxRecDepth 100000
set_option maxHeartbeats 4000000
namespace L2
open PySem PySem.Spec PyProof.Rows
def Its (x : Str) : It := ⟨fun i _ => i < x.cps.size, fun i H v H' => H' = H ∧ ∃ c, x.cps[i]? = some c ∧ v = .str ⟨#[c]⟩, fun i _ => x.cps.size ≤ i⟩
theorem turn_strA {P : Program} {w : World} {K : PySem.W.Frag} {tg : Expr} (x : Str) (t : Tok) (it : Addr) : Turn P w K tg (Its x) [it] it (fun i h => h.IsStrIter it "str_ascii_iterator" x t i) where
  mem := by simp
  obj := fun i h st b hb => by
    have e : b = it := by simpa using hb
    subst e
    obtain ⟨o, e, c, d⟩ := st
    exact ⟨o, e, fun v z => by rw [d] at z; cases z⟩
  keep := fun i h h' st k => let ⟨o, ho, r⟩ := st; ⟨o, k it (by simp) o ho, r⟩
  item := by
    intro X hP hw hK hc i pins s σ H E I hf st hg
    subst hP hw hK
    obtain ⟨f0, f1, f2, f3, f4, f5⟩ := hf it (by simp)
    have hg : i < x.cps.size := hg
    refine wpAny_pyNext_ascii_item st (c := x.cps[i]) (by simp [hg]) fun h' st' sb => ?_
    have I1 : Inv X pins σ H { s with heap := h', toks := s.toks + 1 } := I.turned (fun b o hb e => (sb.2 b hb).trans e) f0 f1 f3 f4 f5
    obtain ⟨o, e, c, d⟩ := id st'
    exact ⟨_, rfl, go_of (s := { s with heap := h', toks := s.toks + 1 }) e c d (by decide) ⟨.str ⟨#[x.cps[i]]⟩, H, I1, ⟨_, rfl⟩, ⟨rfl, _, by simp [hg], rfl⟩, st', fun b hb => (hf b hb).1⟩⟩
  done := by
    intro X hP hw hK hc i pins s σ H E I hf st hg
    subst hP hw hK
    obtain ⟨f0, f1, f2, f3, f4, f5⟩ := hf it (by simp)
    have hg : x.cps.size ≤ i := hg
    exact wpAny_pyNext_ascii_end (I.ok.hd hc) st (by simp; omega) fun h' eb => ⟨rfl, I.turned (t' := s.toks) (fun b o hb e => eb b o hb e) f0 f1 f3 f4 f5⟩
  self := fun _ _ _ _ _ st h => wpAny_pyIter_striter_ascii st h
theorem turn_strW {P : Program} {w : World} {K : PySem.W.Frag} {tg : Expr} (x : Str) (t : Tok) (it : Addr) : Turn P w K tg (Its x) [it] it (fun i h => h.IsStrIter it "str_iterator" x t i) where
  mem := by simp
  obj := fun i h st b hb => by
    have e : b = it := by simpa using hb
    subst e
    obtain ⟨o, e, c, d⟩ := st
    exact ⟨o, e, fun v z => by rw [d] at z; cases z⟩
  keep := fun i h h' st k => let ⟨o, ho, r⟩ := st; ⟨o, k it (by simp) o ho, r⟩
  item := by
    intro X hP hw hK hc i pins s σ H E I hf st hg
    subst hP hw hK
    obtain ⟨f0, f1, f2, f3, f4, f5⟩ := hf it (by simp)
    have hg : i < x.cps.size := hg
    refine wpAny_pyNext_wide_item st (c := x.cps[i]) (by simp [hg]) fun h' st' sb => ?_
    have I1 : Inv X pins σ H { s with heap := h', toks := s.toks + 1 } := I.turned (fun b o hb e => (sb.2 b hb).trans e) f0 f1 f3 f4 f5
    obtain ⟨o, e, c, d⟩ := id st'
    exact ⟨_, rfl, go_of (s := { s with heap := h', toks := s.toks + 1 }) e c d (by decide) ⟨.str ⟨#[x.cps[i]]⟩, H, I1, ⟨_, rfl⟩, ⟨rfl, _, by simp [hg], rfl⟩, st', fun b hb => (hf b hb).1⟩⟩
  done := by
    intro X hP hw hK hc i pins s σ H E I hf st hg
    subst hP hw hK
    obtain ⟨f0, f1, f2, f3, f4, f5⟩ := hf it (by simp)
    have hg : x.cps.size ≤ i := hg
    exact wpAny_pyNext_wide_end (I.ok.hd hc) st (by simp; omega) fun h' eb => ⟨rfl, I.turned (t' := s.toks) (fun b o hb e => eb b o hb e) f0 f1 f3 f4 f5⟩
  self := fun _ _ _ _ _ st h => wpAny_pyIter_striter_wide st h
def signsD (z : Str) : List Dt := z.cps.toList.map fun c => Dt.str ⟨#[c]⟩
theorem yl_str {K : PySem.W.Frag} {G : Hp} {L : List Addr} {z : Str} : Yl K (Its z) (signsD z) G L where
  go := fun i G1 L1 M1 H1 d g l r e => by
    unfold signsD at e
    rw [List.getElem?_map] at e
    cases q : z.cps.toList[i]? with
    | none => rw [q] at e; cases e
    | some c =>
      rw [q] at e
      cases e
      have hi : i < z.cps.size := by
        have := (List.getElem?_eq_some_iff.mp q).1
        simpa using this
      refine ⟨hi, fun v' H' ⟨eH, c', e', y⟩ => ?_⟩
      subst eH y
      have : c' = c := by
        rw [← Array.getElem?_toList, q] at e'
        exact (Option.some.inj e').symm
      subst this
      exact ⟨G1, .refl _ _ _, r, rfl⟩
  stop := fun i G1 L1 M1 H1 g l r e => by
    unfold signsD at e
    show z.cps.size ≤ i
    simpa using e
def iterD (M : Ms) : Dt → Option (List Dt)
  | .lst xs => some xs
  | .tup xs => some xs
  | .scr ns => some (ns.map .int)
  | .kt xs => some xs
  | .str z => some (signsD z)
  | _ => none
section
variable {X : Cx} {R : St → XK} {tg e : Expr} {te : DE}
theorem it_list {pins : List (Addr × Obj)} {σ : St} {H : Hp} {s : Shared} {a : Addr} {vs : List V} {Q : It → Hp → Prop} {E : Value → Shared → Prop} (I : Inv X pins σ H s) (hq : SqL X.K H a vs) (q : Q (Itl X.K a) H) : wpAny (model X.prog X.w) X.A (pyIter (.ref a)) (PIE X pins σ tg Q) E s := by
  obtain ⟨its, rv, p, hz⟩ := I.list hq
  refine wpAny_pyIter_list p.isList ?_
  refine ⟨s.heap.objs.size, [s.heap.objs.size], _, _, H, rfl, I.kept (t' := s.toks) fun b o e => Heap.get?_push_of_some _ e, turn_list a _, ⟨_, Heap.get?_push_size _ rfl, rfl, rfl⟩, fun b hb => ?_, q⟩
  have e : b = s.heap.objs.size := by simpa using hb
  subst e
  exact I.fpOk (Nat.le_refl _) (I.hok.fresh (Nat.le_refl _))
theorem it_tup {pins : List (Addr × Obj)} {σ : St} {H : Hp} {s : Shared} {a : Addr} {vs : List V} {Q : It → Hp → Prop} {E : Value → Shared → Prop} (I : Inv X pins σ H s) (hq : SqT X.K H a vs) (q : Q (Itt X.K a) H) : wpAny (model X.prog X.w) X.A (pyIter (.ref a)) (PIE X pins σ tg Q) E s := by
  obtain ⟨its, rv, p, hz⟩ := I.tuple hq
  refine wpAny_pyIter_tuple (show s.heap.IsTuple a its.toArray from p) ?_
  refine ⟨s.heap.objs.size, [s.heap.objs.size], _, _, H, rfl, I.kept (t' := s.toks) fun b o e => Heap.get?_push_of_some _ e, turn_tuple a _, ⟨_, Heap.get?_push_size _ rfl, rfl, rfl⟩, fun b hb => ?_, q⟩
  have e : b = s.heap.objs.size := by simpa using hb
  subst e
  exact I.fpOk (Nat.le_refl _) (I.hok.fresh (Nat.le_refl _))
theorem it_str {pins : List (Addr × Obj)} {σ : St} {H : Hp} {s : Shared} {z : Str} {t : Tok} {Q : It → Hp → Prop} {E : Value → Shared → Prop} (I : Inv X pins σ H s) (q : Q (Its z) H) : wpAny (model X.prog X.w) X.A (pyIter (.str z t)) (PIE X pins σ tg Q) E s := by
  have fp : ∀ b ∈ [s.heap.objs.size], FpOk X pins H b := fun b hb => by
    have e : b = s.heap.objs.size := by simpa using hb
    subst e
    exact I.fpOk (Nat.le_refl _) (I.hok.fresh (Nat.le_refl _))
  cases ha : z.cps.all (· < 128)
  · exact wpAny_pyIter_wide ha ⟨s.heap.objs.size, [s.heap.objs.size], _, _, H, rfl, I.kept (t' := s.toks) fun b o e => Heap.get?_push_of_some _ e, turn_strW z t _, ⟨_, Heap.get?_push_size _ rfl, rfl, rfl⟩, fp, q⟩
  · exact wpAny_pyIter_ascii ha ⟨s.heap.objs.size, [s.heap.objs.size], _, _, H, rfl, I.kept (t' := s.toks) fun b o e => Heap.get?_push_of_some _ e, turn_strA z t _, ⟨_, Heap.get?_push_size _ rfl, rfl, rfl⟩, fp, q⟩
end
def TLaw : DF := fun ds _ q _ => ∃ ns : List Int, ds = [.scr ns] ∧ ns.length ≤ 63 ∧ ∀ M', q (.bl true) M'
def spLaw (K : PySem.W.Frag) : Sp := fun vs H Q _ => ∃ (a : Addr) (ns : List Int), vs = [.ref a] ∧ SqL K H a (ns.map V.int) ∧ ns.length ≤ 63 ∧ ∀ H', Q (.bl true) H'
theorem law_of {P : Program} {w : World} {K : PySem.W.Frag} {mg : Str → Option Value} {base : Heap} {k : Nat} {f : Addr} {fd : FuncData} {x : Str} (F : FnOk P w K mg base (CX1 P w) k f fd [x] (spD K TLaw)) : FnOk P w K mg base CX0 k f fd [x] (spLaw K) := by
  have sp : ∀ vs H Q E, spLaw K vs H Q E → spD K TLaw vs H Q E0 := by
    rintro vs H Q E ⟨a, ns, rfl, hS, hl, hQ⟩
    refine ⟨H, [], [.scr ns], [], fun d _ => d = .bl true, fun _ _ _ => False, ⟨.refl _, rfl, List.nodup_nil, fun k a m h => by simp at h⟩, ⟨_, _, rfl, ⟨a, rfl, hS⟩, rfl⟩, ⟨ns, rfl, hl, fun _ => rfl⟩, fun v H' ⟨d, G', L', M', _, _, n, e⟩ => ?_, fun _ _ _ _ _ _ _ h => h.elim⟩
    subst e
    rw [show v = V.bl true from n]
    exact hQ H'
  refine ⟨fun vs H Q E h => F.len vs H Q E0 (sp vs H Q E h), fun A outer s H args us vs Q E hr he hb hv h => codeAny_mono (F.run A outer s H args us vs Q E0 hr he hb hv (sp vs H Q E h)) fun r s' hq => ?_⟩
  cases r with
  | error e =>
    obtain ⟨_, _, _, _, _, _, _, _, hE⟩ := hq
    exact hE.elim
  | ok fl => cases fl <;> exact hq
end L2
namespace L2
open PySem PySem.Spec PyProof.Rows
def sWhile (c : DT) (tb : DS) : DS := fun Dn ρ M => ∃ W : Nat → En → Ms → Prop, (∃ m, W m ρ M) ∧ ∀ m ρ M, W m ρ M →
  c ρ M (fun b M1 => (b = true → ∃ N : En → Ms → Prop, (∀ ρ' M', N ρ' M' → ∃ m', m' < m ∧ W m' ρ' M') ∧ tb { Dn with nx := N, ct := N, bk := Dn.nx } ρ M1) ∧ (b = false → Dn.nx ρ M1)) Dn.x
def sPar (i j : Nat) (t : DA) : DS := fun Dn ρ M => t ρ M (fun ds M1 => match ds with
  | [a, b] => Dn.nx ((ρ.set i (some a)).set j (some b)) M1
  | _ => False) Dn.x
section
variable {X : Cx} {R : St → XK} {c a b : Expr} {body : List Stmt} {tc : DT} {tb : DS} {pos : Pos}
theorem js_while (hc : JT X R c tc) (hb : JSs X R body tb) (hp : PassesOwn (model X.prog X.w) X.A X.env X.xe := by first | exact PassesOwn.never | exact PassesOwn.leaving) : JS X R (.While c body [] pos) (sWhile tc tb) := .of (ps_while hp hc hb) fun σ H G L ρ M Dn rl n h hx => by
  obtain ⟨W, ⟨m0, w0⟩, turn⟩ := h
  refine ⟨fun m σ' H' => FinN X.K G L H (W m) σ' H', ⟨m0, ρ, G, L, M, .refl _ _ _, rl, n, w0⟩, fun m σ' H' ⟨ρ', G', L', M', e', r', n', w'⟩ => ?_⟩
  refine ⟨G', L', ρ', M', _, _, r', n', turn m ρ' M' w', hx.on e', fun v H1 ⟨G1, L1, M1, e1, r1, h1⟩ => ?_⟩
  cases v with
  | true =>
    obtain ⟨N, hN, hb⟩ := h1.1 rfl
    refine iteT ⟨FinN X.K G L H N, fun σ2 H2 ⟨ρ2, G2, L2, M2, e2, r2, n2, h2⟩ => ?_, ?_⟩
    · obtain ⟨m', hm, w2⟩ := hN ρ2 M2 h2
      exact ⟨m', hm, ρ2, G2, L2, M2, e2, r2, n2, w2⟩
    · have e01 := e'.trans e1
      exact ⟨G1, L1, ρ', M1, _, r1, n'.mono e1, hb, hx.on e01, ⟨fun _ _ f => FinN.back e01 f, fun _ _ f => Fin.back e01 f, fun _ _ f => FinN.back e01 f, fun _ _ f => FinN.back e01 f⟩⟩
  | false => exact iteF ⟨ρ', G1, L1, M1, e'.trans e1, r1, n'.mono e1, h1.2 rfl⟩
theorem js_par {i j : Nat} {x y : Str} {t : DA} {px py pt : Pos} {kt k2 pt2} (hN : X.N.Nodup) (hi : X.N[i]? = some x) (hj : X.N[j]? = some y) (ha : JA X R [a, b] t) (hij : i ≠ j := by decide)
    (hx : X.env.scope.names.lookup x = some .local := by rfl) (hy : X.env.scope.names.lookup y = some .local := by rfl)
    (hw : swappedStores [.Tuple [.Name x px, .Name y py] kt pt] (.Tuple [a, b] k2 pt2) X.env = pure (some [x, y]) := by rfl) (hc : X.calm = true := by rfl)
    (hs : swapsWithSole [.Tuple [.Name x px, .Name y py] kt pt] (.Tuple [a, b] k2 pt2) pos.line X.env = pure false := by rfl) :
    JS X R (.Assign [.Tuple [.Name x px, .Name y py] kt pt] (.Tuple [a, b] k2 pt2) pos) (sPar i j t) := .of (ps_par hc hN hi hj hij hx hy ha hw hs) fun σ H G L ρ M Dn rl n h hx => by
  refine ⟨G, L, ρ, M, _, _, rl, n, h, hx, fun vs H1 ⟨ds, G1, L1, M1, e1, r1, n1, h1⟩ => ?_⟩
  (try dsimp only at h1)
  split at h1
  · obtain ⟨v, u, rfl, m1, m2⟩ := denL_two n1
    exact ⟨v, u, rfl, _, G1, L1, M1, e1, r1, ((n.mono e1).set i m1).set j m2, h1⟩
  · exact h1.elim
end
section
variable {X : Cx} {R : St → XK} {e e2 o : Expr} {es : List Expr} {t : DA} {to ta tb : DE} {a b : Expr} {p pos apos cpos : Pos}
theorem j_abs (hm : X.mg "abs" = none) (ha : JA X R [e] t) (he : starEach [e] X.env = (false, eval e X.env) :: starEach [] X.env := by rfl) (hpl : (backTo pos (starEach [] X.env)).any (·.1) = false := by rfl) (hg : Gl X "abs" := by rfl) : JE X R (.Call (.Name "abs" p) [e] [] pos) (dFn fAbs t) :=
  j_callB call_abs absD hm boot_abs' ha hg (by decide) (by decide) he hpl
end
end L2
namespace L2
open PySem PySem.Spec PyProof.Rows
theorem compD_map {te : DE} {cs : En} {f : Dt → Dt} {M : Ms} {k : List Dt → Ms → Prop} : ∀ (xs acc : List Dt), (∀ x ∈ xs, ∀ q : DQ, q (f x) M → te (some x :: cs) M q noX) → k (acc ++ xs.map f) M → compD te cs xs acc M k
  | [], acc, _, h => by rw [List.map_nil, List.append_nil] at h; exact h
  | x :: xs, acc, ht, h => ht x List.mem_cons_self _ (compD_map xs (acc ++ [f x]) (fun y hy => ht y (List.mem_cons_of_mem _ hy)) (by simpa using h))
theorem fIx_seq {d y : Dt} {xs : List Dt} {i : Int} {M : Ms} {q : DQ} (hs : seqD M d = some xs) (h : atI xs i = some y) (k : q y M) : fIx d (.int i) M q := by
  cases d with
  | str z => cases hs
  | _ =>
    unfold fIx
    simp only [hs, h]
    exact k
theorem fLen_seq {d : Dt} {xs : List Dt} {M : Ms} {q : DQ} (hs : seqD M d = some xs) (k : q (.int xs.length) M) : fLen [d] M q := by
  cases d with
  | str z => cases hs
  | _ =>
    unfold fLen
    simp only [hs]
    exact k
theorem atI_zero {α : Type} {x : α} {xs : List α} : atI (x :: xs) 0 = some x := atI_nat (j := 0) rfl
end L2
set_option maxRecDepth 100000
set_option maxHeartbeats 4000000
namespace L2
open PySem PySem.Spec PyProof.Rows
theorem range_all (bs : List Bool) : (List.range bs.length).all (fun i => bs.getD i false) = bs.all id := by
  induction bs with
  | nil => rfl
  | cons b bs ih =>
    rw [List.length_cons, List.range_succ_eq_map, List.all_cons, List.all_map, List.all_cons, ← ih]
    rfl
def rAll (K : PySem.W.Frag) : List V → Hp → VK → Prop := fun xs H Q => ∃ (p : Addr) (bs : List Bool), xs = [.ref p] ∧ SqL K H p (bs.map V.bl) ∧ Q (.bl (bs.all id)) H
section
variable {X : Cx}
theorem call_all (hc : X.calm = true) : CallR X (.builtin "all") (rAll X.K) := by
  intro pins s σ H xs us Q I r h
  obtain ⟨p, bs, rfl, hq, q⟩ := h
  obtain ⟨u, rfl, r1⟩ := vals1 r
  cases r1
  obtain ⟨its, rv, pl, hz⟩ := I.list hq
  have eits := vals_bl rv
  subst eits
  refine call_all_walk (wpAny_pyIter_list pl.isList ?_)
  have lp : p < s.heap.objs.size := by obtain ⟨o, e, _⟩ := pl.isList; exact Heap.lt_size e
  refine ⟨s.heap.objs.size, _, _, _, _, _, fun i => bs.getD i false, rfl, Walks.list (show X.A.in1.handled = none from I.ok.hd hc) s.heap.objs.size p (Nat.ne_of_lt lp) (bs.map Value.bool).toArray, ⟨⟨_, Heap.get?_push_size _ rfl, rfl, rfl⟩, pl.isList.at fun o e => Heap.get?_push_of_some _ e⟩, truth_bl, fun h' tk hk => ?_⟩
  refine ⟨.bl (bs.all id), H, I.kept fun b o e => hk b o (fun z => by have : b = s.heap.objs.size := by simpa using z
                                                                      exact Nat.lt_irrefl _ (this ▸ Heap.lt_size e)) (Heap.get?_push_of_some _ e), ?_, q⟩
  rw [List.size_toArray, List.length_map, range_all]
  rfl
end
def fAll : List Dt → Ms → DQ → Prop
  | [.lst xs], M, q => ∃ bs : List Bool, xs = bs.map Dt.bl ∧ q (.bl (bs.all id)) M
  | _, _, _ => False
theorem allD {K : PySem.W.Frag} : CaD K (rAll K) fAll := by
  intro G0 L0 H0 G L M H vs ds q e r n h
  unfold fAll at h
  split at h
  · rename_i xs
    obtain ⟨bs, rfl, h⟩ := h
    obtain ⟨v, rfl, n1⟩ := denL_one n
    obtain ⟨a, ws, rfl, e1, m⟩ := n1
    exact ⟨a, bs, rfl, by rw [← denL_bls m]; exact .of (r.sub _ _ e1), fin_v e r h⟩
  · exact h.elim
section
variable {X : Cx} {R : St → XK} {e o : Expr} {es : List Expr} {t : DA} {to te : DE} {p pos apos cpos : Pos}
theorem boot_all' : bootBuiltins "all" = some (.builtin "all") := by decide +kernel
theorem j_all (hm : X.mg "all" = none) (ha : JA X R [e] t) (hc : X.calm = true := by rfl) (he : starEach [e] X.env = (false, eval e X.env) :: starEach [] X.env := by rfl) (hpl : (backTo pos (starEach [] X.env)).any (·.1) = false := by rfl) (hg : Gl X "all" := by rfl) : JE X R (.Call (.Name "all" p) [e] [] pos) (dFn fAll t) :=
  j_callB (call_all hc) allD hm boot_all' ha hg (by decide) (by decide) he hpl
variable {i j k : Nat} {tg : Expr}
end
theorem EnD.unset {K : PySem.W.Frag} {G : Hp} {L : List Addr} {ρ : En} {σ : St} (h : EnD K G L ρ σ) (i : Nat) : EnD K G L (ρ.set i none) (σ.set i none) := by
  refine ⟨by rw [List.length_set, List.length_set]; exact h.len, fun j d' e => ?_⟩
  by_cases hj : i = j
  · subst hj
    have hl : i < ρ.length := by
      have := (List.getElem?_eq_some_iff.mp e).1
      rwa [List.length_set] at this
    rw [List.getElem?_set_self hl] at e
    cases e
  · rw [List.getElem?_set_ne hj] at e
    obtain ⟨u, a, b⟩ := h.ats j d' e
    exact ⟨u, by rw [List.getElem?_set_ne hj]; exact a, b⟩
section
variable {X : Cx} {R : St → XK} {body : List Stmt} {D : Addr} {dn n : Str} {i : Nat} {b₀ : Stmt} {suite : List Stmt} {pos hpos np : Pos} {tb : DS} {ts : Addr → Addr → DS} {bmB' : List Value} {newId' : String}
end
section
variable {X : Cx} {R : St → XK} {e e2 : Expr} {t : DA} {p pos : Pos} {x C : Addr}
end
end L2
set_option maxRecDepth 100000
set_option maxHeartbeats 4000000
namespace L2
open PySem PySem.Spec PyProof.Rows
mutual
def Dt.under (n : Nat) : Dt → Prop
  | .non => True
  | .bl _ => True
  | .int _ => True
  | .str _ => True
  | .tup ds => Dt.underL n ds
  | .lst ds => Dt.underL n ds
  | .obj _ _ ds => Dt.underL n ds
  | .loc k => k < n
  | .ref _ => True
  | .ty _ => True
  | .scr _ => True
  | .kt ds => Dt.underL n ds
  | .exc _ _ ds => Dt.underL n ds
  | .exn _ _ _ _ ds => Dt.underL n ds
def Dt.underL (n : Nat) : List Dt → Prop
  | [] => True
  | d :: ds => Dt.under n d ∧ Dt.underL n ds
end
def MO.under (n : Nat) : MO → Prop
  | .lst ds => Dt.underL n ds
  | .ins _ _ ds => Dt.underL n ds
  | .dct _ ds => Dt.underL n ds
mutual
inductive Frz (n : Nat) (E : Ms) : Dt → Dt → Prop
  | old {d : Dt} (h : d.under n) : Frz n E d d
  | tup {ds es : List Dt} (h : FrzL n E ds es) : Frz n E (.tup ds) (.tup es)
  | lst {ds es : List Dt} (h : FrzL n E ds es) : Frz n E (.lst ds) (.lst es)
  | obj {C : Addr} {ns : List Str} {ds es : List Dt} (h : FrzL n E ds es) : Frz n E (.obj C ns ds) (.obj C ns es)
  | newL {k : Nat} {ds es : List Dt} (hk : n ≤ k) (e : E[k - n]? = some (.lst ds)) (h : FrzL n E ds es) : Frz n E (.loc k) (.lst es)
  | newO {k : Nat} {C : Addr} {ns : List Str} {ds es : List Dt} (hk : n ≤ k) (e : E[k - n]? = some (.ins C ns ds)) (h : FrzL n E ds es) : Frz n E (.loc k) (.obj C ns es)
inductive FrzL (n : Nat) (E : Ms) : List Dt → List Dt → Prop
  | nil : FrzL n E [] []
  | cons {d e : Dt} {ds es : List Dt} (h : Frz n E d e) (t : FrzL n E ds es) : FrzL n E (d :: ds) (e :: es)
end
theorem FrzL.length {n : Nat} {E : Ms} : ∀ {ds es : List Dt}, FrzL n E ds es → ds.length = es.length
  | [], es, h => by cases h; rfl
  | d :: ds, es, h => by
    cases h with
    | cons h t => rw [List.length_cons, List.length_cons, FrzL.length t]
theorem FrzL.old {n : Nat} {E : Ms} : ∀ {ds : List Dt}, Dt.underL n ds → FrzL n E ds ds
  | [], _ => .nil
  | _ :: _, h => .cons (.old h.1) (FrzL.old h.2)
theorem FrzL.app {n : Nat} {E : Ms} {a b c d : List Dt} (h : FrzL n E a b) (h' : FrzL n E c d) : FrzL n E (a ++ c) (b ++ d) := by
  induction a generalizing b with
  | nil => cases h; exact h'
  | cons x a ih =>
    cases h with
    | cons p t => exact .cons p (ih t)
section
variable {K : PySem.W.Frag} {G G' : Hp} {L0 t : List Addr} {n : Nat}
mutual
theorem den_under (hn : L0.length = n) (g : Same G G') : ∀ (d : Dt) (v : V), d.under n → Den K G (L0 ++ t) d v → Den K G' L0 d v
  | .non, _, _, h => h
  | .bl _, _, _, h => h
  | .int _, _, _, h => h
  | .str _, _, _, h => h
  | .tup ds, _, u, ⟨a, vs, e, h1, h2⟩ => ⟨a, vs, e, g _ _ h1, denL_under hn g ds vs u h2⟩
  | .lst ds, _, u, ⟨a, vs, e, h1, h2⟩ => ⟨a, vs, e, g _ _ h1, denL_under hn g ds vs u h2⟩
  | .obj C ns ds, _, u, ⟨a, dx, vs, e, h1, hl, h2⟩ => ⟨a, dx, vs, e, g _ _ h1, hl, denL_under hn g ds vs u h2⟩
  | .loc k, _, u, ⟨a, e, h1⟩ => ⟨a, e, by
      have u : k < n := u
      rwa [List.getElem?_append_left (by rw [hn]; exact u)] at h1⟩
  | .ref _, _, _, h => h
  | .ty _, _, _, h => h
  | .scr _, _, _, ⟨a, e, h1⟩ => ⟨a, e, g.seq h1⟩
  | .kt ds, _, u, ⟨a, vs, e, h1, h2⟩ => ⟨a, vs, e, g.sqT h1, denL_under hn g ds vs u h2⟩
  | .exc _ _ ds, _, u, ⟨a, od, vs, e, h1, h2, h3, h4⟩ => ⟨a, od, vs, e, g _ _ h1, h2.imp (fun z => z) (fun ⟨dx, z1, z2⟩ => ⟨dx, z1, g _ _ z2⟩), h3, denL_under hn g ds vs u h4⟩
  | .exn _ _ _ _ ds, _, u, ⟨vs, e, h2, h3, h4⟩ => ⟨vs, e, h2.imp (fun z => z) (fun ⟨dx, z1, z2⟩ => ⟨dx, z1, g _ _ z2⟩), h3, denL_under hn g ds vs u h4⟩
theorem denL_under (hn : L0.length = n) (g : Same G G') : ∀ (ds : List Dt) (vs : List V), Dt.underL n ds → DenL K G (L0 ++ t) ds vs → DenL K G' L0 ds vs
  | [], _, _, h => h
  | d :: ds, _, u, ⟨v, r, e, h1, h2⟩ => ⟨v, r, e, den_under hn g d v u.1 h1, denL_under hn g ds r u.2 h2⟩
end
theorem mok_under {H : Hp} {a : Addr} (hn : L0.length = n) (g : Same G G') {m : MO} (u : m.under n) (h : MOk K G (L0 ++ t) H a m) : MOk K G' L0 H a m := by
  cases m with
  | lst ds => obtain ⟨vs, e, h⟩ := h; exact ⟨vs, e, denL_under hn g _ _ u h⟩
  | ins C ns ds => obtain ⟨dx, vs, e, hl, h⟩ := h; exact ⟨dx, vs, e, hl, denL_under hn g _ _ u h⟩
  | dct ks ds => obtain ⟨vs, e, hl, h⟩ := h; exact ⟨vs, e, hl, denL_under hn g _ _ u h⟩
end
open Classical in
noncomputable def over (G H : Hp) (t : List Addr) : Hp := fun b => if b ∈ t then H b else G b
theorem over_in {G H : Hp} {t : List Addr} {b : Addr} (h : b ∈ t) : over G H t b = H b := by unfold over; rw [if_pos h]
theorem over_out {G H : Hp} {t : List Addr} {b : Addr} (h : b ∉ t) : over G H t b = G b := by unfold over; rw [if_neg h]
section
variable {K : PySem.W.Frag} {G : Hp} {L0 t : List Addr} {M0 E : Ms} {H : Hp}
theorem over_same (r : Rl K G (L0 ++ t) (M0 ++ E) H) : Same G (over G H t) := fun b u e => by
  by_cases hb : b ∈ t
  · obtain ⟨_, _, _, _, g, _⟩ := r.at_mem (a := b) (List.mem_append_right _ hb)
    rw [g] at e; cases e
  · rw [over_out hb]; exact e
theorem frz_at (r : Rl K G (L0 ++ t) (M0 ++ E) H) (hn : L0.length = M0.length) {k : Nat} {a : Addr} {m : MO} (hk : M0.length ≤ k) (e : (L0 ++ t)[k]? = some a) (em : E[k - M0.length]? = some m) : over G H t a = H a ∧ MOk K G (L0 ++ t) H a m := by
  have e2 : (M0 ++ E)[k]? = some m := by rw [List.getElem?_append_right hk]; exact em
  obtain ⟨_, q⟩ := r.ats k a m e e2
  rw [List.getElem?_append_right (by rw [hn]; exact hk)] at e
  exact ⟨over_in (List.mem_of_getElem? e), q⟩
theorem frz_den (r : Rl K G (L0 ++ t) (M0 ++ E) H) (hn : L0.length = M0.length) {d d' : Dt} (f : Frz M0.length E d d') : ∀ v, Den K G (L0 ++ t) d v → Den K (over G H t) L0 d' v := by
  refine Frz.rec (motive_1 := fun d d' _ => ∀ v, Den K G (L0 ++ t) d v → Den K (over G H t) L0 d' v) (motive_2 := fun ds es _ => ∀ vs, DenL K G (L0 ++ t) ds vs → DenL K (over G H t) L0 es vs) ?_ ?_ ?_ ?_ ?_ ?_ ?_ ?_ f
  · exact fun {d} u v h => den_under hn (over_same r) d v u h
  · exact fun {ds es} f ih v ⟨a, vs, e, h1, h2⟩ => ⟨a, vs, e, over_same r _ _ h1, ih vs h2⟩
  · exact fun {ds es} f ih v ⟨a, vs, e, h1, h2⟩ => ⟨a, vs, e, over_same r _ _ h1, ih vs h2⟩
  · exact fun {C ns ds es} f ih v ⟨a, dx, vs, e, h1, hl, h2⟩ => ⟨a, dx, vs, e, over_same r _ _ h1, hl.trans f.length, ih vs h2⟩
  · intro k ds es hk em f ih v ⟨a, e, h1⟩
    obtain ⟨o, vs, e1, h2⟩ := frz_at r hn hk h1 em
    exact ⟨a, vs, e, o.trans e1, ih vs h2⟩
  · intro k C ns ds es hk em f ih v ⟨a, e, h1⟩
    obtain ⟨o, dx, vs, e1, hl, h2⟩ := frz_at r hn hk h1 em
    exact ⟨a, dx, vs, e, o.trans e1, hl.trans f.length, ih vs h2⟩
  · exact fun vs h => h
  · exact fun {d e ds es} f t ih1 ih2 vs ⟨v, r, e, h1, h2⟩ => ⟨v, r, e, ih1 v h1, ih2 r h2⟩
end
def frzQ (n : Nat) (q : DQ) : DQ := fun d M => ∃ M' E d', M = M' ++ E ∧ M'.length = n ∧ (∀ m ∈ M', MO.under n m) ∧ Frz n E d d' ∧ q d' M'
theorem Fin.frz {K : PySem.W.Frag} {G0 : Hp} {L0 : List Addr} {M0 : Ms} {H0 : Hp} {q : DQ} {v : V} {H : Hp} (r0 : Rl K G0 L0 M0 H0) (f : Fin K G0 L0 H0 (frzQ M0.length q) v H) : Fin K G0 L0 H0 q v H := by
  obtain ⟨d, G, L, M, ex, r, dn, M', E, d', rfl, hl, hu, fz, hq⟩ := f
  obtain ⟨t, rfl⟩ := ex.l
  have hn : L0.length = M'.length := by rw [hl]; exact r0.len
  have dis : ∀ b, b ∈ L0 → b ∉ t := fun b h1 h2 => (List.nodup_append.mp r.nd).2.2 b h1 b h2 rfl
  have sm := over_same r
  refine ⟨d', over G H t, L0, M', ⟨ex.g.trans sm, .refl _, fun b h1 h2 => ?_, ex.out, fun b h => .inl h, ex.dom⟩, ⟨fun b u e => ?_, hn, (List.nodup_append.mp r.nd).1, fun k a m h1 h2 => ?_⟩, frz_den r hn (hl ▸ fz) v dn, hq⟩
  · have hb : b ∉ t := fun z => (ex.new b (List.mem_append_right _ z)).elim (fun y => dis b y z) h2
    rw [over_out hb]; exact ex.fr b h1 h2
  · by_cases hb : b ∈ t
    · rw [over_in hb] at e; exact e
    · rw [over_out hb] at e; exact r.sub b u e
  · have k1 : k < L0.length := (List.getElem?_eq_some_iff.mp h1).1
    have e1 : (L0 ++ t)[k]? = some a := by rw [List.getElem?_append_left k1]; exact h1
    have e2 : (M' ++ E)[k]? = some m := by rw [List.getElem?_append_left (by rw [← hn]; exact k1)]; exact h2
    obtain ⟨g, q⟩ := r.ats k a m e1 e2
    exact ⟨by rw [over_out (dis a (List.mem_of_getElem? h1))]; exact g, mok_under (n := M'.length) hn sm (by rw [hl]; exact hu m (List.mem_of_getElem? h2)) q⟩
section
variable {X : Cx} {R : St → XK} {e : Expr} {t : DE}
theorem js_never {st : Stmt} : JS X R st (fun _ _ _ => False) := fun _ _ _ _ _ _ ⟨_, _, _, _, _, _, _, h, _, _⟩ => h.elim
end
end L2
set_option maxRecDepth 100000
set_option maxHeartbeats 4000000
namespace L2
open PySem PySem.Spec PyProof.Rows
section
variable {X : Cx} {CX : CXT} {k : Nat} {f C : Addr} {fd : FuncData} {ps : List Str} {sp : Sp} {dvs : List V} {ds : List Value} {R : St → XK} {x m : Str} {p pos apos : Pos} {e o : Expr} {es : List Expr} {ta : TE} {t : TA}
end
section
variable {K : PySem.W.Frag} {G : Hp} {L : List Addr} {M : Ms} {H : Hp} {C : Addr} {d : Dt} {v : V} {ns : List Str} {ds : List Dt}
theorem zip_some {f : Str} : ∀ {ns : List Str} {ds : List Dt} {vs : List V} {d : Dt}, DenL K G L ds vs → (ns.zip ds).lookup f = some d → ∃ v, (ns.zip vs).lookup f = some v ∧ Den K G L d v
  | [], _, _, _, _, h => by simp at h
  | _ :: _, [], _, _, _, h => by simp at h
  | g :: ns, d :: ds, _, d', ⟨v, r, rfl, h1, h2⟩, h => by
    rw [List.zip_cons_cons, List.lookup_cons] at h
    rw [List.zip_cons_cons, List.lookup_cons]
    cases q : f == g with
    | true => rw [q] at h; cases h; exact ⟨v, rfl, h1⟩
    | false => rw [q] at h; exact zip_some h2 h
theorem putF_new {f : Str} {v : V} : ∀ {ns : List Str} {vs : List V}, ns.length = vs.length → f ∉ ns → putF f v (ns.zip vs) = (ns ++ [f]).zip (vs ++ [v])
  | [], [], _, _ => rfl
  | g :: ns, x :: vs, hl, h => by
    have hg : ¬ g = f := fun z => h (by rw [z]; exact List.mem_cons_self)
    show (if g = f then (g, v) :: ns.zip vs else (g, x) :: putF f v (ns.zip vs)) = (g, x) :: (ns ++ [f]).zip (vs ++ [v])
    rw [if_neg hg, putF_new (by simpa using hl) fun z => h (List.mem_cons_of_mem _ z)]
  | [], _ :: _, hl, _ => by simp at hl
  | _ :: _, [], hl, _ => by simp at hl
end
section
variable {X : Cx} {R : St → XK} {C : Addr} {f m x : Str} {T : DF} {k k' : Nat} {a : Addr} {fd : FuncData} {ps : List Str} {e o value : Expr} {es : List Expr} {pos pos' apos p : Pos} {to te tv : DE} {ta : DA}
end
end L2
set_option maxRecDepth 100000
set_option maxHeartbeats 4000000
namespace L2
open PySem PySem.Spec PyProof.Rows
def fList : List Dt → Ms → DQ → Prop
  | [d], M, q => match seqD M d with
    | some xs => q (.loc M.length) (M ++ [.lst xs])
    | none => False
  | _, _, _ => False
section
variable {K : PySem.W.Frag}
theorem listD : CaD K (fun xs H Q => ∃ p ys, xs = [V.ref p] ∧ (SqL K H p ys ∨ SqT K H p ys) ∧ ∀ l, H l = none → Q (.ref l) (upd H l (.lst ys))) fList := by
  intro G0 L0 H0 G L M H vs ds q e r n h
  unfold fList at h
  split at h
  · rename_i d
    obtain ⟨v, rfl, n1⟩ := denL_one n
    split at h
    · rename_i xs hs
      obtain ⟨a, us, rfl, hq, dn⟩ := seqD_is r n1 hs
      exact ⟨a, us, rfl, hq, fun l hl => fin_loc e r hl dn h⟩
    · exact h.elim
  · exact h.elim
end
section
variable {X : Cx} {R : St → XK} {e o i value : Expr} {t : DA} {to ti tv : DE} {p pos apos cpos tpos : Pos}
theorem j_list (hm : X.mg "list" = none) (ha : JA X R [e] t) (hg : Gl X "list" := by rfl) (he : starEach [e] X.env = (false, eval e X.env) :: starEach [] X.env := by rfl) (hpl : (backTo pos (starEach [] X.env)).any (·.1) = false := by rfl) : JE X R (.Call (.Name "list" p) [e] [] pos) (dFn fList t) :=
  j_callTy call_list_of listD hm boot_list' ha hg (by decide) (by decide) he hpl
def dApp (to : DE) (t : DA) : DE := fun ρ M q x => to ρ M (fun d M1 => (∃ k xs, d = .loc k ∧ M1[k]? = some (.lst xs)) ∧ t ρ M1 (fun ds M2 => ∃ k xs y, d = .loc k ∧ ds = [y] ∧ M2[k]? = some (.lst xs) ∧ xs.length < sizeLine ∧ q .non (M2.set k (.lst (xs ++ [y])))) x) x
theorem j_append (ho : JE X R o to) (ha : JA X R [e] t) (hbase : attributeBase o "append" X.env (eval o X.env) = eval o X.env := by rfl)
    (hfew : ((backTo cpos (starEach [e] X.env)).all (fun x => !x.1) && (backToKw cpos (keywordEach [] X.env)).all (fun x => x.1.isSome)
      && decide (([e] : List Expr).length + ([] : List Keyword).length + (if ([] : List Keyword).isEmpty then 0 else 1) < 30)) = true := by rfl)
    (hline : (apos.endLine == cpos.line) = true := by rfl) (hs : starEach [e] X.env = (false, eval e X.env) :: starEach [] X.env := by rfl) (hplain : (backTo cpos (starEach [] X.env)).any (·.1) = false := by rfl) :
    JE X R (.Call (.Attribute o "append" apos) [e] [] cpos) (dApp to t) :=
  .of (pe_bm PySem.F.plainAttrs_list PySem.F.slot_list_append PySem.F.type_list_append (r := rAppend) mt_append ho ha hbase hfew hline hs hplain) fun σ H G L ρ M q x rl n h hx => by
    refine ⟨G, L, ρ, M, _, x, rl, n, h, hx, fun v H1 ⟨d1, G1, L1, M1, e1, r1, n1, ⟨k, xs, ed, hm⟩, h1⟩ => ?_⟩
    subst ed
    obtain ⟨a, rfl, hk⟩ := n1
    obtain ⟨_, vs, hH, _⟩ := r1.ats k a _ hk hm
    refine ⟨.inl ⟨rfl, vs, .of hH⟩, G1, L1, ρ, M1, _, x, r1, n.mono e1, h1, hx.on e1, fun us H2 ⟨ds, G2, L2, M2, e2, r2, n2, k', xs', y, ek, ed, hm2, hz, h2⟩ => ?_⟩
    cases ek
    subst ed
    obtain ⟨u, rfl, n3⟩ := denL_one n2
    have hk2 := e2.l.get hk
    obtain ⟨_, vs2, hH2, dn2⟩ := r2.ats k a _ hk2 hm2
    refine ⟨a, vs2, u, rfl, rfl, hH2, by rw [← dn2.length]; exact hz, .non, G2, L2, _, (e1.trans e2).trans (r2.exS hk2), r2.setM (m := .lst (xs' ++ [y])) hk2 ⟨_, upd_same, dn2.app ⟨_, _, rfl, n3, rfl⟩⟩, rfl, h2⟩
def sSetIx (to ti tv : DE) : DS := fun Dn ρ M => tv ρ M (fun y M1 => to ρ M1 (fun d M2 => ti ρ M2 (fun di M3 => ∃ k i xs j, d = .loc k ∧ di = .int i ∧ M3[k]? = some (.lst xs) ∧ ixN xs.length i = some j ∧ Dn.nx ρ (M3.set k (.lst (xs.set j y)))) Dn.x) Dn.x) Dn.x
theorem js_setix (ho : JE X R o to) (hi : JE X R i ti) (hv : JE X R value tv) (hs : swapsWithSole [.Subscript o i tpos] value pos.line X.env = pure false := by rfl) (hw : swappedStores [.Subscript o i tpos] value X.env = pure none := by rfl)
    (h1 : (assignEach [.Subscript o i tpos] X.env).map (·.2) = [assign (.Subscript o i tpos) X.env] := by rfl)
    (ha : ∀ v, assign (.Subscript o i tpos) X.env v = (do
      let ov ← holding [v] (eval o X.env)
      let iv ← holding [v, ov] (eval i X.env)
      standAt tpos
      holding [v, ov, iv] (setItem ov iv v)
      release [v, ov, iv] []) := by intro _; rfl) : JS X R (.Assign [.Subscript o i tpos] value pos) (sSetIx to ti tv) :=
  .of (ps_asg hv (pg_sub (t := rSetL) ho hi set_list ha) hs hw h1) fun σ H G L ρ M Dn rl n h hx => by
    refine ⟨G, L, ρ, M, _, _, rl, n, h, hx, fun v H1 ⟨dv, G1, L1, M1, e1, r1, n1, h1⟩ => ?_⟩
    refine ⟨G1, L1, ρ, M1, _, _, r1, n.mono e1, h1, hx.on e1, fun ov H2 ⟨d, G2, L2, M2, e2, r2, n2, h2⟩ => ?_⟩
    refine ⟨G2, L2, ρ, M2, _, _, r2, (n.mono e1).mono e2, h2, (hx.on e1).on e2, fun iv H3 ⟨di, G3, L3, M3, e3, r3, n3, k, i, xs, j, ed, ei, hm, hj, h3⟩ => ?_⟩
    subst ed ei
    obtain ⟨a, rfl, hk⟩ := n2
    have n3 : iv = .int i := n3
    subst n3
    have hk3 := e3.l.get hk
    obtain ⟨_, vs, hH, dn⟩ := r3.ats k a _ hk3 hm
    have e23 := e2.trans e3
    have dv3 := Den.mono e23.g e23.l _ _ n1
    refine ⟨a, vs, i, j, rfl, rfl, hH, by rw [← dn.length]; exact hj, ρ, G3, L3, _, ((e1.trans e2).trans e3).trans (r3.exS hk3), r3.setM (m := .lst (xs.set j dv)) hk3 ⟨_, upd_same, .of (prd_set dv3 j dn.pair)⟩, (((n.mono e1).mono e2).mono e3).mono (r3.exS (o := .own a) hk3), h3⟩
end
abbrev DK := En → Ms → (List Dt → (Ms → Prop) → Ms → Prop) → DX → Prop
structure YlK (K : PySem.W.Frag) (J : It) (xs : List Dt) (ok : Ms → Prop) (G0 : Hp) (L0 : List Addr) : Prop where
  go : ∀ (i : Nat) G L M H (d : Dt), Same G0 G → Pre L0 L → Rl K G L M H → ok M → xs[i]? = some d → J.go i H ∧ ∀ v H', J.yld i H v H' → ∃ G', Ex G L H G' L H' ∧ Rl K G' L M H' ∧ Den K G' L d v
  stop : ∀ (i : Nat) G L M H, Same G0 G → Pre L0 L → Rl K G L M H → ok M → xs.length ≤ i → J.stop i H
inductive FinK (K : PySem.W.Frag) (G0 : Hp) (L0 : List Addr) (H0 : Hp) (q : List Dt → (Ms → Prop) → Ms → Prop) (J : It) (H : Hp) : Prop
  | mk (xs : List Dt) (ok : Ms → Prop) (G : Hp) (L : List Addr) (M : Ms) (e : Ex G0 L0 H0 G L H) (r : Rl K G L M H) (y : YlK K J xs ok G L) (h : q xs ok M)
inductive lowK (K : PySem.W.Frag) (R : St → XK) (t : DK) (σ : St) (H : Hp) (Q : It → Hp → Prop) : Prop
  | mk (G : Hp) (L : List Addr) (ρ : En) (M : Ms) (q : List Dt → (Ms → Prop) → Ms → Prop) (x : DX) (r : Rl K G L M H) (n : EnD K G L ρ σ) (h : t ρ M q x) (hx : XOk K G L H R x) (hQ : ∀ J H1, FinK K G L H q J H1 → Q J H1)
def JK (X : Cx) (R : St → XK) (tg iter : Expr) (t : DK) : Prop := PI X tg iter (lowK X.K R t)
def kOf (t : DA) : DK := fun ρ M q x => t ρ M (fun xs M1 => q xs (fun _ => True) M1) x
theorem jk_of {X : Cx} {R : St → XK} {tg iter : Expr} {t : DA} (h : JI X R tg iter t) : JK X R tg iter (kOf t) := by
  intro pins s σ H Q I ⟨G, L, ρ, M, q, x, r, n, ht, hx, hQ⟩
  refine h pins s σ H Q I ⟨G, L, ρ, M, _, x, r, n, ht, hx, fun J H1 ⟨xs, G1, L1, M1, e1, r1, y, hq⟩ => hQ J H1 ⟨xs, _, G1, L1, M1, e1, r1, ⟨fun i G L M H d g l r _ e => y.go i G L M H d g l r e, fun i G L M H g l r _ e => y.stop i G L M H g l r e⟩, hq⟩⟩
structure Src (K : PySem.W.Frag) (a : Addr) (xs : List Dt) (ok : Ms → Prop) (G0 : Hp) (L0 : List Addr) : Prop where
  at_ : ∀ G L M H, Same G0 G → Pre L0 L → Rl K G L M H → ok M → ∃ vs, SqL K H a vs ∧ DenL K G L xs vs
def lstK (M : Ms) : Dt → Option (List Dt × (Ms → Prop))
  | .lst xs => some (xs, fun _ => True)
  | .scr ns => some (ns.map .int, fun _ => True)
  | .loc k => match M[k]? with
    | some (.lst xs) => some (xs, fun M' => M'[k]? = some (.lst xs))
    | _ => none
  | _ => none
theorem src_of {K : PySem.W.Frag} {G : Hp} {L : List Addr} {M : Ms} {H : Hp} {d : Dt} {v : V} {xs : List Dt} {ok : Ms → Prop} (r : Rl K G L M H) (n : Den K G L d v) (h : lstK M d = some (xs, ok)) : ∃ a vs, v = .ref a ∧ SqL K H a vs ∧ Src K a xs ok G L ∧ ok M := by
  cases d with
  | lst ds =>
    cases h
    obtain ⟨a, vs, rfl, e, m⟩ := n
    exact ⟨a, vs, rfl, .of (r.sub _ _ e), ⟨fun G' L' M' H' g l r' _ => ⟨vs, .of (r'.sub _ _ (g _ _ e)), DenL.mono g l _ _ m⟩⟩, trivial⟩
  | scr ns =>
    cases h
    obtain ⟨a, rfl, e⟩ := n
    exact ⟨a, _, rfl, r.sub.seq e, ⟨fun G' L' M' H' g l r' _ => ⟨_, r'.sub.seq (g.seq e), denL_ints⟩⟩, trivial⟩
  | loc k =>
    obtain ⟨a, rfl, e⟩ := n
    have h : (match M[k]? with | some (.lst xs) => some (xs, fun M' : Ms => M'[k]? = some (.lst xs)) | _ => none) = some (xs, ok) := h
    split at h
    · rename_i ys hm
      cases h
      obtain ⟨_, vs, e1, m1⟩ := r.ats k a _ e hm
      refine ⟨a, vs, rfl, .of e1, ⟨fun G' L' M' H' g l r' hk => ?_⟩, hm⟩
      obtain ⟨_, vs2, e2, m2⟩ := r'.ats k a _ (l.get e) hk
      exact ⟨vs2, .of e2, m2⟩
    · cases h
  | _ => cases h
theorem ylk_list {K : PySem.W.Frag} {G : Hp} {L : List Addr} {a : Addr} {xs : List Dt} {ok : Ms → Prop} (s : Src K a xs ok G L) : YlK K (Itl K a) xs ok G L where
  go := fun i G1 L1 M1 H1 d g l r k e => by
    obtain ⟨vs, hs, n⟩ := s.at_ G1 L1 M1 H1 g l r k
    obtain ⟨v, e1, n1⟩ := n.get e
    exact ⟨⟨vs, v, hs, e1⟩, fun v' H' ⟨eH, y⟩ => by
      subst eH
      have e2 := y vs hs
      rw [e1] at e2; cases e2
      exact ⟨G1, .refl _ _ _, r, n1⟩⟩
  stop := fun i G1 L1 M1 H1 g l r k e => by
    obtain ⟨vs, hs, n⟩ := s.at_ G1 L1 M1 H1 g l r k
    exact ⟨vs, hs, by rw [← n.length]; exact e⟩
def iterK (M : Ms) : Dt → Option (List Dt × (Ms → Prop))
  | .loc k => lstK M (.loc k)
  | d => (iterD M d).map fun xs => (xs, fun _ => True)
def iSeqK (t : DE) : DK := fun ρ M q x => t ρ M (fun d M1 => match iterK M1 d with
  | some (xs, ok) => q xs ok M1
  | none => False) x
theorem jk_seq {X : Cx} {R : St → XK} {tg e : Expr} {te : DE} (h : JE X R e te) : JK X R tg e (iSeqK te) := by
  intro pins s σ H Q I ⟨G, L, ρ, M, q, x, rl, n, ht, hx, hQ⟩
  refine thn (h pins s σ H (Fin X.K G L H _) I ⟨G, L, ρ, M, _, x, rl, n, ht, hx, fun _ _ f => f⟩) fun u s1 ⟨v, H1, I1, rv, d, G1, L1, M1, e1, r1, n1, h1⟩ => ?_
  (try dsimp only at h1)
  cases hi : iterK M1 d with
  | none => rw [hi] at h1; exact h1.elim
  | some p =>
    obtain ⟨xs, ok⟩ := p
    rw [hi] at h1
    have fin : ∀ J, YlK X.K J xs ok G1 L1 → Q J H1 := fun J y => hQ J H1 ⟨xs, ok, G1, L1, M1, e1, r1, y, h1⟩
    have up : ∀ {J}, ok = (fun _ => True) → Yl X.K J xs G1 L1 → YlK X.K J xs ok G1 L1 := fun eo y => by
      subst eo
      exact ⟨fun i G L M H d g l r _ e => y.go i G L M H d g l r e, fun i G L M H g l r _ e => y.stop i G L M H g l r e⟩
    cases d with
    | loc k =>
      obtain ⟨a, vs, rfl, hs, sr, _⟩ := src_of r1 n1 hi
      cases rv
      exact it_list I1 hs (fin _ (ylk_list sr))
    | lst ds =>
      cases hi
      obtain ⟨a, vs, rfl, e, m⟩ := n1
      cases rv
      exact it_list I1 (vs := vs) (.of (r1.sub _ _ e)) (fin _ (up rfl (yl_list (fun G' g => .of (g _ _ e)) m)))
    | scr ns =>
      cases hi
      obtain ⟨a, rfl, e⟩ := n1
      cases rv
      exact it_list I1 (r1.sub.seq e) (fin _ (up rfl (yl_list (fun G' g => g.seq e) denL_ints)))
    | tup ds =>
      cases hi
      obtain ⟨a, vs, rfl, e, m⟩ := n1
      cases rv
      exact it_tup I1 (vs := vs) (.of (r1.sub _ _ e)) (fin _ (up rfl (yl_tup (fun G' g => .of (g _ _ e)) m)))
    | kt ds =>
      cases hi
      obtain ⟨a, vs, rfl, e, m⟩ := n1
      cases rv
      exact it_tup I1 (r1.sub.sqT e) (fin _ (up rfl (yl_tup (fun G' g => g.sqT e) m)))
    | str z =>
      cases hi
      cases n1
      obtain ⟨t, rfl⟩ := rv
      exact it_str I1 (fin _ (up rfl yl_str))
    | _ => cases hi
def forK (g : Dt → En → (En → Prop) → Prop) (tb : DS) (Dn : DEnds) (ok : Ms → Prop) : List Dt → En → Ms → Prop
  | [], ρ, M => ok M ∧ Dn.nx ρ M
  | x :: xs, ρ, M => ok M ∧ g x ρ fun ρ' => tb { Dn with nx := forK g tb Dn ok xs, ct := forK g tb Dn ok xs, bk := Dn.nx } ρ' M
def sForK (ti : DK) (g : Dt → En → (En → Prop) → Prop) (tb : DS) : DS := fun Dn ρ M => ti ρ M (fun xs ok M1 => forK g tb Dn ok xs ρ M1) Dn.x
section
variable {X : Cx} {R : St → XK} {tg iter : Expr} {body : List Stmt} {ti : DK} {gg : TG} {g : Dt → En → (En → Prop) → Prop} {tb : DS} {pos : Pos}
theorem js_forK (hi : JK X R tg iter ti) (hg : PG X tg gg) (gd : GD X.K gg g) (hb : JSs X R body tb) (hp : PassesOwn (model X.prog X.w) X.A X.env X.xe := by first | exact PassesOwn.never | exact PassesOwn.leaving) (hc : X.calm = true := by rfl) (hs : ∀ x, foldedSetIterable iter X.env x = pure x := by intro _; rfl) :
    JS X R (.For tg iter body [] pos) (sForK ti g tb) := .of (ps_for hp hc hi hg hb hs) fun σ H G L ρ M Dn rl n h hx => by
  refine ⟨G, L, ρ, M, _, _, rl, n, h, hx, fun J H1 ⟨xs, ok, G1, L1, M1, e1, r1, y, h1⟩ => ?_⟩
  refine ⟨fun i m σ' H' => m + i = xs.length ∧ FinN X.K G1 L1 H1 (fun ρ' M' => forK g tb Dn ok (xs.drop i) ρ' M') σ' H', ⟨xs.length, rfl, ρ, G1, L1, M1, .refl _ _ _, r1, n.mono e1, by rw [List.drop_zero]; exact h1⟩, ?_⟩
  rintro i m σ' H' ⟨hm, ρ', G', L', M', e', r', n', h'⟩
  by_cases hi : i < xs.length
  · right
    have hd : xs[i]? = some xs[i] := List.getElem?_eq_getElem hi
    rw [List.drop_eq_getElem_cons hi] at h'
    obtain ⟨hok, h'⟩ := h'
    obtain ⟨go, yl⟩ := y.go i G' L' M' H' _ e'.g e'.l r' hok hd
    refine ⟨go, FinN X.K G1 L1 H1 (fun ρ' M' => forK g tb Dn ok (xs.drop (i + 1)) ρ' M'), fun σ2 H2 f => ⟨m - 1, by omega, by omega, f⟩, fun v H2 hy => ?_⟩
    obtain ⟨G2, e2, r2, n2⟩ := yl v H2 hy
    refine gd G2 L' M' H2 _ v ρ' σ' _ _ r2 n2 (n'.mono e2) h' fun ρ3 σ3 n3 h3 => ?_
    refine ⟨G2, L', ρ3, M', _, r2, n3, h3, hx.on (e1.trans (e'.trans e2)), ⟨fun _ _ f => FinN.back (e'.trans e2) f, fun _ _ f => Fin.back (e1.trans (e'.trans e2)) f, fun _ _ f => FinN.back (e1.trans (e'.trans e2)) f, fun _ _ f => FinN.back (e'.trans e2) f⟩⟩
  · left
    rw [List.drop_eq_nil_of_le (by omega)] at h'
    exact ⟨y.stop i G' L' M' H' e'.g e'.l r' h'.1 (by omega), ρ', G', L', M', e1.trans e', r', n', h'.2⟩
end
def compK (te : DE) (cs : En) (ok : Ms → Prop) : List Dt → List Dt → Ms → (List Dt → Ms → Prop) → Prop
  | [], acc, M, k => ok M ∧ k acc M
  | x :: xs, acc, M, k => ok M ∧ te (some x :: cs) M (fun d M1 => compK te cs ok xs (acc ++ [d]) M1 k) noX
def dCompK (ti : DK) (te : DE) (caps : List Nat) : DE := fun ρ M q x => ti ρ M (fun xs ok M1 => xs.length ≤ sizeLine ∧ compK te (capD caps ρ) ok xs [] M1 (fun ys M2 => q (.lst ys) M2)) x
def dCompKM (ti : DK) (te : DE) (caps : List Nat) : DE := fun ρ M q x => ti ρ M (fun xs ok M1 => xs.length ≤ sizeLine ∧ compK te (capD caps ρ) ok xs [] M1 (fun ys M2 => q (.loc M2.length) (M2 ++ [.lst ys]))) x
theorem compK_rd {K : PySem.W.Frag} {J : It} {te : DE} {caps : List Nat} {ρ : En} {σ : St} {G1 : Hp} {L1 : List Addr} {M1 : Ms} {H1 : Hp} {xs : List Dt} {ok : Ms → Prop} {Dl : Addr} {Q : VK} {k : List Dt → Ms → Prop} (r1 : Rl K G1 L1 M1 H1) (n : EnD K G1 L1 ρ σ) (y : YlK K J xs ok G1 L1) (hD : H1 Dl = none) (hz : xs.length ≤ sizeLine)
    (h : compK te (capD caps ρ) ok xs [] M1 k)
    (fin : ∀ G2 L2 M2 H2 ds vs, Ex G1 L1 H1 G2 L2 H2 → Rl K G2 L2 M2 H2 → G2 Dl = none → Dl ∉ L2 → H2 Dl = some (.lst vs) → DenL K G2 L2 ds vs → k ds M2 → Q (.ref Dl) H2) :
    CompR J (lowE K (fun _ => E0) te) (capV caps σ) Q H1 Dl := by
  refine ⟨fun i m ys H2 => m + i = xs.length ∧ H2 Dl = some (.lst ys) ∧ ∃ acc G2 L2 M2, Ex G1 L1 H1 G2 L2 H2 ∧ Rl K G2 L2 M2 H2 ∧ G2 Dl = none ∧ Dl ∉ L2 ∧ DenL K G2 L2 acc ys ∧ acc.length = i ∧ compK te (capD caps ρ) ok (xs.drop i) acc M2 k, ⟨xs.length, rfl, upd_same, [], G1, L1, M1, ?_⟩, ?_⟩
  · have gn : G1 Dl = none := r1.sub.free hD
    refine ⟨⟨.refl _, .refl _, fun _ h _ => h, fun b u h1 _ => by rw [upd_ne (fun z => by rw [z, hD] at h1; cases h1)]; exact h1, fun _ h => .inl h, fun b h => by rw [upd_ne (fun z => h (by rw [z]; exact hD))]; exact h⟩, ⟨fun b u e => by rw [upd_ne (fun z => by rw [z, gn] at e; cases e)]; exact r1.sub b u e, r1.len, r1.nd, fun i a m h1 h2 => ?_⟩, gn, r1.memN hD, rfl, rfl, by rw [List.drop_zero]; exact h⟩
    obtain ⟨q1, q2⟩ := r1.ats i a m h1 h2
    exact ⟨q1, q2.mono (.refl _) (.refl _) (upd_ne fun z => q2.there (by rw [z]; exact hD))⟩
  · rintro i m ys H2 ⟨hm, hacc, acc, G2, L2, M2, e2, r2, g2, l2, n2, la, h2⟩
    refine ⟨hacc, ?_⟩
    by_cases hi : i < xs.length
    · right
      have hd : xs[i]? = some xs[i] := List.getElem?_eq_getElem hi
      rw [List.drop_eq_getElem_cons hi] at h2
      obtain ⟨hok, h2⟩ := h2
      obtain ⟨go, yl⟩ := y.go i G2 L2 M2 H2 _ e2.g e2.l r2 hok hd
      refine ⟨go, fun v H3 hy => ?_⟩
      obtain ⟨G3, e3, r3, n3⟩ := yl v H3 hy
      refine ⟨G3, L2, _, M2, _, noX, r3, cap_en ((n.mono e2).mono e3) caps n3, h2, xok_no, fun v4 H4 ⟨d4, G4, L4, M4, e4, r4, n4, h4⟩ => ?_⟩
      have h3 : H3 Dl = some (.lst ys) := e3.out _ _ hacc l2
      have g3 : G3 Dl = none := e3.fr _ g2 (by rw [hacc]; simp)
      have h4' : H4 Dl = some (.lst ys) := e4.out _ _ h3 l2
      have g4 : G4 Dl = none := e4.fr _ g3 (by rw [h3]; simp)
      have l4 : Dl ∉ L4 := fun z => (e4.new _ z).elim l2 fun q => by rw [h3] at q; cases q
      have e24 := e3.trans e4
      have lenys : ys.length = i := by rw [← n2.length]; exact la
      have ne1 : ∀ {b : Addr} {u : HO}, H1 b = some u → b ≠ Dl := fun e z => by rw [z, hD] at e; cases e
      refine ⟨h4', by omega, m - 1, by omega, by omega, upd_same, acc ++ [d4], G4, L4, M4, ?_, ?_, g4, l4, (DenL.mono e24.g e24.l _ _ n2).app ⟨_, _, rfl, n4, rfl⟩, by rw [List.length_append, la]; rfl, h4⟩
      · have e14 := e2.trans e24
        exact ⟨e14.g, e14.l, e14.fr, fun b u h1 h2 => by rw [upd_ne (ne1 h1)]; exact e14.out b u h1 h2, e14.new, fun b h => by
          by_cases hb : b = Dl
          · rw [hb, upd_same]; simp
          · rw [upd_ne hb]; exact e14.dom b h⟩
      · refine ⟨fun b u e => by rw [upd_ne (fun z => by rw [z, g4] at e; cases e)]; exact r4.sub b u e, r4.len, r4.nd, fun i a m h1 h2 => ?_⟩
        obtain ⟨q1, q2⟩ := r4.ats i a m h1 h2
        exact ⟨q1, q2.mono (.refl _) (.refl _) (upd_ne fun z => l4 (by rw [← z]; exact List.mem_of_getElem? h1))⟩
    · left
      rw [List.drop_eq_nil_of_le (by omega)] at h2
      exact ⟨y.stop i G2 L2 M2 H2 e2.g e2.l r2 h2.1 (by omega), fin G2 L2 M2 H2 acc ys e2 r2 g2 l2 hacc n2 h2.2⟩
section
variable {X : Cx} {R : St → XK} {elt iter : Expr} {x : Str} {px : Pos} {scope : Scope} {pos : Pos} {ti : DK} {te : DE} {ys : List Str} {caps : List Nat}
theorem j_compK (S : CompScope X scope x ys caps) (hi : JK X R (.Name x px) iter ti) (he : ∀ C s H fp, JE (Cx.comp X (x :: ys) scope C s H fp) (fun _ => E0) elt te) (hc : X.calm = true := by rfl) (hs : ∀ x, foldedSetIterable iter X.env x = pure x := by intro _; rfl) :
    JE X R (.ListComp elt [⟨.Name x px, iter, [], 0⟩] scope pos) (dCompK ti te caps) := .of (pe_comp (wi := lowK X.K R ti) (te := lowE X.K (fun _ => E0) te) S hc hi he hs) fun σ H G L ρ M q x rl n h hx => by
  refine ⟨G, L, ρ, M, _, x, rl, n, h, hx, fun J H1 ⟨xs, ok, G1, L1, M1, e1, r1, y, hz, h1⟩ D hD => ?_⟩
  exact compK_rd r1 (n.mono e1) y hD hz h1 fun G2 L2 M2 H2 ds vs e2 r2 g2 l2 h2 n2 k => Fin.back e1 (own_val e2 r2 hD g2 l2 h2 n2 k)
theorem js_setcompK {i : Nat} {y : Str} {py spos : Pos} (hN : X.N.Nodup) (hiy : X.N[i]? = some y) (hy : Loc X.env.scope y) (S : CompScope X scope x ys caps) (hi : JK X R (.Name x px) iter ti) (he : ∀ C s H fp, JE (Cx.comp X (x :: ys) scope C s H fp) (fun _ => E0) elt te) (hc : X.calm = true := by rfl)
    (hsw : swapsWith (.ListComp elt [⟨.Name x px, iter, [], 0⟩] scope pos) (some (.Name y py)) spos.line X.env = pure true := by rfl) (hs : ∀ x, foldedSetIterable iter X.env x = pure x := by intro _; rfl)
    (hf : X.fn y = true ∨ X.env.scope.names.lookup y = some .local := by first | exact .inl rfl | exact .inr rfl | assumption) :
    JS X R (.Assign [.Name y py] (.ListComp elt [⟨.Name x px, iter, [], 0⟩] scope pos) spos) (sSet i (dCompK ti te caps)) := .of (ps_setcomp (wi := lowK X.K R ti) (te := lowE X.K (fun _ => E0) te) hN hiy hy S hc hi he hsw hs hf) fun σ H G L ρ M Dn rl n h hx => by
  refine ⟨G, L, ρ, M, _, _, rl, n, h, hx, fun J H1 ⟨xs, ok, G1, L1, M1, e1, r1, y, hz, h1⟩ D hD => ?_⟩
  refine compK_rd r1 (n.mono e1) y hD hz h1 fun G2 L2 M2 H2 ds vs e2 r2 g2 l2 h2 n2 k => ?_
  obtain ⟨d, G3, L3, M3, e3, r3, n3, h3⟩ := own_val (q := fun d M => Dn.nx (ρ.set i (some d)) M) e2 r2 hD g2 l2 h2 n2 k
  exact ⟨_, G3, L3, M3, e1.trans e3, r3, ((n.mono e1).mono e3).set i n3, h3⟩
theorem js_setcompKM {i : Nat} {y : Str} {py spos : Pos} (hN : X.N.Nodup) (hiy : X.N[i]? = some y) (hy : Loc X.env.scope y) (S : CompScope X scope x ys caps) (hi : JK X R (.Name x px) iter ti) (he : ∀ C s H fp, JE (Cx.comp X (x :: ys) scope C s H fp) (fun _ => E0) elt te) (hc : X.calm = true := by rfl)
    (hsw : swapsWith (.ListComp elt [⟨.Name x px, iter, [], 0⟩] scope pos) (some (.Name y py)) spos.line X.env = pure true := by rfl) (hs : ∀ x, foldedSetIterable iter X.env x = pure x := by intro _; rfl)
    (hf : X.fn y = true ∨ X.env.scope.names.lookup y = some .local := by first | exact .inl rfl | exact .inr rfl | assumption) :
    JS X R (.Assign [.Name y py] (.ListComp elt [⟨.Name x px, iter, [], 0⟩] scope pos) spos) (sSet i (dCompKM ti te caps)) := .of (ps_setcomp (wi := lowK X.K R ti) (te := lowE X.K (fun _ => E0) te) hN hiy hy S hc hi he hsw hs hf) fun σ H G L ρ M Dn rl n h hx => by
  refine ⟨G, L, ρ, M, _, _, rl, n, h, hx, fun J H1 ⟨xs, ok, G1, L1, M1, e1, r1, y, hz, h1⟩ D hD => ?_⟩
  refine compK_rd r1 (n.mono e1) y hD hz h1 fun G2 L2 M2 H2 ds vs e2 r2 g2 l2 h2 n2 k => ?_
  obtain ⟨d, G3, L3, M3, e3, r3, n3, h3⟩ := own_loc (q := fun d M => Dn.nx (ρ.set i (some d)) M) e2 r2 hD g2 l2 h2 n2 k
  exact ⟨_, G3, L3, M3, e1.trans e3, r3, ((n.mono e1).mono e3).set i n3, h3⟩
end
end L2
set_option maxRecDepth 100000
set_option maxHeartbeats 4000000
namespace L2
open PySem PySem.Spec PyProof.Rows
theorem vals_intT : ∀ {ns : List Int} {us : List Value}, Vals (ns.map V.int) us → ∃ ts : List (Int × Tok), us = ts.map (fun p => Value.int p.1 p.2) ∧ ts.map (·.1) = ns
  | [], _, h => by cases h; exact ⟨[], rfl, rfl⟩
  | n :: ns, _, h => by
    cases h with
    | cons r t =>
      obtain ⟨tk, rfl⟩ := r
      obtain ⟨ts, rfl, rfl⟩ := vals_intT t
      exact ⟨(n, tk) :: ts, rfl, rfl⟩
def rSum (K : PySem.W.Frag) : List V → Hp → VK → Prop := fun xs H Q => ∃ (p : Addr) (ns : List Int), xs = [.ref p] ∧ SqL K H p (ns.map V.int) ∧ Q (.int ns.sum) H
theorem call_sum {X : Cx} (hc : X.calm = true) : CallR X (.builtin "sum") (rSum X.K) := by
  intro pins s σ H xs us Q I r h
  obtain ⟨p, ns, rfl, hq, q⟩ := h
  obtain ⟨u, rfl, r1⟩ := vals1 r
  cases r1
  obtain ⟨its, rv, pl, hz⟩ := I.list hq
  obtain ⟨ts, rfl, rfl⟩ := vals_intT rv
  have e : (ts.map fun p => Value.int p.1 p.2).toArray = intItems ts.toArray := by simp [intItems]
  have hl := pl.isList
  rw [e] at hl
  refine sum_intListG (I.ok.hd hc) hl fun h' tk t' hk => ?_
  refine ⟨.int (ts.map (·.1)).sum, H, I.kept hk, ⟨t', ?_⟩, q⟩
  rw [preSum_eq, List.take_of_length_le (by simp)]
def fSum : List Dt → Ms → DQ → Prop
  | [d], M, q => ∃ ns : List Int, seqD M d = some (ns.map .int) ∧ (∃ xs ok, lstK M d = some (xs, ok)) ∧ q (.int ns.sum) M
  | _, _, _ => False
theorem denL_intsv {K : PySem.W.Frag} {G : Hp} {L : List Addr} : ∀ {ns : List Int} {vs : List V}, DenL K G L (ns.map Dt.int) vs → vs = ns.map V.int
  | [], _, h => h
  | _ :: _, _, ⟨v, r, e, h1, h2⟩ => by
    have h1 : v = _ := h1
    rw [e, h1, denL_intsv h2]; rfl
theorem lstK_seq {M : Ms} {d : Dt} {xs : List Dt} {ok : Ms → Prop} (h : lstK M d = some (xs, ok)) : seqD M d = some xs := by
  cases d with
  | lst ds => cases h; rfl
  | scr ns => cases h; rfl
  | loc k =>
    have h : (match M[k]? with | some (.lst xs) => some (xs, fun M' : Ms => M'[k]? = some (.lst xs)) | _ => none) = some (xs, ok) := h
    show (match M[k]? with | some (.lst xs) => some xs | _ => none) = some xs
    split at h
    · rename_i ys hm; cases h; rfl
    · cases h
  | _ => cases h
theorem sumD {K : PySem.W.Frag} : CaD K (rSum K) fSum := by
  intro G0 L0 H0 G L M H vs ds q e r n h
  unfold fSum at h
  split at h
  · rename_i d
    obtain ⟨v, rfl, n1⟩ := denL_one n
    obtain ⟨ns, hs, ⟨xs, ok, hl⟩, hq⟩ := h
    obtain ⟨a, us, rfl, sq, sr, hok⟩ := src_of r n1 hl
    rw [lstK_seq hl] at hs
    cases hs
    obtain ⟨ws, sq2, dn⟩ := sr.at_ G L M H (.refl _) (.refl _) r hok
    rw [denL_intsv dn] at sq2
    exact ⟨a, ns, rfl, sq2, .int ns.sum, G, L, M, e, r, rfl, hq⟩
  · exact h.elim
theorem boot_sum' : bootBuiltins "sum" = some (.builtin "sum") := by decide +kernel
theorem boot_enum' : bootBuiltins "enumerate" = some (.type "enumerate") := by decide +kernel
section
variable {X : Cx} {R : St → XK} {e a b : Expr} {t : DA} {ta tb : DE} {p pos : Pos}
theorem j_sum (hm : X.mg "sum" = none) (ha : JA X R [e] t) (hc : X.calm = true := by rfl) (hg : Gl X "sum" := by rfl) (he : starEach [e] X.env = (false, eval e X.env) :: starEach [] X.env := by rfl) (hpl : (backTo pos (starEach [] X.env)).any (·.1) = false := by rfl) : JE X R (.Call (.Name "sum" p) [e] [] pos) (dFn fSum t) :=
  j_callB (call_sum hc) sumD hm boot_sum' ha hg (by decide) (by decide) he hpl
def fNotInQ : Dt → Dt → Ms → DQ → Prop := fun d e M q => ∃ u xs us, flatD d = some u ∧ seqD M e = some xs ∧ flatDs xs = some us ∧ q (.bl (!inV u us)) M
theorem notInQD {K : PySem.W.Frag} : OpD K (rIn K true) fNotInQ := by
  intro G0 L0 H0 G L M H v1 v2 d1 d2 q e r n1 n2 ⟨u, xs, us, h1, h2, h3, hq⟩
  obtain ⟨rfl, fu⟩ := flatD_is h1 n1
  obtain ⟨a, vs, rfl, sq, dn⟩ := seqD_is r n2 h2
  obtain ⟨rfl, fs⟩ := flatDs_is h3 dn
  exact ⟨a, vs, rfl, sq, fu, fs, .bl _, G, L, M, e, r, rfl, hq⟩
theorem jt_notinQ (ja : JE X R a ta) (jb : JE X R b tb) (hm : behindInMarks .NotIn b = false := by rfl) : JT X R (.Compare a [.NotIn] [b] pos) (tstD (dOp fNotInQ ta tb)) := jt_cmp op_notIn_seq notInQD ja jb hm
end
theorem Inv.turnedNew {X : Cx} {pins : List (Addr × Obj)} {σ : St} {H : Hp} {s : Shared} {h' : Heap} {its : List Addr} {T : Addr} {o : HO} {t' : Nat} (I : Inv X pins σ H s) (k : ∀ b u, b ∉ its → s.heap.get? b = some u → h'.get? b = some u) (f : ∀ b ∈ its, FpOk X pins H b) (hT : s.heap.objs.size ≤ T) (new : ObjOk X.prog X.w (upd H T o) h' T o) :
    Inv X pins σ (upd H T o) { s with heap := h', toks := t' } := by
  have hn := I.hok.fresh hT
  have nin : ∀ b u, H b = some u → b ∉ its := fun b u e z => by rw [(f b z).1] at e; cases e
  refine I.call (ch := its) (g' := s.gens) (d' := s.drawn) (t' := t') ⟨fun b u q _ _ hb => k b u hb q, fun b u q _ _ hb => ⟨u.slots, k b u hb q⟩, fun b u q n _ => ?_, fun b u q hb => ⟨u, k b u hb q⟩, fun b xs q => ?_, fun b u xs q => ?_, fun b ps q => ⟨#[], ?_⟩⟩ (fun b u e => ?_) I.bare fun b hb => ?_
  · rw [upd_ne (Nat.ne_of_lt (Nat.lt_of_lt_of_le (Heap.lt_size q) hT))]; exact n
  · rw [upd_ne (ne_of_none q hn)]; exact q
  · rw [upd_ne (ne_of_none q hn)]; exact q
  · rw [upd_ne (ne_of_none q hn), q]; simp
  · by_cases hb : b = T
    · subst hb; rw [upd_same] at e; cases e; exact new
    · rw [upd_ne hb] at e
      refine (I.hok b u e).stay (fun c v hc q => k c v ?_ q) (fun c q => by rw [upd_ne (ne_of_none q hn)]; exact q) fun c xs q => by rw [upd_ne (ne_of_none q hn)]; exact q
      rcases hc with z | z
      · rw [z]; exact nin b u e
      · exact nin c _ z
  · obtain ⟨f0, f1, f2, f3, f4, f5⟩ := f b hb
    exact ⟨f3, f1, f4, f5⟩
def Ite (K : PySem.W.Frag) (l : Addr) : It :=
  ⟨fun i H => ∃ xs x, SqL K H l xs ∧ xs[i]? = some x, fun i H v H' => ∃ p x, H p = none ∧ v = .ref p ∧ H' = upd H p (.tup [.int i, x]) ∧ ∀ xs, SqL K H l xs → xs[i]? = some x, fun i H => ∃ xs, SqL K H l xs ∧ xs.length ≤ i⟩
theorem turn_enum {P : Program} {w : World} {K : PySem.W.Frag} {elts : List Expr} {x1 : Nat} {tp : Pos} (l it e : Addr) (hne : e ≠ it) : Turn P w K (.Tuple elts x1 tp) (Ite K l) [e, it] e (fun i h => (∃ old, IsEnum h e it i old) ∧ h.IsListIter it l i) where
  mem := by simp
  obj := fun i h st b hb => by
    obtain ⟨⟨old, he⟩, hi⟩ := st
    rcases List.mem_cons.mp hb with rfl | hb
    · exact ⟨_, he, fun v z => by
        have z' : Data.fields _ = Data.cell v := z
        cases z'⟩
    · have e : b = it := by simpa using hb
      subst e
      obtain ⟨o, e, c, d⟩ := hi
      exact ⟨o, e, fun v z => by rw [d] at z; cases z⟩
  keep := fun i h h' st k => by
    obtain ⟨⟨old, he⟩, hi⟩ := st
    exact ⟨⟨old, k e (by simp) _ he⟩, hi.at fun o q => k it (by simp) o q⟩
  item := by
    intro X hP hw hK hc i pins s σ H E I hf st hg
    subst hP hw hK
    obtain ⟨⟨old, he⟩, hi⟩ := st
    obtain ⟨xs, x, hq, hx⟩ := hg
    obtain ⟨its, rv, p, hz⟩ := I.list hq
    obtain ⟨u, hu, ru⟩ := rv.get hx
    refine wpAny_pyNext_enum_item he hi p.isList (x := u) (by simpa using hu) hne fun h' ho hi' hT hsz hk => ?_
    refine ⟨_, rfl, wpAny_letOwnedTupleGo_enum (s := { s with heap := h', toks := s.toks + 1 }) ho fun h2 he2 sb => ?_⟩
    have sb : Heap.SameBut e h' h2 := sb
    have elt : e < s.heap.objs.size := Heap.lt_size he
    have ilt : it < s.heap.objs.size := by obtain ⟨o, q, _⟩ := hi; exact Heap.lt_size q
    have neT : s.heap.objs.size ≠ e := Nat.ne_of_gt elt
    have hT2 : h2.get? s.heap.objs.size = some { cls := .type "tuple", data := .seq #[.int i s.toks, u] } := (sb.2 _ neT).trans hT
    have I2 : Inv X pins σ (upd H s.heap.objs.size (.tup [.int i, x])) { s with heap := h2, toks := s.toks + 1 } := by
      refine I.turnedNew (its := [e, it]) (fun b o hb q => ?_) hf (Nat.le_refl _) ?_
      · have h1 : b ≠ e := fun z => hb (by simp [z])
        have h3 : b ≠ it := fun z => hb (by simp [z])
        exact (sb.2 b h1).trans (hk b o h1 h3 q)
      · refine ⟨by simp [sizeLine_eq], [.int i s.toks, u], .cons ⟨_, rfl⟩ (.cons ru .nil), ?_⟩
        exact ⟨_, hT2, rfl, 0, rfl⟩
    have iter : h2.IsListIter it l (i + 1) := hi'.at fun o q => (sb.2 it (Ne.symm hne)).trans q
    refine ⟨.ref s.heap.objs.size, _, I2, rfl, ⟨s.heap.objs.size, x, I.hok.fresh (Nat.le_refl _), rfl, rfl, fun ys hy => by rw [I.list_inj hy hq]; exact hx⟩, ⟨⟨u, by simpa using he2⟩, iter⟩, fun b hb => ?_⟩
    have nb : b ≠ s.heap.objs.size := by
      rcases List.mem_cons.mp hb with rfl | hb
      · exact Nat.ne_of_lt elt
      · have : b = it := by simpa using hb
        subst this; exact Nat.ne_of_lt ilt
    rw [upd_ne nb]; exact (hf b hb).1
  done := by
    intro X hP hw hK hc i pins s σ H E I hf st hg
    subst hP hw hK
    obtain ⟨⟨old, he⟩, hi⟩ := st
    obtain ⟨xs, hq, hx⟩ := hg
    obtain ⟨its, rv, p, hz⟩ := I.list hq
    have hl := rv.length
    obtain ⟨f0, f1, f2, f3, f4, f5⟩ := hf it (by simp)
    refine wpAny_pyNext_enum_end (I.ok.hd hc) he hi p.isList (by simp; omega) fun h' ext => ⟨rfl, I.turned (t' := s.toks) (fun b o hb q => ext b o hb q) f0 f1 f3 f4 f5⟩
  self := fun _ _ _ _ _ st h => by
    obtain ⟨⟨old, he⟩, _⟩ := st
    exact wpAny_pyIter_enum he h
def enumD : Nat → List Dt → List Dt
  | _, [] => []
  | n, x :: xs => .tup [.int n, x] :: enumD (n + 1) xs
theorem enumD_length : ∀ (n : Nat) (xs : List Dt), (enumD n xs).length = xs.length
  | _, [] => rfl
  | n, _ :: xs => by unfold enumD; rw [List.length_cons, List.length_cons, enumD_length]
theorem enumD_get : ∀ {n i : Nat} {xs : List Dt} {d : Dt}, (enumD n xs)[i]? = some d → ∃ x, xs[i]? = some x ∧ d = .tup [.int ((n + i : Nat) : Int), x]
  | n, i, [], d, h => by simp [enumD] at h
  | n, 0, x :: xs, d, h => by
    unfold enumD at h
    simp at h
    exact ⟨x, rfl, by rw [← h]; simp⟩
  | n, i + 1, x :: xs, d, h => by
    unfold enumD at h
    obtain ⟨y, h1, h2⟩ := enumD_get (n := n + 1) (i := i) (xs := xs) (d := d) (by simpa using h)
    exact ⟨y, by simpa using h1, by rw [h2, show n + 1 + i = n + (i + 1) by omega]⟩
theorem ylk_enum {K : PySem.W.Frag} {G : Hp} {L : List Addr} {a : Addr} {xs : List Dt} {ok : Ms → Prop} (s : Src K a xs ok G L) : YlK K (Ite K a) (enumD 0 xs) ok G L where
  go := fun i G1 L1 M1 H1 d g l r k e => by
    obtain ⟨vs, hs, n⟩ := s.at_ G1 L1 M1 H1 g l r k
    obtain ⟨y, ey, rfl⟩ := enumD_get e
    obtain ⟨v, e1, n1⟩ := n.get ey
    refine ⟨⟨vs, v, hs, e1⟩, fun v' H' ⟨p, x, hp, ev, eH, hx⟩ => ?_⟩
    subst ev eH
    have e2 := hx vs hs
    rw [e1] at e2; cases e2
    refine ⟨_, r.exG hp, r.newG hp, den_tup (ds := [.int ((0 + i : Nat) : Int), y]) r hp ⟨_, _, rfl, ?_, _, _, rfl, n1, rfl⟩⟩
    show V.int i = V.int _
    rw [Nat.zero_add]
  stop := fun i G1 L1 M1 H1 g l r k e => by
    obtain ⟨vs, hs, n⟩ := s.at_ G1 L1 M1 H1 g l r k
    exact ⟨vs, hs, by rw [← n.length, ← enumD_length 0]; exact e⟩
def iEnum (t : DA) : DK := fun ρ M q x => t ρ M (fun ds M1 => ∃ d xs ok, ds = [d] ∧ lstK M1 d = some (xs, ok) ∧ q (enumD 0 xs) ok M1) x
theorem jk_enum {X : Cx} {R : St → XK} {elts : List Expr} {x1 : Nat} {tp : Pos} {a : Expr} {t : DA} {p pos : Pos} (hm : X.mg "enumerate" = none) (ha : JA X R [a] t) (hg : Gl X "enumerate" := by rfl) (hs : starEach [a] X.env = [(false, eval a X.env)] := by rfl) : JK X R (.Tuple elts x1 tp) (.Call (.Name "enumerate" p) [a] [] pos) (iEnum t) := by
  intro pins s σ H Q I ⟨G, L, ρ, M, q, x, rl, n, ht, hx, hQ⟩
  refine Call_ (ld_blt I hg hm boot_enum' (PyProof.Rows.callWith_type1 (thn (ha pos pins s σ H (FinA X.K G L H _) I ⟨G, L, ρ, M, _, x, rl, n, ht, hx, fun _ _ f => f⟩) fun us s1 ⟨vs, H1, I1, rv, ds, G1, L1, M1, e1, r1, n1, d, xs, ok, ed, hl, h1⟩ => ?_) hs rfl))
  subst ed
  obtain ⟨v, rfl, n2⟩ := denL_one n1
  obtain ⟨b, ws, rfl, sq, sr, _⟩ := src_of r1 n2 hl
  obtain ⟨u, rfl, ru⟩ := Vals.one rv
  cases ru
  obtain ⟨its, _, pl, _⟩ := I1.list sq
  refine call_enumerate_list pl.isList fun h' he hi hz hk => ?_
  have I2 : Inv X pins σ H1 { s1 with heap := h' } := I1.kept (t' := s1.toks) hk
  refine wpAny_pyIter_enum (s := { s1 with heap := h' }) he ⟨s1.heap.objs.size + 1, [s1.heap.objs.size + 1, s1.heap.objs.size], _, _, H1, rfl, I2, turn_enum b s1.heap.objs.size (s1.heap.objs.size + 1) (Nat.ne_of_gt (Nat.lt_succ_self _)), ⟨⟨_, he⟩, hi⟩, fun c hc => ?_, hQ _ _ ⟨_, ok, G1, L1, M1, e1, r1, ylk_enum sr, h1⟩⟩
  have hc : s1.heap.objs.size ≤ c := by
    rcases List.mem_cons.mp hc with rfl | hc
    · exact Nat.le_succ _
    · have : c = s1.heap.objs.size := by simpa using hc
      rw [this]; exact Nat.le_refl _
  have f := I1.fpOk (H' := H1) hc (I1.hok.fresh hc)
  exact f
end L2
set_option maxRecDepth 100000
set_option maxHeartbeats 4000000
namespace L2
open PySem PySem.Spec PyProof.Rows
def kindM (M : Ms) : Dt → Option Value
  | .loc k => match M[k]? with
    | some (.lst _) => some (.type "list")
    | _ => none
  | d => kindD d
def fIsiM (K : PySem.W.Frag) : List Dt → Ms → DQ → Prop := fun ds M q => ∃ d c t t' b, ds = [d, c] ∧ kindM M d = some t ∧ clsD c = some t' ∧ PySem.W.kitOne K t t' = some b ∧ q (.bl b) M
section
variable {K : PySem.W.Frag}
theorem tyOf_kindM {G : Hp} {L : List Addr} {M : Ms} {H : Hp} {d : Dt} {v : V} {t : Value} (r : Rl K G L M H) (n : Den K G L d v) (h : kindM M d = some t) : TyOf K H v t := by
  by_cases hd : ∃ k, d = .loc k
  · obtain ⟨k, rfl⟩ := hd
    obtain ⟨a, rfl, e⟩ := n
    have h : (match M[k]? with | some (.lst _) => some (Value.type "list") | _ => none) = some t := h
    split at h
    · rename_i xs hm
      cases h
      obtain ⟨_, vs, e1, _⟩ := r.ats k a _ e hm
      exact .lst e1
    · cases h
  · refine tyOf_kind r n ?_
    cases d with
    | loc k => exact absurd ⟨k, rfl⟩ hd
    | _ => exact h
theorem isiMD : CaD K (fun xs H Q => ∃ x c t t' b, xs = [x, c] ∧ TyOf K H x t ∧ clsV c = some t' ∧ PySem.W.kitOne K t t' = some b ∧ Q (.bl b) H) (fIsiM K) := by
  intro G0 L0 H0 G L M H vs ds q e r n ⟨d, c, t, t', b, ed, h1, h2, hb, h⟩
  subst ed
  obtain ⟨v, u, rfl, n1, n2⟩ := denL_two n
  exact ⟨v, u, t, t', b, rfl, tyOf_kindM r n1 h1, cls_den n2 h2, hb, fin_v e r h⟩
end
section
variable {X : Cx} {R : St → XK} {e e2 : Expr} {t : DA} {p pos : Pos}
theorem j_isiM (K : PySem.W.Frag) (hm : X.mg "isinstance" = none) (ha : JA X R [e, e2] t) (he : starEach [e, e2] X.env = (false, eval e X.env) :: starEach [e2] X.env := by rfl) (hpl : (backTo pos (starEach [e2] X.env)).any (·.1) = false := by rfl) (hg : Gl X "isinstance" := by rfl) (hK : X.K = K := by rfl) : JE X R (.Call (.Name "isinstance" p) [e, e2] [] pos) (dFn (fIsiM K) t) := by
  subst hK
  exact j_callB call_isinst isiMD hm boot_isinstance' ha hg (by decide) (by decide) he hpl
end
theorem compK_map {te : DE} {cs : En} {ok : Ms → Prop} {f : Dt → Dt} : ∀ {xs acc : List Dt} {M : Ms} {k : List Dt → Ms → Prop}, ok M → (∀ x ∈ xs, ∀ q : DQ, q (f x) M → te (some x :: cs) M q noX) → k (acc ++ xs.map f) M → compK te cs ok xs acc M k
  | [], acc, M, k, ho, _, h => ⟨ho, by simpa using h⟩
  | x :: xs, acc, M, k, ho, hf, h => ⟨ho, hf x List.mem_cons_self _ (compK_map ho (fun y hy => hf y (List.mem_cons_of_mem _ hy)) (by simpa using h))⟩
theorem forK_map {g : Dt → En → (En → Prop) → Prop} {tb : DS} {Dn : DEnds} {ok : Ms → Prop} (J : List Dt → En → Ms → Prop) (hok : ∀ xs ρ M, J xs ρ M → ok M)
    (step : ∀ x xs ρ M, J (x :: xs) ρ M → (∀ ρ M, J xs ρ M → forK g tb Dn ok xs ρ M) → g x ρ fun ρ' => tb { Dn with nx := forK g tb Dn ok xs, ct := forK g tb Dn ok xs, bk := Dn.nx } ρ' M)
    (fin : ∀ ρ M, J [] ρ M → Dn.nx ρ M) : ∀ (xs : List Dt) (ρ : En) (M : Ms), J xs ρ M → forK g tb Dn ok xs ρ M
  | [], ρ, M, h => ⟨hok _ _ _ h, fin _ _ h⟩
  | x :: xs, ρ, M, h => ⟨hok _ _ _ h, step x xs ρ M h fun ρ' M' h' => forK_map J hok step fin xs ρ' M' h'⟩
end L2
set_option maxRecDepth 100000
set_option maxHeartbeats 4000000
namespace L2
open PySem PySem.Spec PyProof.Rows
section
variable {K : PySem.W.Frag} {G : Hp} {L : List Addr}
mutual
theorem den_un : ∀ (d : Dt) (v : V), Den K G L d v → d.under L.length
  | .non, _, _ => trivial
  | .bl _, _, _ => trivial
  | .int _, _, _ => trivial
  | .str _, _, _ => trivial
  | .tup ds, _, ⟨a, vs, e, h1, h2⟩ => denL_un ds vs h2
  | .lst ds, _, ⟨a, vs, e, h1, h2⟩ => denL_un ds vs h2
  | .obj C ns ds, _, ⟨a, dx, vs, e, h1, hl, h2⟩ => denL_un ds vs h2
  | .loc k, _, ⟨a, e, h1⟩ => (List.getElem?_eq_some_iff.mp h1).1
  | .ref _, _, _ => trivial
  | .ty _, _, _ => trivial
  | .scr _, _, _ => trivial
  | .kt ds, _, ⟨a, vs, e, h1, h2⟩ => denL_un ds vs h2
  | .exc _ _ ds, _, ⟨a, od, vs, e, h1, h2, h3, h4⟩ => denL_un ds vs h4
  | .exn _ _ _ _ ds, _, ⟨vs, e, h2, h3, h4⟩ => denL_un ds vs h4
theorem denL_un : ∀ (ds : List Dt) (vs : List V), DenL K G L ds vs → Dt.underL L.length ds
  | [], _, _ => trivial
  | d :: ds, _, ⟨v, r, e, h1, h2⟩ => ⟨den_un d v h1, denL_un ds r h2⟩
end
theorem Rl.un {M : Ms} {H : Hp} (r : Rl K G L M H) : ∀ m ∈ M, MO.under M.length m := fun m hm => by
  obtain ⟨k, hk, e⟩ := List.getElem_of_mem hm
  have em : M[k]? = some m := by rw [List.getElem?_eq_getElem hk, e]
  have el : L[k]? = some (L[k]'(by rw [r.len]; exact hk)) := List.getElem?_eq_getElem _
  obtain ⟨_, q⟩ := r.ats k _ m el em
  rw [← r.len]
  cases m with
  | lst ds => obtain ⟨vs, _, h⟩ := q; exact denL_un _ _ h
  | ins C ns ds => obtain ⟨dx, vs, _, _, h⟩ := q; exact denL_un _ _ h
  | dct ks ds => obtain ⟨vs, _, _, h⟩ := q; exact denL_un _ _ h
end
def frzU (M0 : Ms) (q : DQ) : DQ := fun d M => ∃ E d', M = M0 ++ E ∧ Frz M0.length E d d' ∧ q d' M0
theorem Fin.frzU {K : PySem.W.Frag} {G0 : Hp} {L0 : List Addr} {M0 : Ms} {H0 : Hp} {q : DQ} {v : V} {H : Hp} (r0 : Rl K G0 L0 M0 H0) (f : Fin K G0 L0 H0 (frzU M0 q) v H) : Fin K G0 L0 H0 q v H := by
  obtain ⟨d, G, L, M, ex, r, dn, E, d', e, fz, hq⟩ := f
  exact Fin.frz r0 ⟨d, G, L, M, ex, r, dn, M0, E, d', e, rfl, r0.un, fz, hq⟩
def dFz (t : DE) : DE := fun ρ M q x => t ρ M (frzU M q) x
theorem je_fz {X : Cx} {R : St → XK} {e : Expr} {t : DE} (h : JE X R e t) : JE X R e (dFz t) := .of h fun σ H G L ρ M q x rl n ht hx => ⟨G, L, ρ, M, _, x, rl, n, ht, hx, fun v H1 f => Fin.frzU rl f⟩
theorem fz_new {M0 E : Ms} {q : DQ} {d d' : Dt} (f : Frz M0.length E d d') (h : q d' M0) : frzU M0 q d (M0 ++ E) := ⟨E, d', rfl, f, h⟩
end L2
set_option maxRecDepth 100000
set_option maxHeartbeats 4000000
namespace L2
open PySem PySem.Spec PyProof.Rows
def constDs (f : Expr → Option Dt) : List Expr → Option (List Dt)
  | [] => some []
  | e :: es => match f e, constDs f es with
    | some d, some ds => some (d :: ds)
    | _, _ => none
def constD : Nat → Expr → Option Dt
  | 0, e => match e with
    | .Constant (.int i) _ _ => some (.int i)
    | .Constant (.str x) _ _ => some (.str x)
    | _ => none
  | n + 1, e => match e with
    | .Constant (.int i) _ _ => some (.int i)
    | .Constant (.str x) _ _ => some (.str x)
    | .Tuple es _ _ => if es.length ≤ 100 then (constDs (constD n) es).map .tup else none
    | .List es _ => if es.length ≤ 100 then (constDs (constD n) es).map .lst else none
    | _ => none
theorem star_const {n : Nat} {e : Expr} {d : Dt} {es : List Expr} {env : Env} (h : constD n e = some d) : starEach (e :: es) env = (false, eval e env) :: starEach es env := by
  cases n <;> (unfold constD at h; split at h <;> first | rfl | cases h)
theorem constDs_len {f : Expr → Option Dt} : ∀ {es : List Expr} {ds : List Dt}, constDs f es = some ds → ds.length = es.length
  | [], ds, h => by cases h; rfl
  | e :: es, ds, h => by
    unfold constDs at h
    split at h
    · rename_i d ds' h1 h2
      cases h
      rw [List.length_cons, List.length_cons, constDs_len h2]
    · cases h
section
variable {X : Cx} {R : St → XK}
theorem ja_const {n : Nat} (ih : ∀ (e : Expr) (d : Dt), constD n e = some d → JE X R e (dC d)) : ∀ (es : List Expr) (ds : List Dt), constDs (constD n) es = some ds → JA X R es (fun _ M q _ => q ds M)
  | [], ds, h => by cases h; exact ja_nil
  | e :: es, ds, h => by
    unfold constDs at h
    split at h
    · rename_i d ds' h1 h2
      cases h
      exact ja_cons (ih e d h1) (ja_const ih es ds' h2) (hs := star_const h1)
    · cases h
theorem size100 {n : Nat} (h : n ≤ 100) : n ≤ sizeLine := Nat.le_trans h (by decide)
theorem JE.imp {e : Expr} {t t' : DE} (h : JE X R e t) (hi : ∀ ρ M q x, t' ρ M q x → t ρ M q x) : JE X R e t' := .of h fun σ H G L ρ M q x rl n ht hx => ⟨G, L, ρ, M, q, x, rl, n, hi _ _ _ _ ht, hx, fun _ _ f => f⟩
theorem j_const : ∀ (n : Nat) {e : Expr} {d : Dt}, constD n e = some d → JE X R e (dC d)
  | 0, e, d, h => by
    unfold constD at h
    split at h
    · cases h; exact jint
    · cases h; exact jstr
    · cases h
  | n + 1, e, d, h => by
    unfold constD at h
    split at h
    · cases h; exact jint
    · cases h; exact jstr
    · split at h
      · rename_i es _ _ hl
        cases hc : constDs (constD n) es with
        | none => rw [hc] at h; cases h
        | some ds =>
          rw [hc] at h
          cases h
          exact (j_tup (ja_const (fun e d => j_const n) es ds hc)).imp fun ρ M q x hq => ⟨size100 (by rw [constDs_len hc]; exact hl), hq⟩
      · cases h
    · split at h
      · rename_i es _ hl
        cases hc : constDs (constD n) es with
        | none => rw [hc] at h; cases h
        | some ds =>
          rw [hc] at h
          cases h
          exact (j_lst (ja_const (fun e d => j_const n) es ds hc)).imp fun ρ M q x hq => ⟨size100 (by rw [constDs_len hc]; exact hl), hq⟩
      · cases h
    · cases h
end
end L2
set_option maxRecDepth 100000
set_option maxHeartbeats 4000000
namespace L2
open PySem PySem.Spec PyProof.Rows
theorem boot_zip' : bootBuiltins "zip" = some (.type "zip") := by decide +kernel
theorem Inv.turnedL {X : Cx} {pins : List (Addr × Obj)} {σ : St} {H : Hp} {s : Shared} {h' : Heap} {its : List Addr} {t' : Nat} (I : Inv X pins σ H s) (k : ∀ b u, b ∉ its → s.heap.get? b = some u → h'.get? b = some u) (f : ∀ b ∈ its, FpOk X pins H b) :
    Inv X pins σ H { s with heap := h', toks := t' } := by
  have nin : ∀ b u, H b = some u → b ∉ its := fun b u e z => by rw [(f b z).1] at e; cases e
  refine I.call (ch := its) (g' := s.gens) (d' := s.drawn) (t' := t') ⟨fun b u q _ _ hb => k b u hb q, fun b u q _ _ hb => ⟨u.slots, k b u hb q⟩, fun b u q n _ => n, fun b u q hb => ⟨u, k b u hb q⟩, fun b xs q => q, fun b u xs q => q, fun b ps q => ⟨#[], by rw [q]; simp⟩⟩ (fun b u e => ?_) I.bare fun b hb => ?_
  · refine (I.hok b u e).stay (fun c v hc q => k c v ?_ q) (fun c q => q) fun c xs q => q
    rcases hc with z | z
    · rw [z]; exact nin b u e
    · exact nin c _ z
  · obtain ⟨f0, f1, f2, f3, f4, f5⟩ := f b hb
    exact ⟨f3, f1, f4, f5⟩
def Itz (K : PySem.W.Frag) (l1 l2 : Addr) : It :=
  ⟨fun i H => ∃ xs ys x y, SqL K H l1 xs ∧ SqL K H l2 ys ∧ xs[i]? = some x ∧ ys[i]? = some y,
   fun i H v H' => ∃ p x y, H p = none ∧ v = .ref p ∧ H' = upd H p (.tup [x, y]) ∧ (∀ xs, SqL K H l1 xs → xs[i]? = some x) ∧ ∀ ys, SqL K H l2 ys → ys[i]? = some y,
   fun i H => ∃ xs ys, SqL K H l1 xs ∧ SqL K H l2 ys ∧ (xs.length ≤ i ∨ ys.length ≤ i)⟩
theorem turn_zip {P : Program} {w : World} {K : PySem.W.Frag} {elts : List Expr} {x1 : Nat} {tp : Pos} {l1 l2 i1 i2 TI TO z : Addr} (D : ZipApart z TI TO i1 i2 l1 l2) : Turn P w K (.Tuple elts x1 tp) (Itz K l1 l2) [z, TI, TO, i1, i2] z (fun i h => (∃ a b, IsZip h z TI TO .none ∧ IsPair h TI (.ref i1) (.ref i2) ∧ IsPair h TO a b) ∧ h.IsListIter i1 l1 i ∧ h.IsListIter i2 l2 i) where
  mem := by simp
  obj := fun i h st b hb => by
    obtain ⟨⟨a, c, hz, hTI, hTO⟩, h1, h2⟩ := st
    simp only [List.mem_cons, List.not_mem_nil, or_false] at hb
    rcases hb with rfl | rfl | rfl | rfl | rfl
    · exact ⟨_, hz, fun v z => by
        have z' : Data.fields _ = Data.cell v := z
        cases z'⟩
    · exact ⟨_, hTI, fun v z => by
        have z' : Data.seq _ = Data.cell v := z
        cases z'⟩
    · exact ⟨_, hTO, fun v z => by
        have z' : Data.seq _ = Data.cell v := z
        cases z'⟩
    · obtain ⟨o, e, c, d⟩ := h1
      exact ⟨o, e, fun v z => by rw [d] at z; cases z⟩
    · obtain ⟨o, e, c, d⟩ := h2
      exact ⟨o, e, fun v z => by rw [d] at z; cases z⟩
  keep := fun i h h' st k => by
    obtain ⟨⟨a, c, hz, hTI, hTO⟩, h1, h2⟩ := st
    exact ⟨⟨a, c, k z (by simp) _ hz, k TI (by simp) _ hTI, k TO (by simp) _ hTO⟩, h1.at fun o q => k i1 (by simp) o q, h2.at fun o q => k i2 (by simp) o q⟩
  item := by
    intro X hP hw hK hc i pins s σ H E I hf st hg
    subst hP hw hK
    obtain ⟨⟨a, c, hz, hTI, hTO⟩, h1, h2⟩ := st
    obtain ⟨xs, ys, x, y, hq1, hq2, hx, hy⟩ := hg
    obtain ⟨its1, rv1, p1, _⟩ := I.list hq1
    obtain ⟨u1, hu1, ru1⟩ := rv1.get hx
    obtain ⟨its2, rv2, p2, _⟩ := I.list hq2
    obtain ⟨u2, hu2, ru2⟩ := rv2.get hy
    refine wpAny_pyNext_zip_item D hz hTI hTO h1 h2 p1.isList p2.isList (x := u1) (y := u2) (by simpa using hu1) (by simpa using hu2) fun h' hz' hTO' h1' h2' hT hsz hk => ?_
    refine ⟨_, rfl, wpAny_letOwnedTupleGo_zip (s := { s with heap := h' }) hz' fun h3 hz3 sb => ?_⟩
    have sb : Heap.SameBut z h' h3 := sb
    have zlt : z < s.heap.objs.size := Heap.lt_size hz
    have neT : s.heap.objs.size ≠ z := Nat.ne_of_gt zlt
    have hT3 : h3.get? s.heap.objs.size = some { cls := .type "tuple", data := .seq #[u1, u2] } := (sb.2 _ neT).trans hT
    have lt : ∀ b ∈ [z, TI, TO, i1, i2], b < s.heap.objs.size := fun b hb => by
      simp only [List.mem_cons, List.not_mem_nil, or_false] at hb
      rcases hb with rfl | rfl | rfl | rfl | rfl
      · exact zlt
      · exact Heap.lt_size hTI
      · exact Heap.lt_size hTO
      · obtain ⟨o, q, _⟩ := h1; exact Heap.lt_size q
      · obtain ⟨o, q, _⟩ := h2; exact Heap.lt_size q
    have I2 : Inv X pins σ (upd H s.heap.objs.size (.tup [x, y])) { s with heap := h3, toks := s.toks } := by
      refine I.turnedNew (its := [z, TI, TO, i1, i2]) (fun b o hb q => ?_) hf (Nat.le_refl _) ?_
      · simp only [List.mem_cons, List.not_mem_nil, or_false, not_or] at hb
        obtain ⟨b1, b2, b3, b4, b5⟩ := hb
        exact (sb.2 b b1).trans (hk b o b1 b3 b4 b5 q)
      · refine ⟨by simp [sizeLine_eq], [u1, u2], .cons ru1 (.cons ru2 .nil), ?_⟩
        exact ⟨_, hT3, rfl, 0, rfl⟩
    refine ⟨.ref s.heap.objs.size, _, I2, rfl, ⟨s.heap.objs.size, x, y, I.hok.fresh (Nat.le_refl _), rfl, rfl, fun zs hzs => by rw [I.list_inj hzs hq1]; exact hx, fun zs hzs => by rw [I.list_inj hzs hq2]; exact hy⟩, ⟨⟨u1, u2, hz3, (sb.2 _ D.TIz).trans (hk _ _ D.TIz D.TITO D.TIi1 D.TIi2 hTI), (sb.2 _ D.TOz).trans hTO'⟩, h1'.at fun o q => (sb.2 i1 D.i1z).trans q, h2'.at fun o q => (sb.2 i2 D.i2z).trans q⟩, fun b hb => ?_⟩
    rw [upd_ne (Nat.ne_of_lt (lt b hb))]; exact (hf b hb).1
  done := by
    intro X hP hw hK hc i pins s σ H E I hf st hg
    subst hP hw hK
    obtain ⟨⟨a, c, hz, hTI, hTO⟩, h1, h2⟩ := st
    obtain ⟨xs, ys, hq1, hq2, hx⟩ := hg
    obtain ⟨its1, rv1, p1, _⟩ := I.list hq1
    obtain ⟨its2, rv2, p2, _⟩ := I.list hq2
    have hl1 := rv1.length
    have hl2 := rv2.length
    refine wpAny_pyNext_zip_end (I.ok.hd hc) D hz hTI hTO h1 h2 p1.isList p2.isList (by rcases hx with hx | hx; · left; simp; omega
                                                                                        · right; simp; omega) fun h' ext => ⟨rfl, I.turnedL (t' := s.toks) (its := [z, TI, TO, i1, i2]) (fun b o hb q => ?_) hf⟩
    simp only [List.mem_cons, List.not_mem_nil, or_false, not_or] at hb
    obtain ⟨b1, b2, b3, b4, b5⟩ := hb
    exact ext b o b1 b3 b4 b5 q
  self := fun _ _ _ _ _ st h => by
    obtain ⟨⟨a, c, hz, _, _⟩, _⟩ := st
    exact wpAny_pyIter_zip hz h
def zipD (xs ys : List Dt) : List Dt := (xs.zip ys).map fun p => .tup [p.1, p.2]
theorem zipD_get {xs ys : List Dt} {i : Nat} {d : Dt} (h : (zipD xs ys)[i]? = some d) : ∃ x y, xs[i]? = some x ∧ ys[i]? = some y ∧ d = .tup [x, y] := by
  unfold zipD at h
  rw [List.getElem?_map] at h
  cases e : (xs.zip ys)[i]? with
  | none => rw [e] at h; cases h
  | some p =>
    rw [e] at h
    cases h
    obtain ⟨h1, h2⟩ := List.getElem?_zip_eq_some.mp e
    exact ⟨p.1, p.2, h1, h2, rfl⟩
theorem zipD_length (xs ys : List Dt) : (zipD xs ys).length = min xs.length ys.length := by
  unfold zipD; rw [List.length_map, List.length_zip]
theorem ylk_zip {K : PySem.W.Frag} {G : Hp} {L : List Addr} {a b : Addr} {xs ys : List Dt} {ok ok' : Ms → Prop} (s : Src K a xs ok G L) (s' : Src K b ys ok' G L) : YlK K (Itz K a b) (zipD xs ys) (fun M => ok M ∧ ok' M) G L where
  go := fun i G1 L1 M1 H1 d g l r k e => by
    obtain ⟨vs, hs, n⟩ := s.at_ G1 L1 M1 H1 g l r k.1
    obtain ⟨vs', hs', n'⟩ := s'.at_ G1 L1 M1 H1 g l r k.2
    obtain ⟨x, y, ex, ey, rfl⟩ := zipD_get e
    obtain ⟨v, e1, n1⟩ := n.get ex
    obtain ⟨v', e1', n1'⟩ := n'.get ey
    refine ⟨⟨vs, vs', v, v', hs, hs', e1, e1'⟩, fun w H' ⟨p, x2, y2, hp, ev, eH, hx, hy⟩ => ?_⟩
    subst ev eH
    have e2 := hx vs hs
    rw [e1] at e2; cases e2
    have e3 := hy vs' hs'
    rw [e1'] at e3; cases e3
    exact ⟨_, r.exG hp, r.newG hp, den_tup (ds := [x, y]) r hp ⟨_, _, rfl, n1, _, _, rfl, n1', rfl⟩⟩
  stop := fun i G1 L1 M1 H1 g l r k e => by
    obtain ⟨vs, hs, n⟩ := s.at_ G1 L1 M1 H1 g l r k.1
    obtain ⟨vs', hs', n'⟩ := s'.at_ G1 L1 M1 H1 g l r k.2
    refine ⟨vs, vs', hs, hs', ?_⟩
    rw [← n.length, ← n'.length]
    rw [zipD_length] at e
    omega
def iZip (t : DA) : DK := fun ρ M q x => t ρ M (fun ds M1 => ∃ d d' xs ys ok ok', ds = [d, d'] ∧ lstK M1 d = some (xs, ok) ∧ lstK M1 d' = some (ys, ok') ∧ q (zipD xs ys) (fun M => ok M ∧ ok' M) M1) x
theorem jk_zip {X : Cx} {R : St → XK} {elts : List Expr} {x1 : Nat} {tp : Pos} {a a' : Expr} {t : DA} {p pos : Pos} (hm : X.mg "zip" = none) (ha : JA X R [a, a'] t) (hg : Gl X "zip" := by rfl) (hs : starEach [a, a'] X.env = (false, eval a X.env) :: starEach [a'] X.env := by rfl) (hpl : (backTo pos (starEach [a'] X.env)).any (·.1) = false := by rfl) : JK X R (.Tuple elts x1 tp) (.Call (.Name "zip" p) [a, a'] [] pos) (iZip t) := by
  intro pins s σ H Q I ⟨G, L, ρ, M, q, x, rl, n, ht, hx, hQ⟩
  refine Call_ (ld_blt I hg hm boot_zip' (PyProof.Rows.callWith_type1 (thn (ha pos pins s σ H (FinA X.K G L H _) I ⟨G, L, ρ, M, _, x, rl, n, ht, hx, fun _ _ f => f⟩) fun us s1 ⟨vs, H1, I1, rv, ds, G1, L1, M1, e1, r1, n1, d, d', xs, ys, ok, ok', ed, hl, hl', h1⟩ => ?_) hs hpl))
  subst ed
  obtain ⟨v, v', rfl, n2, n2'⟩ := denL_two n1
  obtain ⟨b, ws, rfl, sq, sr, _⟩ := src_of r1 n2 hl
  obtain ⟨b', ws', rfl, sq', sr', _⟩ := src_of r1 n2' hl'
  cases rv with
  | cons ru rv =>
    cases rv with
    | cons ru' rv =>
      cases rv
      cases ru
      cases ru'
      obtain ⟨its, _, pl, _⟩ := I1.list sq
      obtain ⟨its', _, pl', _⟩ := I1.list sq'
      have lt1 : b < s1.heap.objs.size := by obtain ⟨o, q, _⟩ := pl.isList; exact Heap.lt_size q
      have lt2 : b' < s1.heap.objs.size := by obtain ⟨o, q, _⟩ := pl'.isList; exact Heap.lt_size q
      refine call_zip_2 pl.isList pl'.isList fun h' hz hTI hTO hi hi' hsz hk => ?_
      have I2 : Inv X pins σ H1 { s1 with heap := h' } := I1.kept (t' := s1.toks) hk
      have D : ZipApart (s1.heap.objs.size + 4) (s1.heap.objs.size + 2) (s1.heap.objs.size + 3) s1.heap.objs.size (s1.heap.objs.size + 1) b b' := by
        have ne : ∀ i j : Nat, i ≠ j → s1.heap.objs.size + i ≠ s1.heap.objs.size + j := fun i j h z => h (Nat.add_left_cancel z)
        have n1 : ∀ i : Nat, b ≠ s1.heap.objs.size + i := fun i => Nat.ne_of_lt (Nat.lt_of_lt_of_le lt1 (Nat.le_add_right _ _))
        have n2 : ∀ i : Nat, b' ≠ s1.heap.objs.size + i := fun i => Nat.ne_of_lt (Nat.lt_of_lt_of_le lt2 (Nat.le_add_right _ _))
        exact ⟨ne 2 4 (by decide), ne 3 4 (by decide), ne 0 4 (by decide), ne 1 4 (by decide), ne 2 3 (by decide), ne 2 0 (by decide), ne 2 1 (by decide), ne 3 0 (by decide), ne 3 1 (by decide), ne 0 1 (by decide), n1 4, n1 3, n1 0, n1 1, n2 4, n2 3, n2 0, n2 1⟩
      refine wpAny_pyIter_zip (s := { s1 with heap := h' }) hz ⟨s1.heap.objs.size + 4, [s1.heap.objs.size + 4, s1.heap.objs.size + 2, s1.heap.objs.size + 3, s1.heap.objs.size, s1.heap.objs.size + 1], _, _, H1, rfl, I2, turn_zip D, ⟨⟨_, _, hz, hTI, hTO⟩, hi, hi'⟩, fun c hc => ?_, hQ _ _ ⟨_, _, G1, L1, M1, e1, r1, ylk_zip sr sr', h1⟩⟩
      have hc : s1.heap.objs.size ≤ c := by
        simp only [List.mem_cons, List.not_mem_nil, or_false] at hc
        rcases hc with rfl | rfl | rfl | rfl | rfl
        · exact Nat.le_add_right _ _
        · exact Nat.le_add_right _ _
        · exact Nat.le_add_right _ _
        · exact Nat.le_refl _
        · exact Nat.le_add_right _ _
      have f := I1.fpOk (H' := H1) hc (I1.hok.fresh hc)
      exact f
end L2
set_option maxRecDepth 100000
set_option maxHeartbeats 4000000
namespace L2
open PySem PySem.Spec PyProof.Rows
theorem compTurn_listIf (elt target iter c : Expr) (scope : Scope) (pos : Pos) (it acc : Value) (env : Env) :
    compTurn (.ListComp elt [⟨target, iter, [c], 0⟩] scope pos) 0 it acc env = (standAt iter.pos >>= fun _ => pyNext it >>= fun r => match r with
      | none => pure (.done .next)
      | some v => letOwnedTupleGo target it v >>= fun _ => assign target env v >>= fun _ => isTrue c env (eval c env) >>= fun ok =>
        (if ok = true then (eval elt env >>= fun x => call (.builtin "list.append") [acc, x] >>= fun _ => pure ()) >>= fun _ => again (.compLoop (.ListComp elt [⟨target, iter, [c], 0⟩] scope pos) 0 it acc env)
          else again (.compLoop (.ListComp elt [⟨target, iter, [c], 0⟩] scope pos) 0 it acc env))) := by
  unfold compTurn
  dsimp only [List.getElem?_cons_zero, List.getElem?_cons_succ, List.getElem?_nil]
  simp only [List.forIn_cons, List.forIn_nil, bind_assoc, pure_bind, if_true]
  rfl
structure CompScopeT (X : Cx) (scope : Scope) (xs ys : List Str) (caps : List Nat) : Prop where
  kind : scope.kind = .function
  nocell : ∀ p ∈ scope.names, p.2 ≠ .cell
  names : ∀ p ∈ scope.names, p.2 = .local → scope.names.lookup p.1 = some .local
  own : ∀ x ∈ xs, scope.names.lookup x = some .local
  free : ∀ p ∈ scope.names, p.2 = .free → X.env.scope.names.lookup p.1 = some .cell
  nd : (xs ++ ys).Nodup
  cap : ∀ q ∈ ys.zip caps, X.N[q.2]? = some q.1 ∧ X.env.scope.names.lookup q.1 = some .cell ∧ scope.names.lookup q.1 = some .free
  len : ys.length = caps.length
theorem CompScopeT.has {X : Cx} {scope : Scope} {xs ys : List Str} {caps : List Nat} (S : CompScopeT X scope xs ys caps) (ok : X.Ok) : ∀ p ∈ scope.names, p.2 = .free → (X.env.cells.lookup p.1).isSome = true := fun p hp hf => by
  obtain ⟨c, e⟩ := ok.has p.1 (.inl (S.free p hp hf))
  rw [e]; rfl
def Keeps (n : Nat) (gg : TG) : Prop := ∀ v (os cs : St) H (Q : St → Hp → Prop), os.length = n → gg v (os ++ cs) H Q → gg v (os ++ cs) H fun σ' H' => (∃ os' : St, os'.length = n ∧ σ' = os' ++ cs) ∧ Q σ' H'
theorem keeps_name {n i : Nat} (h : i < n) : Keeps n (gName i) := fun v os cs H Q hl hq => ⟨⟨os.set i (some v), by rw [List.length_set]; exact hl, List.set_append_left _ _ (by omega)⟩, hq⟩
theorem keeps_two {K : PySem.W.Frag} {n i j : Nat} (h : i < n) (h' : j < n) : Keeps n (gTup K 2 (gCons (gName i) (gCons (gName j) gNil))) :=
  fun v os cs H Q hl ⟨a, xs, e, s, l, v1, r, e1, v2, r2, e2, e3, q⟩ => ⟨a, xs, e, s, l, v1, r, e1, v2, r2, e2, e3, ⟨(os.set i (some v1)).set j (some v2), by simp [hl], by
    rw [List.set_append_left _ _ (by omega), List.set_append_left _ _ (by rw [List.length_set]; omega)]⟩, q⟩
def CompRT (J : It) (n : Nat) (gg : TG) (tc : TT) (te : TE) (cs : St) (Q : VK) (H1 : Hp) (D : Addr) : Prop :=
  ∃ W : Nat → Nat → List V → Hp → Prop, (∃ m, W 0 m [] (upd H1 D (.lst []))) ∧ ∀ i m ys H2, W i m ys H2 → H2 D = some (.lst ys) ∧
    ((J.stop i H2 ∧ Q (.ref D) H2) ∨ (J.go i H2 ∧ ∀ x H3, J.yld i H2 x H3 → ∀ os : St, os.length = n → gg x (os ++ cs) H3 fun σ' H3' => tc σ' H3' fun b H4 => match b with
      | true => te σ' H4 fun y H5 => H5 D = some (.lst ys) ∧ ys.length < sizeLine ∧ ∃ m', m' < m ∧ W (i + 1) m' (ys ++ [y]) (upd H5 D (.lst (ys ++ [y])))
      | false => ∃ m', m' < m ∧ W (i + 1) m' ys H4))
def tCompT (wi : TI) (n : Nat) (gg : TG) (tc : TT) (te : TE) (caps : List Nat) : TE := fun σ H Q => wi σ H fun J H1 => ∀ D, H1 D = none → CompRT J n gg tc te (capV caps σ) Q H1 D
section
variable {X : Cx} {elt iter tg c : Expr} {xs : List Str} {scope : Scope} {pos : Pos} {wi : TI} {gg : TG} {tc : TT} {te : TE} {ys : List Str} {caps : List Nat}
theorem comp_runT (S : CompScopeT X scope xs ys caps) (hc : X.calm = true) (hg : ∀ C s H fp, PG (Cx.comp X (xs ++ ys) scope C s H fp) tg gg) (hk : Keeps xs.length gg) (ht : ∀ C s H fp, PT (Cx.comp X (xs ++ ys) scope C s H fp) c tc) (he : ∀ C s H fp, PE (Cx.comp X (xs ++ ys) scope C s H fp) elt te)
    {pins : List (Addr × Obj)} {σ : St} {H2 : Hp} {s2 : Shared} {it : Addr} {fp : List Addr} {tn : Nat → Heap → Prop} {J : It} {Q : V → Hp → Prop} {PQ : Value → Addr → Result → Shared → Prop} (I : Inv X pins σ H2 s2) (T : Turn X.prog X.w X.K tg J fp it tn) (t0 : tn 0 s2.heap) (f2 : ∀ b ∈ fp, FpOk X pins H2 b)
    (h : ∀ D, H2 D = none → CompRT J xs.length gg tc te (capV caps σ) Q H2 D)
    (hPQ : ∀ D C s' H', Inv X pins σ H' s' → Q (.ref D) H' → (∃ m, s'.heap.Ns C m) → H' C = none → X.s₀.heap.objs.size ≤ C → C ≠ X.env.locals → (∀ z c, X.env.cells.lookup z = some c → c ≠ C) → (∀ p ∈ X.pn ++ pins, p.1 ≠ C) → PQ (.ref D) C (.ok .next) s') :
    wpAny (model X.prog X.w) X.A (newList []) (fun acc s3 => wpAny (model X.prog X.w) X.A (newFunctionEnv scope X.env.globals (clOf X.env scope.names []) [] X.env.qual none .none (some X.env)) (fun cenv s4 =>
      codeAny (model X.prog X.w) X.A (.compStart (.ListComp elt [⟨tg, iter, [c], 0⟩] scope pos) 0 (.ref it) acc { cenv with scope := relabel scope X.env }) (PQ acc cenv.locals) s4) X.xe s3) X.xe s2 := by
  have hD : H2 s2.heap.objs.size = none := I.fresh
  obtain ⟨W, ⟨m0, w0⟩, step⟩ := h _ hD
  refine wpAny_newObj_type ?_
  have I3 : Inv X pins σ (upd H2 s2.heap.objs.size (.lst [])) { s2 with heap := s2.heap.push { cls := .type "list", data := .seq ([] : List Value).toArray } } := Inv.lnew (t' := s2.toks) I (ys := []) (its := []) .nil (Nat.zero_le _)
  generalize hH3 : upd H2 s2.heap.objs.size (.lst []) = H3 at I3 w0
  generalize hs3 : ({ s2 with heap := s2.heap.push { cls := .type "list", data := .seq ([] : List Value).toArray } } : Shared) = s3 at I3
  have hfp3 : ∀ b ∈ fp, H3 b = none := fun b hb => by
    obtain ⟨o, e, _⟩ := T.obj _ _ t0 b hb
    rw [← hH3, upd_ne (Nat.ne_of_lt (Heap.lt_size e))]
    exact (f2 b hb).1
  have t3 : tn 0 s3.heap := T.keep _ _ _ t0 fun b hb o e => by rw [← hs3]; exact Heap.get?_push_of_some _ e
  refine wpAny_newFunctionEnv S.nocell (fun y hy => nomatch hy) (fun h4 ns4 sb4 => ?_) S.kind
  have hC : H3 s3.heap.objs.size = none := I3.fresh
  have kp : ∀ b o, s3.heap.get? b = some o → h4.get? b = some o := fun b o e =>
    (sb4.2 b (Nat.ne_of_lt (Heap.lt_size e))).trans (Heap.get?_push_of_some _ e)
  generalize hs4 : ({ s3 with heap := h4, toks := s3.toks + ([] : List (Str × Value)).length } : Shared) = s4
  have e4 : s4.heap = h4 := by rw [← hs4]
  have cne : ∀ z c, X.env.cells.lookup z = some c → c ≠ s3.heap.objs.size := fun z c e q => by
    obtain ⟨v, w⟩ := I3.cell z c e
    exact Nat.lt_irrefl _ (q ▸ w.lt)
  have cl_in : ∀ z c, (clOf X.env scope.names []).lookup z = some c → X.env.cells.lookup z = some c := fun z c e => clOf_look scope.names [] (S.has I.ok) (fun q => nomatch q) e
  have Lne : s3.heap.objs.size ≠ X.env.locals := Nat.ne_of_gt I3.lt
  have ok : (Cx.comp X (xs ++ ys) scope s3.heap.objs.size s3 H3 fp).Ok := by
    refine ⟨I3.ok.mod, S.kind, I3.ok.glob, I3.ok.blt, Nat.le_refl _, fun z z' c e1 e2 => I3.ok.inj z z' c (cl_in z c e1) (cl_in z' c e2), fun z hz => ?_, fun z c hz => (by cases hz), I3.ok.hd, I3.ok.frames, .inl rfl, fun b hb => ⟨?_, fun z c e => ?_⟩, I3.bs, ?_, fun b o e hb => ?_, fun b hb hf => ?_, I3.stack, I3.stkFree⟩
    · have := clOf_has (env := X.env) scope.names [] (.inl (rel_in S.nocell hz))
      exact Option.isSome_iff_exists.mp this
    · obtain ⟨o, e, _⟩ := T.obj _ _ t3 b hb
      exact Nat.ne_of_lt (Heap.lt_size e)
    · exact (f2 b hb).2.2.2.2.1 z c (cl_in z c e)
    · exact Nat.le_trans I3.ok.bsz I3.sz
    · obtain ⟨_, _, _, hy, _⟩ := f2 b hb
      have e0 := (I3.ok.bs b o e).1
      rcases hy with hy | hy
      · exact I3.ok.noex b o e hy
      · exact absurd (Nat.lt_of_lt_of_le (Heap.lt_size e0) hy) (Nat.lt_irrefl _)
    · obtain ⟨_, hl, hfs, _⟩ := f2 b hb
      exact (List.mem_cons.mp (I3.stkSub b hf)).elim hl hfs
  have hlen : ((List.replicate xs.length (none : Option V)) ++ capV caps σ).length = (xs ++ ys).length := by
    rw [List.length_append, List.length_append, List.length_replicate, S.len]
    unfold capV
    rw [List.length_map]
  have I4 : Inv X pins σ H3 s4 := by
    rw [← hs4]
    exact I3.kept kp
  have Ic : Inv (Cx.comp X (xs ++ ys) scope s3.heap.objs.size s3 H3 fp) [] ((List.replicate xs.length (none : Option V)) ++ capV caps σ) H3 s4 := by
    refine ⟨ok, by rw [← hs4]; rfl, I4.bare, Un.kept (by rw [e4]; exact kp), ⟨_, by rw [e4]; exact ns4, fun i z v e1 e2 e3 => ?_⟩, fun z c e => I4.cell z c (cl_in z c e), hC, fun z c e => I4.freeC z c (cl_in z c e), (fun p hp => nomatch hp), I4.hok, hlen⟩
    have e1 : (xs ++ ys)[i]? = some z := e1
    by_cases hi : i < xs.length
    · rw [List.getElem?_append_left (by rw [List.length_replicate]; exact hi), List.getElem?_replicate, if_pos hi] at e2
      cases e2
    · obtain ⟨j, rfl⟩ : ∃ j, i = xs.length + j := ⟨i - xs.length, by omega⟩
      have e1 : ys[j]? = some z := by
        rw [List.getElem?_append_right (by omega), Nat.add_sub_cancel_left] at e1
        exact e1
      have e2 : (capV caps σ)[j]? = some (some v) := by
        rw [List.getElem?_append_right (by rw [List.length_replicate]; omega), List.length_replicate, Nat.add_sub_cancel_left] at e2
        exact e2
      unfold capV at e2
      rw [List.getElem?_map] at e2
      cases hi : caps[j]? with
      | none => rw [hi] at e2; cases e2
      | some i =>
        rw [hi] at e2
        have e2 : (σ[i]?).join = some v := Option.some.inj e2
        have e2 : σ[i]? = some (some v) := by
          cases q : σ[i]? with
          | none => rw [q] at e2; cases e2
          | some o => rw [q] at e2; exact congrArg some e2
        obtain ⟨c1, c2, c3⟩ := S.cap (z, i) (zip_at e1 hi)
        have c4 := rel_cell (env := X.env) I.ok.kind c2 c3
        have c3 : (z, NameKind.free) ∈ scope.names := PySem.mem_of_lookup c3
        obtain ⟨m, hn, hl⟩ := I4.loc
        obtain ⟨u, r, lk⟩ := hl i z v c1 e2 (.inr (.inl c2))
        refine ⟨u, r, .inr ⟨.inl c4, ?_⟩⟩
        rcases lk with ⟨k, _⟩ | ⟨_, c, hc', z'⟩
        · exact absurd ((show X.env.scope.names.lookup z = some .local from k).symm.trans c2) (by decide)
        · obtain ⟨d, hd⟩ := Option.isSome_iff_exists.mp (clOf_has (env := X.env) scope.names [] (.inl c3))
          have := cl_in z d hd
          rw [hc'] at this
          cases this
          exact ⟨c, hd, z'⟩
  have loop : codeAny (model X.prog X.w) X.A (.compLoop (.ListComp elt [⟨tg, iter, [c], 0⟩] scope pos) 0 (.ref it) (.ref s2.heap.objs.size) (compEnvC scope (clOf X.env scope.names []) s3.heap.objs.size X.env)) (PQ (.ref s2.heap.objs.size) s3.heap.objs.size) s4 := by
    have fpC : ∀ {H' : Hp}, (∀ b ∈ fp, H' b = none) → ∀ b ∈ fp, FpOk (Cx.comp X (xs ++ ys) scope s3.heap.objs.size s3 H3 fp) [] H' b := fun hn b hb =>
      ⟨hn b hb, (ok.exf b hb).1, ok.exfs b hb, .inl hb, (ok.exf b hb).2, (fun p hp => nomatch hp)⟩
    refine codeAny_loop rfl (fun n s' => ∃ (i : Nat) (zs : List V) (os : St) (H' : Hp), os.length = xs.length ∧ Inv (Cx.comp X (xs ++ ys) scope s3.heap.objs.size s3 H3 fp) [] (os ++ capV caps σ) H' s' ∧ tn i s'.heap ∧ (∀ b ∈ fp, H' b = none) ∧ W i n zs H') (fun n s5 z => ?_) m0 ⟨0, [], List.replicate xs.length none, H3, by rw [List.length_replicate], Ic, T.keep _ _ _ t3 (fun b hb o e => by rw [e4]; exact kp b o e), hfp3, w0⟩
    obtain ⟨i, zs, os, H5, l5, I5, t5, fr5, w5⟩ := z
    show wpAny _ _ ((compTurn _ 0 (.ref it) _ _).onRaise _) _ _ s5
    refine wpAny_noted ?_
    rw [compTurn_listIf]
    refine wpAny_bind (wpAny_standAt (wpAny_bind ?_))
    obtain ⟨hacc, stop | go⟩ := step i n zs H5 w5
    · obtain ⟨stop, q⟩ := stop
      refine thn (T.done (Cx.comp X (xs ++ ys) scope s3.heap.objs.size s3 H3 fp) rfl rfl rfl hc i [] s5 _ H5 _ I5 (fpC fr5) t5 stop) fun r s6 ⟨hr, I6⟩ => ?_
      subst hr
      refine wpAny_pure (hPQ _ _ s6 H5 ?_ q ?_ I6.free ?_ Lne cne fun p hp z => ?_)
      · refine I3.call' I6.os I6.base I6.hok I6.bare fun b hb => ?_
        obtain ⟨_, g1, _, g3, g4, g5⟩ := f2 b hb
        exact ⟨g3, g1, g4, g5⟩
      · obtain ⟨m, hn, _⟩ := I6.loc
        exact ⟨m, hn⟩
      · exact I3.sz
      · exact Nat.ne_of_lt (Heap.lt_size (I3.pin p hp).1) z
    · obtain ⟨go, turn⟩ := go
      refine thn (T.item (Cx.comp X (xs ++ ys) scope s3.heap.objs.size s3 H3 fp) rfl rfl rfl hc i [] s5 _ H5 _ I5 (fpC fr5) t5 go) fun r s6 ⟨u, hr, h6⟩ => ?_
      subst hr
      refine wpAny_bind (thn h6 fun _ s7 ⟨y, H7, I7, r7, y7, t7, fr7⟩ => ?_)
      have I7' := I7.pinned (fpC fr7) (T.obj _ _ t7)
      refine wpAny_bind (wpAny_mono (hg _ _ _ _ _ s7 _ H7 y u _ I7' r7 (hk y os _ H7 _ l5 (turn y _ y7 os l5))) (fun _ s8 z8 => ?_) fun _ _ f => f.elim)
      obtain ⟨σ8, H8, I8, ⟨os8, l8, e8⟩, q8⟩ := z8
      subst e8
      refine wpAny_bind (wpAny_mono (ht _ _ _ _ _ s8 _ _ _ I8 q8) (fun b s9 z9 => ?_) fun _ _ f => f.elim)
      obtain ⟨H9, I9, q9⟩ := z9
      cases b with
      | false =>
        obtain ⟨m9, hm9, w9⟩ := q9
        refine wpAny_pure ⟨rfl, m9, hm9, i + 1, zs, os8, _, l8, I9.unpinned, T.keep _ _ _ t7 fun b hb o e => (I9.pin (b, o) (List.mem_append_right _ (List.mem_append_right _ (mem_pinsAt hb e)))).1, fun b hb => ?_, w9⟩
        obtain ⟨o, e, _⟩ := T.obj _ _ t7 b hb
        exact (I9.pin (b, o) (List.mem_append_right _ (List.mem_append_right _ (mem_pinsAt hb e)))).2.1
      | true =>
        refine wpAny_bind (wpAny_bind (wpAny_mono (he _ _ _ _ _ s9 _ _ _ I9 q9) (fun u10 s10 z10 => ?_) fun _ _ f => f.elim))
        obtain ⟨v10, H10, I10, r10, a10, l10, m10, hm10, w10⟩ := z10
        refine wpAny_bind (wpAny_mono (mt_append (X := Cx.comp X (xs ++ ys) scope s3.heap.objs.size s3 H3 fp) _ s10 _ H10 (.ref s2.heap.objs.size) [v10] _ [u10] (fun _ H' => H' = upd H10 s2.heap.objs.size (.lst (zs ++ [v10]))) I10 rfl (.cons r10 .nil) ⟨_, zs, v10, rfl, rfl, a10, l10, rfl⟩) (fun _ s11 z11 => ?_) fun _ _ f => f.elim)
        obtain ⟨_, H11, I11, _, e11⟩ := z11
        subst e11
        refine wpAny_pure (wpAny_pure ⟨rfl, m10, hm10, i + 1, zs ++ [v10], os8, _, l8, I11.unpinned, T.keep _ _ _ t7 fun b hb o e => (I11.pin (b, o) (List.mem_append_right _ (List.mem_append_right _ (mem_pinsAt hb e)))).1, fun b hb => ?_, w10⟩)
        obtain ⟨o, e, _⟩ := T.obj _ _ t7 b hb
        exact (I11.pin (b, o) (List.mem_append_right _ (List.mem_append_right _ (mem_pinsAt hb e)))).2.1
  exact codeAny_compStart_list loop (T.self X.A 0 _ _ _ (T.keep _ _ _ t3 (fun b hb o e => by rw [e4]; exact kp b o e)) loop)
theorem pgc_name {i : Nat} {x : Str} {px : Pos} (S : CompScopeT X scope xs ys caps) (h : xs[i]? = some x) (C : Addr) (s : Shared) (H : Hp) (fp : List Addr) : PG (Cx.comp X (xs ++ ys) scope C s H fp) (.Name x px) (gName i) := by
  have hm : x ∈ xs := List.mem_of_getElem? h
  have hi : (xs ++ ys)[i]? = some x := by rw [List.getElem?_append_left (List.getElem?_eq_some_iff.mp h).1]; exact h
  exact pg_name S.nd hi (.inl (lookup_relabel_local (S.own x hm))) (.inr (lookup_relabel_local (S.own x hm)))
theorem pgc_two {x y : Str} {px py : Pos} {k : Nat} (hc : X.calm = true) (S : CompScopeT X scope [x, y] ys caps) (C : Addr) (s : Shared) (H : Hp) (fp : List Addr) : PG (Cx.comp X ([x, y] ++ ys) scope C s H fp) (.Tuple [.Name x px, .Name y py] k pos) (gTup X.K 2 (gCons (gName 0) (gCons (gName 1) gNil))) :=
  pg_tup (X := Cx.comp X ([x, y] ++ ys) scope C s H fp) hc (pgs_cons (pgc_name S (i := 0) rfl C s H fp) (pgs_cons (pgc_name S (i := 1) rfl C s H fp) pgs_nil))
end
def compT (g : Dt → En → (En → Prop) → Prop) (tc : DT) (te : DE) (ρ0 : En) (ok : Ms → Prop) : List Dt → List Dt → Ms → (List Dt → Ms → Prop) → Prop
  | [], acc, M, k => ok M ∧ k acc M
  | x :: xs, acc, M, k => ok M ∧ g x ρ0 fun ρ' => tc ρ' M (fun b M1 => match b with
    | true => te ρ' M1 (fun d M2 => compT g tc te ρ0 ok xs (acc ++ [d]) M2 k) noX
    | false => compT g tc te ρ0 ok xs acc M1 k) noX
def dCompT (n : Nat) (ti : DK) (g : Dt → En → (En → Prop) → Prop) (tc : DT) (te : DE) (caps : List Nat) : DE := fun ρ M q x => ti ρ M (fun xs ok M1 => xs.length ≤ sizeLine ∧ compT g tc te (List.replicate n none ++ capD caps ρ) ok xs [] M1 (fun ys M2 => q (.lst ys) M2)) x
theorem cap_enN {K : PySem.W.Frag} {G : Hp} {L : List Addr} {ρ : En} {σ os : St} {n : Nat} (h : EnD K G L ρ σ) (caps : List Nat) (hl : os.length = n) : EnD K G L (List.replicate n none ++ capD caps ρ) (os ++ capV caps σ) := by
  have lc : (capD caps ρ).length = (capV caps σ).length := by unfold capD capV; simp
  refine ⟨by rw [List.length_append, List.length_append, List.length_replicate, hl, lc], fun i d' e => ?_⟩
  by_cases hi : i < n
  · rw [List.getElem?_append_left (by rw [List.length_replicate]; exact hi), List.getElem?_replicate, if_pos hi] at e
    cases e
  · rw [List.getElem?_append_right (by rw [List.length_replicate]; omega), List.length_replicate] at e
    rw [List.getElem?_append_right (by omega), hl]
    unfold capD at e
    unfold capV
    rw [List.getElem?_map] at e ⊢
    cases q : caps[i - n]? with
    | none => rw [q] at e; cases e
    | some j =>
      rw [q] at e
      have e : (ρ[j]?).join = some d' := Option.some.inj e
      have e : ρ[j]? = some (some d') := by
        cases z : ρ[j]? with
        | none => rw [z] at e; cases e
        | some o => rw [z] at e; exact congrArg some e
      obtain ⟨v, hv, dn⟩ := h.ats j d' e
      exact ⟨v, by show some ((σ[j]?).join) = _; rw [hv]; rfl, dn⟩
theorem compT_rd {K : PySem.W.Frag} {J : It} {gg : TG} {g : Dt → En → (En → Prop) → Prop} {tc : DT} {te : DE} {caps : List Nat} {nn : Nat} {ρ : En} {σ : St} {G1 : Hp} {L1 : List Addr} {M1 : Ms} {H1 : Hp} {xs : List Dt} {ok : Ms → Prop} {Dl : Addr} {Q : VK} {k : List Dt → Ms → Prop} (gd : GD K gg g) (r1 : Rl K G1 L1 M1 H1) (n : EnD K G1 L1 ρ σ) (y : YlK K J xs ok G1 L1) (hD : H1 Dl = none) (hz : xs.length ≤ sizeLine)
    (h : compT g tc te (List.replicate nn none ++ capD caps ρ) ok xs [] M1 k)
    (fin : ∀ G2 L2 M2 H2 ds vs, Ex G1 L1 H1 G2 L2 H2 → Rl K G2 L2 M2 H2 → G2 Dl = none → Dl ∉ L2 → H2 Dl = some (.lst vs) → DenL K G2 L2 ds vs → k ds M2 → Q (.ref Dl) H2) :
    CompRT J nn gg (lowT K (fun _ => E0) tc) (lowE K (fun _ => E0) te) (capV caps σ) Q H1 Dl := by
  refine ⟨fun i m ys H2 => m + i = xs.length ∧ H2 Dl = some (.lst ys) ∧ ∃ acc G2 L2 M2, Ex G1 L1 H1 G2 L2 H2 ∧ Rl K G2 L2 M2 H2 ∧ G2 Dl = none ∧ Dl ∉ L2 ∧ DenL K G2 L2 acc ys ∧ acc.length ≤ i ∧ compT g tc te (List.replicate nn none ++ capD caps ρ) ok (xs.drop i) acc M2 k, ⟨xs.length, rfl, upd_same, [], G1, L1, M1, ?_⟩, ?_⟩
  · have gn : G1 Dl = none := r1.sub.free hD
    refine ⟨⟨.refl _, .refl _, fun _ h _ => h, fun b u h1 _ => by rw [upd_ne (fun z => by rw [z, hD] at h1; cases h1)]; exact h1, fun _ h => .inl h, fun b h => by rw [upd_ne (fun z => h (by rw [z]; exact hD))]; exact h⟩, ⟨fun b u e => by rw [upd_ne (fun z => by rw [z, gn] at e; cases e)]; exact r1.sub b u e, r1.len, r1.nd, fun i a m h1 h2 => ?_⟩, gn, r1.memN hD, rfl, Nat.le_refl _, by rw [List.drop_zero]; exact h⟩
    obtain ⟨q1, q2⟩ := r1.ats i a m h1 h2
    exact ⟨q1, q2.mono (.refl _) (.refl _) (upd_ne fun z => q2.there (by rw [z]; exact hD))⟩
  · rintro i m ys H2 ⟨hm, hacc, acc, G2, L2, M2, e2, r2, g2, l2, n2, la, h2⟩
    refine ⟨hacc, ?_⟩
    have ne1 : ∀ {b : Addr} {u : HO}, H1 b = some u → b ≠ Dl := fun e z => by rw [z, hD] at e; cases e
    by_cases hi : i < xs.length
    · right
      have hd : xs[i]? = some xs[i] := List.getElem?_eq_getElem hi
      rw [List.drop_eq_getElem_cons hi] at h2
      obtain ⟨hok, h2⟩ := h2
      obtain ⟨go, yl⟩ := y.go i G2 L2 M2 H2 _ e2.g e2.l r2 hok hd
      refine ⟨go, fun v H3 hy os hos => ?_⟩
      obtain ⟨G3, e3, r3, n3⟩ := yl v H3 hy
      have h3 : H3 Dl = some (.lst ys) := e3.out _ _ hacc l2
      have g3 : G3 Dl = none := e3.fr _ g2 (by rw [hacc]; simp)
      refine gd G3 L2 M2 H3 _ v _ _ _ _ r3 n3 (cap_enN ((n.mono e2).mono e3) caps hos) h2 fun ρ' σ' n' h' => ?_
      refine ⟨G3, L2, ρ', M2, _, noX, r3, n', h', xok_no, fun b H4 ⟨G4, L4, M4, e4, r4, h4⟩ => ?_⟩
      have h4' : H4 Dl = some (.lst ys) := e4.out _ _ h3 l2
      have g4 : G4 Dl = none := e4.fr _ g3 (by rw [h3]; simp)
      have l4 : Dl ∉ L4 := fun z => (e4.new _ z).elim l2 fun q => by rw [h3] at q; cases q
      have e34 := e3.trans e4
      cases b with
      | false =>
        exact ⟨m - 1, by omega, by omega, h4', acc, G4, L4, M4, e2.trans e34, r4, g4, l4, DenL.mono e34.g e34.l _ _ n2, by omega, h4⟩
      | true =>
        refine ⟨G4, L4, ρ', M4, _, noX, r4, n'.mono e4, h4, xok_no, fun v5 H5 ⟨d5, G5, L5, M5, e5, r5, n5, h5⟩ => ?_⟩
        have h5' : H5 Dl = some (.lst ys) := e5.out _ _ h4' l4
        have g5 : G5 Dl = none := e5.fr _ g4 (by rw [h4']; simp)
        have l5 : Dl ∉ L5 := fun z => (e5.new _ z).elim l4 fun q => by rw [h4'] at q; cases q
        have e35 := e34.trans e5
        have lenys : ys.length = acc.length := by rw [← n2.length]
        refine ⟨h5', by omega, m - 1, by omega, by omega, upd_same, acc ++ [d5], G5, L5, M5, ?_, ?_, g5, l5, (DenL.mono e35.g e35.l _ _ n2).app ⟨_, _, rfl, n5, rfl⟩, by rw [List.length_append]; show acc.length + 1 ≤ i + 1; omega, h5⟩
        · have e15 := e2.trans e35
          exact ⟨e15.g, e15.l, e15.fr, fun b u h1 h2 => by rw [upd_ne (ne1 h1)]; exact e15.out b u h1 h2, e15.new, fun b h => by
            by_cases hb : b = Dl
            · rw [hb, upd_same]; simp
            · rw [upd_ne hb]; exact e15.dom b h⟩
        · refine ⟨fun b u e => by rw [upd_ne (fun z => by rw [z, g5] at e; cases e)]; exact r5.sub b u e, r5.len, r5.nd, fun i a m h1 h2 => ?_⟩
          obtain ⟨q1, q2⟩ := r5.ats i a m h1 h2
          exact ⟨q1, q2.mono (.refl _) (.refl _) (upd_ne fun z => l5 (by rw [← z]; exact List.mem_of_getElem? h1))⟩
    · left
      rw [List.drop_eq_nil_of_le (by omega)] at h2
      exact ⟨y.stop i G2 L2 M2 H2 e2.g e2.l r2 h2.1 (by omega), fin G2 L2 M2 H2 acc ys e2 r2 g2 l2 hacc n2 h2.2⟩
section
variable {X : Cx} {R : St → XK} {elt iter c : Expr} {x y : Str} {px py tp : Pos} {scope : Scope} {pos : Pos} {ti : DK} {tc : DT} {te : DE} {ys : List Str} {caps : List Nat} {kk : Nat}
end
theorem compT_filter {g : Dt → En → (En → Prop) → Prop} {tc : DT} {te : DE} {ρ0 : En} {ok : Ms → Prop} {M : Ms} {k : List Dt → Ms → Prop} (ho : ok M) (b : Dt → Bool) (f : Dt → Dt) : ∀ (xs acc : List Dt), (∀ x ∈ xs, ∀ (q : DQ) (p : Ms → Prop), (b x = true → q (f x) M) → (b x = false → p M) → g x ρ0 fun ρ' => tc ρ' M (fun b' M1 => match b' with | true => te ρ' M1 q noX | false => p M1) noX) →
    k (acc ++ (xs.filter b).map f) M → compT g tc te ρ0 ok xs acc M k
  | [], acc, _, h => ⟨ho, by simpa using h⟩
  | x :: xs, acc, ht, h => ⟨ho, ht x List.mem_cons_self _ _ (fun hb => compT_filter ho b f xs _ (fun y hy => ht y (List.mem_cons_of_mem _ hy)) (by simpa [hb] using h)) fun hb => compT_filter ho b f xs _ (fun y hy => ht y (List.mem_cons_of_mem _ hy)) (by simpa [hb] using h)⟩
end L2
set_option maxRecDepth 100000
set_option maxHeartbeats 4000000
namespace L2
open PySem PySem.Spec PyProof.Rows
theorem cutV_drop (xs : List V) (k : Nat) : cutV xs (some (k : Int)) none = xs.drop k := by
  unfold cutV
  rw [HT.sIx_nat, HT.sIx_none]
  by_cases h : k ≤ xs.length
  · rw [Nat.min_eq_left h, List.take_of_length_le (by rw [List.length_drop]; omega)]
  · rw [Nat.min_eq_right (by omega), List.drop_eq_nil_of_le (Nat.le_refl _), List.drop_eq_nil_of_le (by omega)]; simp
end L2
set_option maxRecDepth 100000
set_option maxHeartbeats 4000000
namespace L2
open PySem PySem.Spec PyProof.Rows
section
variable {X : Cx} {R : St → XK} {o i e : Expr} {to ti te : DE} {pos p : Pos} {k' : Nat}
end
section
variable {X : Cx} {R : St → XK} {i : Expr} {pos p : Pos} {x : Str} {tab : List (Str × Str)}
end
end L2
set_option maxRecDepth 100000
set_option maxHeartbeats 4000000
namespace L2
open PySem PySem.Spec PyProof.Rows
inductive EqH (K : PySem.W.Frag) (H : Hp) : Nat → V → V → Bool → Prop
  | flat {n : Nat} {x y : V} (h1 : flatV x = true) (h2 : flatV y = true) : EqH K H n x y (eqV x y)
  | tup {n : Nat} {a b : Addr} {xs ys : List V} {f : Nat → Bool} (h1 : SqT K H a xs) (h2 : SqT K H b ys) (h : ∀ j x y, xs[j]? = some x → ys[j]? = some y → EqH K H n x y (f j)) : EqH K H (n + 1) (.ref a) (.ref b) ((List.range (min xs.length ys.length)).all f && xs.length == ys.length)
  | lst {n : Nat} {a b : Addr} {xs ys : List V} {f : Nat → Bool} (h1 : SqL K H a xs) (h2 : SqL K H b ys) (hl : xs.length = ys.length) (h : ∀ j x y, xs[j]? = some x → ys[j]? = some y → EqH K H n x y (f j)) : EqH K H (n + 1) (.ref a) (.ref b) ((List.range xs.length).all f)
  | len {n : Nat} {a b : Addr} {xs ys : List V} (h1 : SqL K H a xs) (h2 : SqL K H b ys) (hl : xs.length ≠ ys.length) : EqH K H (n + 1) (.ref a) (.ref b) false
theorem eqV_self {x : V} (h : flatV x = true) : eqV x x = true := by
  cases x <;> first | rfl | (show (_ == _) = true; simp) | cases h
section
variable {X : Cx} {pins : List (Addr × Obj)} {σ : St} {H : Hp} {s : Shared}
theorem eqH_same (I : Inv X pins σ H s) {n : Nat} {x y : V} {b : Bool} (h : EqH X.K H n x y b) : x = y → b = true := by
  induction h with
  | flat h1 h2 => intro e; subst e; exact eqV_self h1
  | @tup n a b xs ys f h1 h2 h ih =>
    intro e
    cases e
    cases I.tuple_inj h1 h2
    rw [Nat.min_self, beq_self_eq_true, Bool.and_true]
    refine List.all_eq_true.mpr fun j hj => ?_
    have hj := List.mem_range.mp hj
    exact ih j _ _ (List.getElem?_eq_getElem hj) (List.getElem?_eq_getElem hj) rfl
  | @lst n a b xs ys f h1 h2 hl h ih =>
    intro e
    cases e
    cases I.list_inj h1 h2
    refine List.all_eq_true.mpr fun j hj => ?_
    have hj := List.mem_range.mp hj
    exact ih j _ _ (List.getElem?_eq_getElem hj) (List.getElem?_eq_getElem hj) rfl
  | len h1 h2 hl =>
    intro e
    cases e
    cases I.list_inj h1 h2
    exact absurd rfl hl
theorem items_at {xs : List V} {its : List Value} (r : Vals xs its) {j : Nat} (h : j < its.toArray.size) : ∃ x, xs[j]? = some x ∧ RelV x its.toArray[j] := by
  have hj : j < its.length := by simpa using h
  have hx : j < xs.length := by rw [r.length]; exact hj
  obtain ⟨u, g, ru⟩ := r.get (List.getElem?_eq_getElem hx)
  rw [List.getElem?_eq_getElem hj] at g
  cases g
  exact ⟨_, List.getElem?_eq_getElem hx, by simpa using ru⟩
theorem eqAt_H (I : Inv X pins σ H s) {n : Nat} {x y : V} {b : Bool} (h : EqH X.K H n x y b) : ∀ {A : Around} {u v : Value}, RelV x u → RelV y v → A.units + n < cLine → SeqAt.EqAt A s u v b := by
  induction h with
  | flat h1 h2 => exact fun ru rv _ => eqAt_V ru rv h1 h2
  | @tup n a b xs ys f h1 h2 h ih =>
    intro A u v ru rv hu
    cases ru
    cases rv
    by_cases e : a = b
    · have := eqH_same I (.tup h1 h2 h) (congrArg V.ref e)
      rw [this, e]
      exact SeqAt.EqAt.same _
    · obtain ⟨i1, v1, t1, _⟩ := I.tuple h1
      obtain ⟨i2, v2, t2, _⟩ := I.tuple h2
      have := SeqAt.RcAt.tuples (A := A) (e := f) (show s.heap.IsTuple a i1.toArray from t1) (show s.heap.IsTuple b i2.toArray from t2) (by omega) (fun j g1 g2 => by
        obtain ⟨x, hx, rx⟩ := items_at v1 g1
        obtain ⟨y, hy, ry⟩ := items_at v2 g2
        exact ih j x y hx hy rx ry (by show A.units + 1 + n < cLine; omega))
      rw [List.size_toArray, List.size_toArray, ← v1.length, ← v2.length] at this
      exact SeqAt.EqAt.of_refs e this
  | @lst n a b xs ys f h1 h2 hl h ih =>
    intro A u v ru rv hu
    cases ru
    cases rv
    by_cases e : a = b
    · have := eqH_same I (.lst h1 h2 hl h) (congrArg V.ref e)
      rw [this, e]
      exact SeqAt.EqAt.same _
    · obtain ⟨i1, v1, t1, _⟩ := I.list h1
      obtain ⟨i2, v2, t2, _⟩ := I.list h2
      have := SeqAt.RcAt.lists (A := A) (e := f) t1.isList t2.isList (by rw [List.size_toArray, List.size_toArray, ← v1.length, ← v2.length]; exact hl) (by omega) (fun j g1 g2 => by
        obtain ⟨x, hx, rx⟩ := items_at v1 g1
        obtain ⟨y, hy, ry⟩ := items_at v2 g2
        exact ih j x y hx hy rx ry (by show A.units + 1 + n < cLine; omega))
      rw [List.size_toArray, ← v1.length] at this
      exact SeqAt.EqAt.of_refs e this
  | @len n a b xs ys h1 h2 hl =>
    intro A u v ru rv hu
    cases ru
    cases rv
    have e : a ≠ b := fun e => by
      subst e
      cases I.list_inj h1 h2
      exact hl rfl
    obtain ⟨i1, v1, t1, _⟩ := I.list h1
    obtain ⟨i2, v2, t2, _⟩ := I.list h2
    exact SeqAt.EqAt.of_refs e (SeqAt.RcAt.lists_lengths t1.isList t2.isList (by rw [List.size_toArray, List.size_toArray, ← v1.length, ← v2.length]; simpa using hl) (by omega))
end
def rEqH (K : PySem.W.Frag) (n : Nat) : R2 := fun x y H Q => ∃ a b c, x = .ref a ∧ y = .ref b ∧ EqH K H n x y c ∧ Q (.bl c) H
def rNeH (K : PySem.W.Frag) (n : Nat) : R2 := fun x y H Q => ∃ a b c, x = .ref a ∧ y = .ref b ∧ EqH K H n x y c ∧ Q (.bl (!c)) H
section
variable {X : Cx}
theorem op_eqH {n : Nat} (hu : X.A.units + n < cLine) : OpR X (compareOp .Eq) (rEqH X.K n) := by
  intro pins s σ H x y v u Q I rx ry h
  obtain ⟨a, b, c, rfl, rfl, h, q⟩ := h
  cases rx
  cases ry
  cases h with
  | flat h1 h2 => cases h1
  | @tup n _ _ xs ys f h1 h2 h =>
    obtain ⟨i1, v1, t1, _⟩ := I.tuple h1
    obtain ⟨i2, v2, t2, _⟩ := I.tuple h2
    refine SeqAt.eq_tupleAt (e := f) (show s.heap.IsTuple a i1.toArray from t1) (show s.heap.IsTuple b i2.toArray from t2) (by omega) (fun j g1 g2 => ?_) ?_
    · obtain ⟨x, hx, rx⟩ := items_at v1 g1
      obtain ⟨y, hy, ry⟩ := items_at v2 g2
      exact eqAt_H I (h j x y hx hy) rx ry (by show X.A.units + 1 + n < cLine; omega)
    · rw [List.size_toArray, List.size_toArray, ← v1.length, ← v2.length]
      exact ⟨.bl _, H, I, rfl, q⟩
  | @lst n _ _ xs ys f h1 h2 hl h =>
    obtain ⟨i1, v1, t1, _⟩ := I.list h1
    obtain ⟨i2, v2, t2, _⟩ := I.list h2
    refine SeqAt.eq_listAt (e := f) t1.isList t2.isList (by rw [List.size_toArray, List.size_toArray, ← v1.length, ← v2.length]; exact hl) (by omega) (fun j g1 g2 => ?_) ?_
    · obtain ⟨x, hx, rx⟩ := items_at v1 g1
      obtain ⟨y, hy, ry⟩ := items_at v2 g2
      exact eqAt_H I (h j x y hx hy) rx ry (by show X.A.units + 1 + n < cLine; omega)
    · rw [List.size_toArray, ← v1.length]
      exact ⟨.bl _, H, I, rfl, q⟩
  | @len n _ _ xs ys h1 h2 hl =>
    obtain ⟨i1, v1, t1, _⟩ := I.list h1
    obtain ⟨i2, v2, t2, _⟩ := I.list h2
    exact SeqAt.eq_list_lengthsAt t1.isList t2.isList (by rw [List.size_toArray, List.size_toArray, ← v1.length, ← v2.length]; simpa using hl) (by omega) ⟨.bl _, H, I, rfl, q⟩
theorem op_neH {n : Nat} (hu : X.A.units + n < cLine) : OpR X (compareOp .NotEq) (rNeH X.K n) := by
  intro pins s σ H x y v u Q I rx ry h
  obtain ⟨a, b, c, rfl, rfl, h, q⟩ := h
  cases rx
  cases ry
  cases h with
  | flat h1 h2 => cases h1
  | @tup n _ _ xs ys f h1 h2 h =>
    obtain ⟨i1, v1, t1, _⟩ := I.tuple h1
    obtain ⟨i2, v2, t2, _⟩ := I.tuple h2
    refine SeqAt.RcNeAt.tuples (e := f) (show s.heap.IsTuple a i1.toArray from t1) (show s.heap.IsTuple b i2.toArray from t2) (by omega) (fun j g1 g2 => ?_) _ _ _ _ ?_
    · obtain ⟨x, hx, rx⟩ := items_at v1 g1
      obtain ⟨y, hy, ry⟩ := items_at v2 g2
      exact eqAt_H I (h j x y hx hy) rx ry (by show X.A.units + 1 + n < cLine; omega)
    · rw [List.size_toArray, List.size_toArray, ← v1.length, ← v2.length]
      exact ⟨.bl _, H, I, rfl, q⟩
  | @lst n _ _ xs ys f h1 h2 hl h =>
    obtain ⟨i1, v1, t1, _⟩ := I.list h1
    obtain ⟨i2, v2, t2, _⟩ := I.list h2
    refine SeqAt.RcNeAt.lists (e := f) t1.isList t2.isList (by rw [List.size_toArray, List.size_toArray, ← v1.length, ← v2.length]; exact hl) (by omega) (fun j g1 g2 => ?_) _ _ _ _ ?_
    · obtain ⟨x, hx, rx⟩ := items_at v1 g1
      obtain ⟨y, hy, ry⟩ := items_at v2 g2
      exact eqAt_H I (h j x y hx hy) rx ry (by show X.A.units + 1 + n < cLine; omega)
    · rw [List.size_toArray, ← v1.length]
      exact ⟨.bl _, H, I, rfl, q⟩
  | @len n _ _ xs ys h1 h2 hl =>
    obtain ⟨i1, v1, t1, _⟩ := I.list h1
    obtain ⟨i2, v2, t2, _⟩ := I.list h2
    exact SeqAt.RcNeAt.lists_lengths t1.isList t2.isList (by rw [List.size_toArray, List.size_toArray, ← v1.length, ← v2.length]; simpa using hl) (by omega) _ _ _ _ ⟨.bl _, H, I, rfl, q⟩
end
def lstQ (M : Ms) : Dt → Option (List Dt)
  | .lst xs => some xs
  | .scr ns => some (ns.map .int)
  | .loc k => match M[k]? with
    | some (.lst xs) => some xs
    | _ => none
  | _ => none
inductive EqM (M : Ms) : Nat → Dt → Dt → Bool → Prop
  | flat {n : Nat} {d e : Dt} {x y : V} (h1 : flatD d = some x) (h2 : flatD e = some y) : EqM M n d e (eqV x y)
  | tup {n : Nat} {ds es : List Dt} {f : Nat → Bool} (h : ∀ j d e, ds[j]? = some d → es[j]? = some e → EqM M n d e (f j)) : EqM M (n + 1) (.tup ds) (.tup es) ((List.range (min ds.length es.length)).all f && ds.length == es.length)
  | lst {n : Nat} {d e : Dt} {ds es : List Dt} {f : Nat → Bool} (h1 : lstQ M d = some ds) (h2 : lstQ M e = some es) (hl : ds.length = es.length) (h : ∀ j d e, ds[j]? = some d → es[j]? = some e → EqM M n d e (f j)) : EqM M (n + 1) d e ((List.range ds.length).all f)
  | len {n : Nat} {d e : Dt} {ds es : List Dt} (h1 : lstQ M d = some ds) (h2 : lstQ M e = some es) (hl : ds.length ≠ es.length) : EqM M (n + 1) d e false
theorem lstQ_is {K : PySem.W.Frag} {G : Hp} {L : List Addr} {M : Ms} {H : Hp} {d : Dt} {v : V} {xs : List Dt} (r : Rl K G L M H) (n : Den K G L d v) (h : lstQ M d = some xs) : ∃ a vs, v = .ref a ∧ SqL K H a vs ∧ DenL K G L xs vs := by
  cases d with
  | lst ds => cases h; obtain ⟨a, vs, rfl, e, m⟩ := n; exact ⟨a, vs, rfl, .of (r.sub _ _ e), m⟩
  | scr ns => cases h; obtain ⟨a, rfl, e⟩ := n; exact ⟨a, _, rfl, r.sub.seq e, denL_ints⟩
  | loc k =>
    obtain ⟨a, rfl, e⟩ := n
    have h : (match M[k]? with | some (.lst xs) => some xs | _ => none) = some xs := h
    split at h
    · rename_i ys hm
      cases h
      obtain ⟨_, vs, e1, m1⟩ := r.ats k a _ e hm
      exact ⟨a, vs, rfl, .of e1, m1⟩
    · cases h
  | _ => cases h
theorem DenL.back {K : PySem.W.Frag} {G : Hp} {L : List Addr} {ds : List Dt} {vs : List V} {i : Nat} {v : V} (h : DenL K G L ds vs) (e : vs[i]? = some v) : ∃ d, ds[i]? = some d ∧ Den K G L d v := by
  have hi : i < ds.length := by rw [h.length]; exact (List.getElem?_eq_some_iff.mp e).1
  obtain ⟨v', e', n⟩ := h.get (List.getElem?_eq_getElem hi)
  rw [e] at e'
  cases e'
  exact ⟨_, List.getElem?_eq_getElem hi, n⟩
theorem eqM_H {K : PySem.W.Frag} {G : Hp} {L : List Addr} {M : Ms} {H : Hp} (r : Rl K G L M H) {n : Nat} {d e : Dt} {b : Bool} (h : EqM M n d e b) : ∀ {v u : V}, Den K G L d v → Den K G L e u → EqH K H n v u b := by
  induction h with
  | flat h1 h2 =>
    intro v u n1 n2
    obtain ⟨rfl, f1⟩ := flatD_is h1 n1
    obtain ⟨rfl, f2⟩ := flatD_is h2 n2
    exact .flat f1 f2
  | @tup n ds es f h ih =>
    intro v u n1 n2
    obtain ⟨a, vs, rfl, e1, m1⟩ := n1
    obtain ⟨b, us, rfl, e2, m2⟩ := n2
    rw [m1.length, m2.length]
    refine .tup (.of (r.sub _ _ e1)) (.of (r.sub _ _ e2)) fun j x y hx hy => ?_
    obtain ⟨d, hd, dn⟩ := m1.back hx
    obtain ⟨e, he, en⟩ := m2.back hy
    exact ih j d e hd he dn en
  | @lst n d e ds es f h1 h2 hl h ih =>
    intro v u n1 n2
    obtain ⟨a, vs, rfl, s1, m1⟩ := lstQ_is r n1 h1
    obtain ⟨b, us, rfl, s2, m2⟩ := lstQ_is r n2 h2
    rw [m1.length]
    refine .lst s1 s2 (by rw [← m1.length, ← m2.length]; exact hl) fun j x y hx hy => ?_
    obtain ⟨d, hd, dn⟩ := m1.back hx
    obtain ⟨e, he, en⟩ := m2.back hy
    exact ih j d e hd he dn en
  | @len n d e ds es h1 h2 hl =>
    intro v u n1 n2
    obtain ⟨a, vs, rfl, s1, m1⟩ := lstQ_is r n1 h1
    obtain ⟨b, us, rfl, s2, m2⟩ := lstQ_is r n2 h2
    exact .len s1 s2 (by rw [← m1.length, ← m2.length]; exact hl)
def NonF (M : Ms) (d : Dt) : Prop := (∃ ds, d = .tup ds) ∨ ∃ xs, lstQ M d = some xs
theorem nonF_is {K : PySem.W.Frag} {G : Hp} {L : List Addr} {M : Ms} {H : Hp} {d : Dt} {v : V} (r : Rl K G L M H) (n : Den K G L d v) (h : NonF M d) : ∃ a, v = .ref a := by
  rcases h with ⟨ds, rfl⟩ | ⟨xs, h⟩
  · obtain ⟨a, vs, rfl, _⟩ := n; exact ⟨a, rfl⟩
  · obtain ⟨a, vs, rfl, _⟩ := lstQ_is r n h; exact ⟨a, rfl⟩
def fEqM (n : Nat) : Dt → Dt → Ms → DQ → Prop := fun d e M q => ∃ b, NonF M d ∧ NonF M e ∧ EqM M n d e b ∧ q (.bl b) M
def fNeM (n : Nat) : Dt → Dt → Ms → DQ → Prop := fun d e M q => ∃ b, NonF M d ∧ NonF M e ∧ EqM M n d e b ∧ q (.bl (!b)) M
theorem eqMD {K : PySem.W.Frag} {n : Nat} : OpD K (rEqH K n) (fEqM n) := by
  intro G0 L0 H0 G L M H v1 v2 d1 d2 q e r n1 n2 ⟨b, h1, h2, h, hq⟩
  obtain ⟨a, rfl⟩ := nonF_is r n1 h1
  obtain ⟨a', rfl⟩ := nonF_is r n2 h2
  exact ⟨a, a', b, rfl, rfl, eqM_H r h n1 n2, fin_v e r hq⟩
theorem neMD {K : PySem.W.Frag} {n : Nat} : OpD K (rNeH K n) (fNeM n) := by
  intro G0 L0 H0 G L M H v1 v2 d1 d2 q e r n1 n2 ⟨b, h1, h2, h, hq⟩
  obtain ⟨a, rfl⟩ := nonF_is r n1 h1
  obtain ⟨a', rfl⟩ := nonF_is r n2 h2
  exact ⟨a, a', b, rfl, rfl, eqM_H r h n1 n2, fin_v e r hq⟩
section
variable {X : Cx} {R : St → XK} {a b e l u : Expr} {ta tb te tl tu : DE} {t : DA} {pos p p2 : Pos} {k' : Nat}
theorem hu_n {A : Around} {k n : Nat} (hr : Room k A) (hn : n ≤ 64) : A.units + n < cLine := Nat.lt_of_le_of_lt (Nat.add_le_add_left hn _) hr.units
theorem j_eqM (n : Nat) (hr : Room k' X.A) (ja : JE X R a ta) (jb : JE X R b tb) (hn : n ≤ 64 := by decide) (hm : behindInMarks .Eq b = false := by rfl) : JE X R (.Compare a [.Eq] [b] pos) (dOp (fEqM n) ta tb) := j_cmp (op_eqH (hu_n hr hn)) eqMD ja jb hm
theorem jt_eqM (n : Nat) (hr : Room k' X.A) (ja : JE X R a ta) (jb : JE X R b tb) (hn : n ≤ 64 := by decide) (hm : behindInMarks .Eq b = false := by rfl) : JT X R (.Compare a [.Eq] [b] pos) (tstD (dOp (fEqM n) ta tb)) := jt_cmp (op_eqH (hu_n hr hn)) eqMD ja jb hm
theorem jt_neM (n : Nat) (hr : Room k' X.A) (ja : JE X R a ta) (jb : JE X R b tb) (hn : n ≤ 64 := by decide) (hm : behindInMarks .NotEq b = false := by rfl) : JT X R (.Compare a [.NotEq] [b] pos) (tstD (dOp (fNeM n) ta tb)) := jt_cmp (op_neH (hu_n hr hn)) neMD ja jb hm
theorem cutV_take (xs : List V) (k : Nat) : cutV xs none (some (k : Int)) = xs.take k := by
  unfold cutV
  rw [HT.sIx_nat, HT.sIx_none, List.drop_zero, Nat.sub_zero]
  by_cases h : k ≤ xs.length
  · rw [Nat.min_eq_left h]
  · rw [Nat.min_eq_right (by omega), List.take_of_length_le (Nat.le_refl _), List.take_of_length_le (by omega)]
def dSlL (te tl : DE) : DE := fun ρ M q x => te ρ M (fun d M1 => tl ρ M1 (fun di M2 => ∃ ds n, lstQ M2 d = some ds ∧ di = .int (n : Nat) ∧ q (.loc M2.length) (M2 ++ [.lst (ds.drop n)])) x) x
theorem j_slFromL (he : JE X R e te) (hl : JE X R l tl) : JE X R (.Subscript e (.Slice (some l) none none p2) pos) (dSlL te tl) :=
  .of (pe_slice sl_list he (po_some hl) po_none) fun σ H G L ρ M q x rl n h hx => by
    refine ⟨G, L, ρ, M, _, x, rl, n, h, hx, fun v H1 ⟨d1, G1, L1, M1, e1, r1, n1, h1⟩ => ?_⟩
    refine ⟨G1, L1, ρ, M1, _, x, r1, n.mono e1, h1, hx.on e1, fun v2 H2 ⟨d2, G2, L2, M2, e2, r2, n2, ds, k, ed, ei, h2⟩ => ?_⟩
    subst ei
    obtain ⟨a, vs, rfl, sq, m⟩ := lstQ_is r2 (Den.mono e2.g e2.l _ _ n1) ed
    have n2 : v2 = .int k := n2
    subst n2
    refine ⟨k, rfl, a, vs, rfl, sq, fun p hp => ?_⟩
    rw [cutV_drop]
    exact fin_loc (e1.trans e2) r2 hp (DenL.of (prd_drop k m.pair)) h2
end
end L2
set_option maxRecDepth 100000
set_option maxHeartbeats 4000000
namespace L2
open PySem PySem.Spec PyProof.Rows
section
variable {X : Cx} {R : St → XK} {a b e f o : Expr} {ta tb te tf to : DE} {t : DA} {pos p apos cpos : Pos} {k' : Nat}
end
end L2
set_option maxRecDepth 100000
set_option maxHeartbeats 4000000
namespace L2
open PySem PySem.Spec PyProof.Rows
section
variable {X : Cx} {elt iter tg c : Expr} {xs : List Str} {scope : Scope} {pos : Pos} {wi : TI} {gg : TG} {tc : TT} {te : TE} {ys : List Str} {caps : List Nat}
theorem ps_setcompT {i : Nat} {y : Str} {py spos : Pos} (hN : X.N.Nodup) (hiy : X.N[i]? = some y) (hy : Loc X.env.scope y) (S : CompScopeT X scope xs ys caps) (hc : X.calm = true) (hi : PI X tg iter wi) (hg : ∀ C s H fp, PG (Cx.comp X (xs ++ ys) scope C s H fp) tg gg) (hk : Keeps xs.length gg) (ht : ∀ C s H fp, PT (Cx.comp X (xs ++ ys) scope C s H fp) c tc) (he : ∀ C s H fp, PE (Cx.comp X (xs ++ ys) scope C s H fp) elt te)
    (hsw : swapsWith (.ListComp elt [⟨tg, iter, [c], 0⟩] scope pos) (some (.Name y py)) spos.line X.env = pure true) (hs : ∀ x, foldedSetIterable iter X.env x = pure x)
    (hf : X.fn y = true ∨ X.env.scope.names.lookup y = some .local) :
    PS X (.Assign [.Name y py] (.ListComp elt [⟨tg, iter, [c], 0⟩] scope pos) spos) (fun D σ H => tCompT wi xs.length gg tc te caps σ H fun v H1 => D.nx (σ.set i (some v)) H1) := by
  intro pins s σ H D I h
  rw [exec_Assign_Name_used _ _ _ _ hsw]
  refine wpAny_bind (wpAny_standAt (wpAny_bind ?_))
  show wpAny _ _ (do let _ ← comprehension (.ListComp elt [⟨tg, iter, [c], 0⟩] scope pos) scope X.env _ (newList []) false (eval iter X.env) (some (assign (.Name y py) X.env))) _ _ s
  refine wpAny_bind (wpAny_mono (wpAny_comprehension_free (use := some (assign (.Name y py) X.env)) (Q := fun _ s' => SP X pins D .next s') rfl hs (closure_is (S.has I.ok)) S.kind S.names (thn (hi pins s σ H _ I h) fun v s1 h1 => thn h1 fun itv s2 h2 => ?_)) (fun _ s' hq => wpAny_pure (wpAny_pure hq)) fun _ _ e => e)
  obtain ⟨it, fp, tn, J, H2, rfl, I2, T, t0, f2, q⟩ := h2
  refine comp_runT S hc hg hk ht he (Q := fun v H1 => D.nx (σ.set i (some v)) H1) I2 T t0 f2 q fun Dl C s' H' I' q' n' hC hz hL hcc hp => ?_
  obtain ⟨m, n'⟩ := n'
  show wpAny _ _ (assign (.Name y py) X.env (.ref Dl)) _ _ s'
  refine wpAny_assign_Name (store_ok2 I' hN hiy hy (v := .ref Dl) rfl (fun s3 I3 sb3 => ?_) hf)
  obtain ⟨a, sb3, ha⟩ := sb3
  have hCa : C ≠ a := by
    rcases ha with rfl | ha
    · exact hL
    · exact (hcc _ _ ha).symm
  exact ⟨m, n'.sameBut sb3 hCa, fun h' sb => ⟨_, H', I3.turned (it := C) (t' := s3.toks) (fun b o hb e => (sb.2 b hb).trans e) hC hL (.inr hz) hcc hp, q'⟩⟩
end
section
variable {X : Cx} {R : St → XK} {elt iter c : Expr} {x y : Str} {px py tp : Pos} {scope : Scope} {pos : Pos} {ti : DK} {tc : DT} {te : DE} {ys : List Str} {caps : List Nat} {kk : Nat}
end
section
variable {X : Cx} {R : St → XK} {elt iter c : Expr} {x z : Str} {px pz tp : Pos} {scope : Scope} {pos : Pos} {ti : DK} {tc : DT} {te : DE} {ys : List Str} {caps : List Nat} {kk : Nat}
theorem js_setcompT1 {i : Nat} {y : Str} {py spos : Pos} (hN : X.N.Nodup) (hiy : X.N[i]? = some y) (hy : Loc X.env.scope y) (S : CompScopeT X scope [x] ys caps) (hi : JK X R (.Name x px) iter ti) (ht : ∀ C s H fp, JT (Cx.comp X (x :: ys) scope C s H fp) (fun _ => E0) c tc) (he : ∀ C s H fp, JE (Cx.comp X (x :: ys) scope C s H fp) (fun _ => E0) elt te) (hc : X.calm = true := by rfl)
    (hsw : swapsWith (.ListComp elt [⟨.Name x px, iter, [c], 0⟩] scope pos) (some (.Name y py)) spos.line X.env = pure true := by rfl) (hs : ∀ x, foldedSetIterable iter X.env x = pure x := by intro _; rfl)
    (hf : X.fn y = true ∨ X.env.scope.names.lookup y = some .local := by first | exact .inl rfl | exact .inr rfl | assumption) :
    JS X R (.Assign [.Name y py] (.ListComp elt [⟨.Name x px, iter, [c], 0⟩] scope pos) spos) (sSet i (dCompT 1 ti (gN 0) tc te caps)) := .of (ps_setcompT (wi := lowK X.K R ti) (tc := lowT X.K (fun _ => E0) tc) (te := lowE X.K (fun _ => E0) te) hN hiy hy S hc hi (pgc_name S (i := 0) rfl) (keeps_name (Nat.zero_lt_succ 0)) ht he hsw hs hf) fun σ H G L ρ M Dn rl n h hx => by
  refine ⟨G, L, ρ, M, _, _, rl, n, h, hx, fun J H1 ⟨xs, ok, G1, L1, M1, e1, r1, y, hz, h1⟩ D hD => ?_⟩
  refine compT_rd gd_name r1 (n.mono e1) y hD hz h1 fun G2 L2 M2 H2 ds vs e2 r2 g2 l2 h2 n2 k => ?_
  obtain ⟨d, G3, L3, M3, e3, r3, n3, h3⟩ := own_val (q := fun d M => Dn.nx (ρ.set i (some d)) M) e2 r2 hD g2 l2 h2 n2 k
  exact ⟨_, G3, L3, M3, e1.trans e3, r3, ((n.mono e1).mono e3).set i n3, h3⟩
end
end L2
set_option maxRecDepth 100000
set_option maxHeartbeats 4000000
namespace L2
open PySem PySem.Spec PyProof.Rows
def lstR (M : Ms) : Dt → Option (List Dt)
  | .lst xs => some xs
  | .loc k => match M[k]? with
    | some (.lst xs) => some xs
    | _ => none
  | _ => none
theorem lstR_is {K : PySem.W.Frag} {G : Hp} {L : List Addr} {M : Ms} {H : Hp} {d : Dt} {v : V} {xs : List Dt} (r : Rl K G L M H) (n : Den K G L d v) (h : lstR M d = some xs) : ∃ a vs, v = .ref a ∧ H a = some (.lst vs) ∧ DenL K G L xs vs := by
  cases d with
  | lst ds => cases h; obtain ⟨a, vs, rfl, e, m⟩ := n; exact ⟨a, vs, rfl, r.sub _ _ e, m⟩
  | loc k =>
    obtain ⟨a, rfl, e⟩ := n
    have h : (match M[k]? with | some (.lst xs) => some xs | _ => none) = some xs := h
    split at h
    · rename_i ys hm
      cases h
      obtain ⟨_, vs, e1, m1⟩ := r.ats k a _ e hm
      exact ⟨a, vs, rfl, e1, m1⟩
    · cases h
  | _ => cases h
def fCatL : Dt → Dt → Ms → DQ → Prop := fun d e M q => ∃ xs ys, lstR M d = some xs ∧ lstR M e = some ys ∧ xs.length + ys.length ≤ sizeLine ∧ q (.lst (xs ++ ys)) M
theorem catLD {K : PySem.W.Frag} : OpD K rCat fCatL := by
  intro G0 L0 H0 G L M H v1 v2 d1 d2 q e r n1 n2 ⟨xs, ys, h1, h2, hz, hq⟩
  obtain ⟨p1, w1, rfl, e1, m1⟩ := lstR_is r n1 h1
  obtain ⟨p2, w2, rfl, e2, m2⟩ := lstR_is r n2 h2
  refine ⟨p1, p2, w1, w2, rfl, rfl, e1, e2, by rw [← m1.length, ← m2.length]; exact hz, fun p hp => ?_⟩
  exact fin_new e r hp (den_lst r hp (m1.app m2)) hq
section
variable {X : Cx} {R : St → XK} {a b : Expr} {ta tb : DE} {pos : Pos}
theorem j_catL (ja : JE X R a ta) (jb : JE X R b tb) : JE X R (.BinOp a .Add b pos) (dOp fCatL ta tb) := j_op op_cat catLD ja jb
end
end L2
set_option maxRecDepth 100000
set_option maxHeartbeats 4000000
namespace L2
open PySem PySem.Spec PyProof.Rows
section
variable {X : Cx} {e l : Expr} {te tl : TE} {pos p2 : Pos}
end
section
variable {X : Cx} {R : St → XK} {e l : Expr} {te tl : DE} {pos p2 : Pos}
def dSlToL (te tl : DE) : DE := fun ρ M q x => te ρ M (fun d M1 => tl ρ M1 (fun di M2 => ∃ ds n, lstQ M2 d = some ds ∧ di = .int (n : Nat) ∧ q (.loc M2.length) (M2 ++ [.lst (ds.take n)])) x) x
theorem j_slToL (he : JE X R e te) (hl : JE X R l tl) : JE X R (.Subscript e (.Slice none (some l) none p2) pos) (dSlToL te tl) :=
  .of (pe_slice sl_list he po_none (po_some hl)) fun σ H G L ρ M q x rl n h hx => by
    refine ⟨G, L, ρ, M, _, x, rl, n, h, hx, fun v H1 ⟨d1, G1, L1, M1, e1, r1, n1, h1⟩ => ?_⟩
    refine ⟨G1, L1, ρ, M1, _, x, r1, n.mono e1, h1, hx.on e1, fun v2 H2 ⟨d2, G2, L2, M2, e2, r2, n2, ds, k, ed, ei, h2⟩ => ?_⟩
    subst ei
    obtain ⟨a, vs, rfl, sq, m⟩ := lstQ_is r2 (Den.mono e2.g e2.l _ _ n1) ed
    have n2 : v2 = .int k := n2
    subst n2
    refine ⟨k, rfl, a, vs, rfl, sq, fun p hp => ?_⟩
    rw [cutV_take]
    exact fin_loc (e1.trans e2) r2 hp (DenL.of (prd_take k m.pair)) h2
end
end L2
set_option maxRecDepth 100000
set_option maxHeartbeats 4000000
namespace L2
open PySem PySem.Spec PyProof.Rows
theorem compTurn_list0 (elt target iter : Expr) (scope : Scope) (pos : Pos) (it acc : Value) (env : Env) :
    compTurn (.ListComp elt [⟨target, iter, [], 0⟩] scope pos) 0 it acc env = (standAt iter.pos >>= fun _ => pyNext it >>= fun r => match r with
      | none => pure (.done .next)
      | some v => letOwnedTupleGo target it v >>= fun _ => assign target env v >>= fun _ =>
        (eval elt env >>= fun x => call (.builtin "list.append") [acc, x] >>= fun _ => pure ()) >>= fun _ => again (.compLoop (.ListComp elt [⟨target, iter, [], 0⟩] scope pos) 0 it acc env)) := by
  unfold compTurn
  dsimp only [List.getElem?_cons_zero, List.getElem?_cons_succ, List.getElem?_nil]
  simp only [List.forIn_cons, List.forIn_nil, bind_assoc, pure_bind, if_true]
  rfl
def CompR2 (J : It) (n : Nat) (gg : TG) (te : TE) (cs : St) (Q : VK) (H1 : Hp) (D : Addr) : Prop :=
  ∃ W : Nat → Nat → List V → Hp → Prop, (∃ m, W 0 m [] (upd H1 D (.lst []))) ∧ ∀ i m ys H2, W i m ys H2 → H2 D = some (.lst ys) ∧
    ((J.stop i H2 ∧ Q (.ref D) H2) ∨ (J.go i H2 ∧ ∀ x H3, J.yld i H2 x H3 → ∀ os : St, os.length = n → gg x (os ++ cs) H3 fun σ' H3' => te σ' H3' fun y H5 => H5 D = some (.lst ys) ∧ ys.length < sizeLine ∧ ∃ m', m' < m ∧ W (i + 1) m' (ys ++ [y]) (upd H5 D (.lst (ys ++ [y])))))
def tComp2 (wi : TI) (n : Nat) (gg : TG) (te : TE) (caps : List Nat) : TE := fun σ H Q => wi σ H fun J H1 => ∀ D, H1 D = none → CompR2 J n gg te (capV caps σ) Q H1 D
section
variable {X : Cx} {elt iter tg : Expr} {xs : List Str} {scope : Scope} {pos : Pos} {wi : TI} {gg : TG} {te : TE} {ys : List Str} {caps : List Nat}
theorem comp_run2 (S : CompScopeT X scope xs ys caps) (hc : X.calm = true) (hg : ∀ C s H fp, PG (Cx.comp X (xs ++ ys) scope C s H fp) tg gg) (hk : Keeps xs.length gg) (he : ∀ C s H fp, PE (Cx.comp X (xs ++ ys) scope C s H fp) elt te)
    {pins : List (Addr × Obj)} {σ : St} {H2 : Hp} {s2 : Shared} {it : Addr} {fp : List Addr} {tn : Nat → Heap → Prop} {J : It} {Q : V → Hp → Prop} {PQ : Value → Addr → Result → Shared → Prop} (I : Inv X pins σ H2 s2) (T : Turn X.prog X.w X.K tg J fp it tn) (t0 : tn 0 s2.heap) (f2 : ∀ b ∈ fp, FpOk X pins H2 b)
    (h : ∀ D, H2 D = none → CompR2 J xs.length gg te (capV caps σ) Q H2 D)
    (hPQ : ∀ D C s' H', Inv X pins σ H' s' → Q (.ref D) H' → (∃ m, s'.heap.Ns C m) → H' C = none → X.s₀.heap.objs.size ≤ C → C ≠ X.env.locals → (∀ z c, X.env.cells.lookup z = some c → c ≠ C) → (∀ p ∈ X.pn ++ pins, p.1 ≠ C) → PQ (.ref D) C (.ok .next) s') :
    wpAny (model X.prog X.w) X.A (newList []) (fun acc s3 => wpAny (model X.prog X.w) X.A (newFunctionEnv scope X.env.globals (clOf X.env scope.names []) [] X.env.qual none .none (some X.env)) (fun cenv s4 =>
      codeAny (model X.prog X.w) X.A (.compStart (.ListComp elt [⟨tg, iter, [], 0⟩] scope pos) 0 (.ref it) acc { cenv with scope := relabel scope X.env }) (PQ acc cenv.locals) s4) X.xe s3) X.xe s2 := by
  have hD : H2 s2.heap.objs.size = none := I.fresh
  obtain ⟨W, ⟨m0, w0⟩, step⟩ := h _ hD
  refine wpAny_newObj_type ?_
  have I3 : Inv X pins σ (upd H2 s2.heap.objs.size (.lst [])) { s2 with heap := s2.heap.push { cls := .type "list", data := .seq ([] : List Value).toArray } } := Inv.lnew (t' := s2.toks) I (ys := []) (its := []) .nil (Nat.zero_le _)
  generalize hH3 : upd H2 s2.heap.objs.size (.lst []) = H3 at I3 w0
  generalize hs3 : ({ s2 with heap := s2.heap.push { cls := .type "list", data := .seq ([] : List Value).toArray } } : Shared) = s3 at I3
  have hfp3 : ∀ b ∈ fp, H3 b = none := fun b hb => by
    obtain ⟨o, e, _⟩ := T.obj _ _ t0 b hb
    rw [← hH3, upd_ne (Nat.ne_of_lt (Heap.lt_size e))]
    exact (f2 b hb).1
  have t3 : tn 0 s3.heap := T.keep _ _ _ t0 fun b hb o e => by rw [← hs3]; exact Heap.get?_push_of_some _ e
  refine wpAny_newFunctionEnv S.nocell (fun y hy => nomatch hy) (fun h4 ns4 sb4 => ?_) S.kind
  have hC : H3 s3.heap.objs.size = none := I3.fresh
  have kp : ∀ b o, s3.heap.get? b = some o → h4.get? b = some o := fun b o e =>
    (sb4.2 b (Nat.ne_of_lt (Heap.lt_size e))).trans (Heap.get?_push_of_some _ e)
  generalize hs4 : ({ s3 with heap := h4, toks := s3.toks + ([] : List (Str × Value)).length } : Shared) = s4
  have e4 : s4.heap = h4 := by rw [← hs4]
  have cne : ∀ z c, X.env.cells.lookup z = some c → c ≠ s3.heap.objs.size := fun z c e q => by
    obtain ⟨v, w⟩ := I3.cell z c e
    exact Nat.lt_irrefl _ (q ▸ w.lt)
  have cl_in : ∀ z c, (clOf X.env scope.names []).lookup z = some c → X.env.cells.lookup z = some c := fun z c e => clOf_look scope.names [] (S.has I.ok) (fun q => nomatch q) e
  have Lne : s3.heap.objs.size ≠ X.env.locals := Nat.ne_of_gt I3.lt
  have ok : (Cx.comp X (xs ++ ys) scope s3.heap.objs.size s3 H3 fp).Ok := by
    refine ⟨I3.ok.mod, S.kind, I3.ok.glob, I3.ok.blt, Nat.le_refl _, fun z z' c e1 e2 => I3.ok.inj z z' c (cl_in z c e1) (cl_in z' c e2), fun z hz => ?_, fun z c hz => (by cases hz), I3.ok.hd, I3.ok.frames, .inl rfl, fun b hb => ⟨?_, fun z c e => ?_⟩, I3.bs, ?_, fun b o e hb => ?_, fun b hb hf => ?_, I3.stack, I3.stkFree⟩
    · have := clOf_has (env := X.env) scope.names [] (.inl (rel_in S.nocell hz))
      exact Option.isSome_iff_exists.mp this
    · obtain ⟨o, e, _⟩ := T.obj _ _ t3 b hb
      exact Nat.ne_of_lt (Heap.lt_size e)
    · exact (f2 b hb).2.2.2.2.1 z c (cl_in z c e)
    · exact Nat.le_trans I3.ok.bsz I3.sz
    · obtain ⟨_, _, _, hy, _⟩ := f2 b hb
      have e0 := (I3.ok.bs b o e).1
      rcases hy with hy | hy
      · exact I3.ok.noex b o e hy
      · exact absurd (Nat.lt_of_lt_of_le (Heap.lt_size e0) hy) (Nat.lt_irrefl _)
    · obtain ⟨_, hl, hfs, _⟩ := f2 b hb
      exact (List.mem_cons.mp (I3.stkSub b hf)).elim hl hfs
  have hlen : ((List.replicate xs.length (none : Option V)) ++ capV caps σ).length = (xs ++ ys).length := by
    rw [List.length_append, List.length_append, List.length_replicate, S.len]
    unfold capV
    rw [List.length_map]
  have I4 : Inv X pins σ H3 s4 := by
    rw [← hs4]
    exact I3.kept kp
  have Ic : Inv (Cx.comp X (xs ++ ys) scope s3.heap.objs.size s3 H3 fp) [] ((List.replicate xs.length (none : Option V)) ++ capV caps σ) H3 s4 := by
    refine ⟨ok, by rw [← hs4]; rfl, I4.bare, Un.kept (by rw [e4]; exact kp), ⟨_, by rw [e4]; exact ns4, fun i z v e1 e2 e3 => ?_⟩, fun z c e => I4.cell z c (cl_in z c e), hC, fun z c e => I4.freeC z c (cl_in z c e), (fun p hp => nomatch hp), I4.hok, hlen⟩
    have e1 : (xs ++ ys)[i]? = some z := e1
    by_cases hi : i < xs.length
    · rw [List.getElem?_append_left (by rw [List.length_replicate]; exact hi), List.getElem?_replicate, if_pos hi] at e2
      cases e2
    · obtain ⟨j, rfl⟩ : ∃ j, i = xs.length + j := ⟨i - xs.length, by omega⟩
      have e1 : ys[j]? = some z := by
        rw [List.getElem?_append_right (by omega), Nat.add_sub_cancel_left] at e1
        exact e1
      have e2 : (capV caps σ)[j]? = some (some v) := by
        rw [List.getElem?_append_right (by rw [List.length_replicate]; omega), List.length_replicate, Nat.add_sub_cancel_left] at e2
        exact e2
      unfold capV at e2
      rw [List.getElem?_map] at e2
      cases hi : caps[j]? with
      | none => rw [hi] at e2; cases e2
      | some i =>
        rw [hi] at e2
        have e2 : (σ[i]?).join = some v := Option.some.inj e2
        have e2 : σ[i]? = some (some v) := by
          cases q : σ[i]? with
          | none => rw [q] at e2; cases e2
          | some o => rw [q] at e2; exact congrArg some e2
        obtain ⟨c1, c2, c3⟩ := S.cap (z, i) (zip_at e1 hi)
        have c4 := rel_cell (env := X.env) I.ok.kind c2 c3
        have c3 : (z, NameKind.free) ∈ scope.names := PySem.mem_of_lookup c3
        obtain ⟨m, hn, hl⟩ := I4.loc
        obtain ⟨u, r, lk⟩ := hl i z v c1 e2 (.inr (.inl c2))
        refine ⟨u, r, .inr ⟨.inl c4, ?_⟩⟩
        rcases lk with ⟨k, _⟩ | ⟨_, c, hc', z'⟩
        · exact absurd ((show X.env.scope.names.lookup z = some .local from k).symm.trans c2) (by decide)
        · obtain ⟨d, hd⟩ := Option.isSome_iff_exists.mp (clOf_has (env := X.env) scope.names [] (.inl c3))
          have := cl_in z d hd
          rw [hc'] at this
          cases this
          exact ⟨c, hd, z'⟩
  have loop : codeAny (model X.prog X.w) X.A (.compLoop (.ListComp elt [⟨tg, iter, [], 0⟩] scope pos) 0 (.ref it) (.ref s2.heap.objs.size) (compEnvC scope (clOf X.env scope.names []) s3.heap.objs.size X.env)) (PQ (.ref s2.heap.objs.size) s3.heap.objs.size) s4 := by
    have fpC : ∀ {H' : Hp}, (∀ b ∈ fp, H' b = none) → ∀ b ∈ fp, FpOk (Cx.comp X (xs ++ ys) scope s3.heap.objs.size s3 H3 fp) [] H' b := fun hn b hb =>
      ⟨hn b hb, (ok.exf b hb).1, ok.exfs b hb, .inl hb, (ok.exf b hb).2, (fun p hp => nomatch hp)⟩
    refine codeAny_loop rfl (fun n s' => ∃ (i : Nat) (zs : List V) (os : St) (H' : Hp), os.length = xs.length ∧ Inv (Cx.comp X (xs ++ ys) scope s3.heap.objs.size s3 H3 fp) [] (os ++ capV caps σ) H' s' ∧ tn i s'.heap ∧ (∀ b ∈ fp, H' b = none) ∧ W i n zs H') (fun n s5 z => ?_) m0 ⟨0, [], List.replicate xs.length none, H3, by rw [List.length_replicate], Ic, T.keep _ _ _ t3 (fun b hb o e => by rw [e4]; exact kp b o e), hfp3, w0⟩
    obtain ⟨i, zs, os, H5, l5, I5, t5, fr5, w5⟩ := z
    show wpAny _ _ ((compTurn _ 0 (.ref it) _ _).onRaise _) _ _ s5
    refine wpAny_noted ?_
    rw [compTurn_list0]
    refine wpAny_bind (wpAny_standAt (wpAny_bind ?_))
    obtain ⟨hacc, stop | go⟩ := step i n zs H5 w5
    · obtain ⟨stop, q⟩ := stop
      refine thn (T.done (Cx.comp X (xs ++ ys) scope s3.heap.objs.size s3 H3 fp) rfl rfl rfl hc i [] s5 _ H5 _ I5 (fpC fr5) t5 stop) fun r s6 ⟨hr, I6⟩ => ?_
      subst hr
      refine wpAny_pure (hPQ _ _ s6 H5 ?_ q ?_ I6.free ?_ Lne cne fun p hp z => ?_)
      · refine I3.call' I6.os I6.base I6.hok I6.bare fun b hb => ?_
        obtain ⟨_, g1, _, g3, g4, g5⟩ := f2 b hb
        exact ⟨g3, g1, g4, g5⟩
      · obtain ⟨m, hn, _⟩ := I6.loc
        exact ⟨m, hn⟩
      · exact I3.sz
      · exact Nat.ne_of_lt (Heap.lt_size (I3.pin p hp).1) z
    · obtain ⟨go, turn⟩ := go
      refine thn (T.item (Cx.comp X (xs ++ ys) scope s3.heap.objs.size s3 H3 fp) rfl rfl rfl hc i [] s5 _ H5 _ I5 (fpC fr5) t5 go) fun r s6 ⟨u, hr, h6⟩ => ?_
      subst hr
      refine wpAny_bind (thn h6 fun _ s7 ⟨y, H7, I7, r7, y7, t7, fr7⟩ => ?_)
      have I7' := I7.pinned (fpC fr7) (T.obj _ _ t7)
      refine wpAny_bind (wpAny_mono (hg _ _ _ _ _ s7 _ H7 y u _ I7' r7 (hk y os _ H7 _ l5 (turn y _ y7 os l5))) (fun _ s8 z8 => ?_) fun _ _ f => f.elim)
      obtain ⟨σ8, H8, I8, ⟨os8, l8, e8⟩, q8⟩ := z8
      subst e8
      refine wpAny_bind (wpAny_bind (wpAny_mono (he _ _ _ _ _ s8 _ _ _ I8 q8) (fun u10 s10 z10 => ?_) fun _ _ f => f.elim))
      obtain ⟨v10, H10, I10, r10, a10, l10, m10, hm10, w10⟩ := z10
      refine wpAny_bind (wpAny_mono (mt_append (X := Cx.comp X (xs ++ ys) scope s3.heap.objs.size s3 H3 fp) _ s10 _ H10 (.ref s2.heap.objs.size) [v10] _ [u10] (fun _ H' => H' = upd H10 s2.heap.objs.size (.lst (zs ++ [v10]))) I10 rfl (.cons r10 .nil) ⟨_, zs, v10, rfl, rfl, a10, l10, rfl⟩) (fun _ s11 z11 => ?_) fun _ _ f => f.elim)
      obtain ⟨_, H11, I11, _, e11⟩ := z11
      subst e11
      refine wpAny_pure (wpAny_pure ⟨rfl, m10, hm10, i + 1, zs ++ [v10], os8, _, l8, I11.unpinned, T.keep _ _ _ t7 fun b hb o e => (I11.pin (b, o) (List.mem_append_right _ (List.mem_append_right _ (mem_pinsAt hb e)))).1, fun b hb => ?_, w10⟩)
      obtain ⟨o, e, _⟩ := T.obj _ _ t7 b hb
      exact (I11.pin (b, o) (List.mem_append_right _ (List.mem_append_right _ (mem_pinsAt hb e)))).2.1
  exact codeAny_compStart_list loop (T.self X.A 0 _ _ _ (T.keep _ _ _ t3 (fun b hb o e => by rw [e4]; exact kp b o e)) loop)
theorem pe_comp2 (S : CompScopeT X scope xs ys caps) (hc : X.calm = true) (hi : PI X tg iter wi) (hg : ∀ C s H fp, PG (Cx.comp X (xs ++ ys) scope C s H fp) tg gg) (hk : Keeps xs.length gg) (he : ∀ C s H fp, PE (Cx.comp X (xs ++ ys) scope C s H fp) elt te) (hs : ∀ x, foldedSetIterable iter X.env x = pure x := by intro _; rfl) :
    PE X (.ListComp elt [⟨tg, iter, [], 0⟩] scope pos) (tComp2 wi xs.length gg te caps) := by
  intro pins s σ H Q I h
  rw [eval_ListComp]
  refine wpAny_comprehension_free (use := none) rfl hs (closure_is (S.has I.ok)) S.kind S.names (thn (hi pins s σ H _ I h) fun v s1 h1 => thn h1 fun itv s2 h2 => ?_)
  obtain ⟨it, fp, tn, J, H2, rfl, I2, T, t0, f2, q⟩ := h2
  refine comp_run2 S hc hg hk he (Q := Q) I2 T t0 f2 q fun D C s' H' I' q' n' hC hz hL hcc hp => ?_
  obtain ⟨m, n'⟩ := n'
  exact ⟨m, n', fun h' sb => ⟨.ref D, H', I'.turned (it := C) (t' := s'.toks) (fun b o hb e => (sb.2 b hb).trans e) hC hL (.inr hz) hcc hp, rfl, q'⟩⟩
end
def comp2 (g : Dt → En → (En → Prop) → Prop) (te : DE) (ρ0 : En) (ok : Ms → Prop) : List Dt → List Dt → Ms → (List Dt → Ms → Prop) → Prop
  | [], acc, M, k => ok M ∧ k acc M
  | x :: xs, acc, M, k => ok M ∧ g x ρ0 fun ρ' => te ρ' M (fun d M2 => comp2 g te ρ0 ok xs (acc ++ [d]) M2 k) noX
def dComp2 (n : Nat) (ti : DK) (g : Dt → En → (En → Prop) → Prop) (te : DE) (caps : List Nat) : DE := fun ρ M q x => ti ρ M (fun xs ok M1 => xs.length ≤ sizeLine ∧ comp2 g te (List.replicate n none ++ capD caps ρ) ok xs [] M1 (fun ys M2 => q (.lst ys) M2)) x
theorem comp2_rd {K : PySem.W.Frag} {J : It} {gg : TG} {g : Dt → En → (En → Prop) → Prop} {te : DE} {caps : List Nat} {nn : Nat} {ρ : En} {σ : St} {G1 : Hp} {L1 : List Addr} {M1 : Ms} {H1 : Hp} {xs : List Dt} {ok : Ms → Prop} {Dl : Addr} {Q : VK} {k : List Dt → Ms → Prop} (gd : GD K gg g) (r1 : Rl K G1 L1 M1 H1) (n : EnD K G1 L1 ρ σ) (y : YlK K J xs ok G1 L1) (hD : H1 Dl = none) (hz : xs.length ≤ sizeLine)
    (h : comp2 g te (List.replicate nn none ++ capD caps ρ) ok xs [] M1 k)
    (fin : ∀ G2 L2 M2 H2 ds vs, Ex G1 L1 H1 G2 L2 H2 → Rl K G2 L2 M2 H2 → G2 Dl = none → Dl ∉ L2 → H2 Dl = some (.lst vs) → DenL K G2 L2 ds vs → k ds M2 → Q (.ref Dl) H2) :
    CompR2 J nn gg (lowE K (fun _ => E0) te) (capV caps σ) Q H1 Dl := by
  refine ⟨fun i m ys H2 => m + i = xs.length ∧ H2 Dl = some (.lst ys) ∧ ∃ acc G2 L2 M2, Ex G1 L1 H1 G2 L2 H2 ∧ Rl K G2 L2 M2 H2 ∧ G2 Dl = none ∧ Dl ∉ L2 ∧ DenL K G2 L2 acc ys ∧ acc.length ≤ i ∧ comp2 g te (List.replicate nn none ++ capD caps ρ) ok (xs.drop i) acc M2 k, ⟨xs.length, rfl, upd_same, [], G1, L1, M1, ?_⟩, ?_⟩
  · have gn : G1 Dl = none := r1.sub.free hD
    refine ⟨⟨.refl _, .refl _, fun _ h _ => h, fun b u h1 _ => by rw [upd_ne (fun z => by rw [z, hD] at h1; cases h1)]; exact h1, fun _ h => .inl h, fun b h => by rw [upd_ne (fun z => h (by rw [z]; exact hD))]; exact h⟩, ⟨fun b u e => by rw [upd_ne (fun z => by rw [z, gn] at e; cases e)]; exact r1.sub b u e, r1.len, r1.nd, fun i a m h1 h2 => ?_⟩, gn, r1.memN hD, rfl, Nat.le_refl _, by rw [List.drop_zero]; exact h⟩
    obtain ⟨q1, q2⟩ := r1.ats i a m h1 h2
    exact ⟨q1, q2.mono (.refl _) (.refl _) (upd_ne fun z => q2.there (by rw [z]; exact hD))⟩
  · rintro i m ys H2 ⟨hm, hacc, acc, G2, L2, M2, e2, r2, g2, l2, n2, la, h2⟩
    refine ⟨hacc, ?_⟩
    have ne1 : ∀ {b : Addr} {u : HO}, H1 b = some u → b ≠ Dl := fun e z => by rw [z, hD] at e; cases e
    by_cases hi : i < xs.length
    · right
      have hd : xs[i]? = some xs[i] := List.getElem?_eq_getElem hi
      rw [List.drop_eq_getElem_cons hi] at h2
      obtain ⟨hok, h2⟩ := h2
      obtain ⟨go, yl⟩ := y.go i G2 L2 M2 H2 _ e2.g e2.l r2 hok hd
      refine ⟨go, fun v H3 hy os hos => ?_⟩
      obtain ⟨G3, e3, r3, n3⟩ := yl v H3 hy
      have h3 : H3 Dl = some (.lst ys) := e3.out _ _ hacc l2
      have g3 : G3 Dl = none := e3.fr _ g2 (by rw [hacc]; simp)
      refine gd G3 L2 M2 H3 _ v _ _ _ _ r3 n3 (cap_enN ((n.mono e2).mono e3) caps hos) h2 fun ρ' σ' n' h' => ?_
      refine ⟨G3, L2, ρ', M2, _, noX, r3, n', h', xok_no, fun v5 H5 ⟨d5, G5, L5, M5, e5, r5, n5, h5⟩ => ?_⟩
      have h5' : H5 Dl = some (.lst ys) := e5.out _ _ h3 l2
      have g5 : G5 Dl = none := e5.fr _ g3 (by rw [h3]; simp)
      have l5 : Dl ∉ L5 := fun z => (e5.new _ z).elim l2 fun q => by rw [h3] at q; cases q
      have e35 := e3.trans e5
      have lenys : ys.length = acc.length := by rw [← n2.length]
      refine ⟨h5', by omega, m - 1, by omega, by omega, upd_same, acc ++ [d5], G5, L5, M5, ?_, ?_, g5, l5, (DenL.mono e35.g e35.l _ _ n2).app ⟨_, _, rfl, n5, rfl⟩, by rw [List.length_append]; show acc.length + 1 ≤ i + 1; omega, h5⟩
      · have e15 := e2.trans e35
        exact ⟨e15.g, e15.l, e15.fr, fun b u h1 h2 => by rw [upd_ne (ne1 h1)]; exact e15.out b u h1 h2, e15.new, fun b h => by
          by_cases hb : b = Dl
          · rw [hb, upd_same]; simp
          · rw [upd_ne hb]; exact e15.dom b h⟩
      · refine ⟨fun b u e => by rw [upd_ne (fun z => by rw [z, g5] at e; cases e)]; exact r5.sub b u e, r5.len, r5.nd, fun i a m h1 h2 => ?_⟩
        obtain ⟨q1, q2⟩ := r5.ats i a m h1 h2
        exact ⟨q1, q2.mono (.refl _) (.refl _) (upd_ne fun z => l5 (by rw [← z]; exact List.mem_of_getElem? h1))⟩
    · left
      rw [List.drop_eq_nil_of_le (by omega)] at h2
      exact ⟨y.stop i G2 L2 M2 H2 e2.g e2.l r2 h2.1 (by omega), fin G2 L2 M2 H2 acc ys e2 r2 g2 l2 hacc n2 h2.2⟩
section
variable {X : Cx} {R : St → XK} {elt iter : Expr} {x y : Str} {px py tp : Pos} {scope : Scope} {pos : Pos} {ti : DK} {te : DE} {ys : List Str} {caps : List Nat} {kk : Nat}
theorem j_comp2 (S : CompScopeT X scope [x, y] ys caps) (hi : JK X R (.Tuple [.Name x px, .Name y py] kk tp) iter ti) (he : ∀ C s H fp, JE (Cx.comp X (x :: y :: ys) scope C s H fp) (fun _ => E0) elt te) (hc : X.calm = true := by rfl) (hs : ∀ x, foldedSetIterable iter X.env x = pure x := by intro _; rfl) :
    JE X R (.ListComp elt [⟨.Tuple [.Name x px, .Name y py] kk tp, iter, [], 0⟩] scope pos) (dComp2 2 ti (g2 0 1) te caps) := .of (pe_comp2 (wi := lowK X.K R ti) (te := lowE X.K (fun _ => E0) te) S hc hi (pgc_two hc S) (keeps_two (Nat.zero_lt_succ 1) (Nat.lt_succ_self 1)) he hs) fun σ H G L ρ M q x rl n h hx => by
  refine ⟨G, L, ρ, M, _, x, rl, n, h, hx, fun J H1 ⟨xs, ok, G1, L1, M1, e1, r1, y, hz, h1⟩ D hD => ?_⟩
  exact comp2_rd gd_two r1 (n.mono e1) y hD hz h1 fun G2 L2 M2 H2 ds vs e2 r2 g2 l2 h2 n2 k => Fin.back e1 (own_val e2 r2 hD g2 l2 h2 n2 k)
end
theorem comp2_map {g : Dt → En → (En → Prop) → Prop} {te : DE} {ρ0 : En} {ok : Ms → Prop} {M : Ms} {k : List Dt → Ms → Prop} (ho : ok M) (f : Dt → Dt) : ∀ (xs acc : List Dt), (∀ x ∈ xs, ∀ q : DQ, q (f x) M → g x ρ0 fun ρ' => te ρ' M q noX) → k (acc ++ xs.map f) M → comp2 g te ρ0 ok xs acc M k
  | [], acc, _, h => ⟨ho, by simpa using h⟩
  | x :: xs, acc, ht, h => ⟨ho, ht x List.mem_cons_self _ (comp2_map ho f xs _ (fun y hy => ht y (List.mem_cons_of_mem _ hy)) (by simpa using h))⟩
theorem cutV_both (xs : List V) (a b : Nat) : cutV xs (some (a : Int)) (some (b : Int)) = (xs.drop a).take (b - a) := by
  unfold cutV
  rw [HT.sIx_nat, HT.sIx_nat]
  by_cases ha : a ≤ xs.length
  · rw [Nat.min_eq_left ha]
    by_cases hb : b ≤ xs.length
    · rw [Nat.min_eq_left hb]
    · rw [Nat.min_eq_right (by omega), List.take_of_length_le (by rw [List.length_drop]; omega), List.take_of_length_le (by rw [List.length_drop]; omega)]
  · have h1 : min a xs.length = xs.length := Nat.min_eq_right (by omega)
    rw [h1, List.drop_of_length_le (Nat.le_refl xs.length), List.drop_of_length_le (show xs.length ≤ a by omega)]
    simp
section
variable {X : Cx} {R : St → XK} {e l u a b : Expr} {te tl tu ta tb : DE} {pos p2 : Pos}
def dSlBL (te tl tu : DE) : DE := fun ρ M q x => te ρ M (fun d M1 => tl ρ M1 (fun di M2 => ∃ n : Nat, di = .int n ∧ tu ρ M2 (fun du M3 => ∃ ds m, lstQ M3 d = some ds ∧ du = .int (m : Nat) ∧ q (.loc M3.length) (M3 ++ [.lst ((ds.drop n).take (m - n))])) x) x) x
theorem j_slBothL (he : JE X R e te) (hl : JE X R l tl) (hu : JE X R u tu) : JE X R (.Subscript e (.Slice (some l) (some u) none p2) pos) (dSlBL te tl tu) :=
  .of (pe_slice sl_list he (po_some hl) (po_some hu)) fun σ H G L ρ M q x rl n h hx => by
    refine ⟨G, L, ρ, M, _, x, rl, n, h, hx, fun v H1 ⟨d1, G1, L1, M1, e1, r1, n1, h1⟩ => ?_⟩
    refine ⟨G1, L1, ρ, M1, _, x, r1, n.mono e1, h1, hx.on e1, fun v2 H2 ⟨d2, G2, L2, M2, e2, r2, n2, k, ek, h2⟩ => ?_⟩
    subst ek
    have n2 : v2 = .int k := n2
    subst n2
    refine ⟨k, rfl, G2, L2, ρ, M2, _, x, r2, (n.mono e1).mono e2, h2, (hx.on e1).on e2, fun v3 H3 ⟨d3, G3, L3, M3, e3, r3, n3, ds, m, ed, em, h3⟩ => ?_⟩
    subst em
    have e23 := e2.trans e3
    obtain ⟨a, vs, rfl, sq, dn⟩ := lstQ_is r3 (Den.mono e23.g e23.l _ _ n1) ed
    have n3 : v3 = .int m := n3
    subst n3
    refine ⟨m, rfl, a, vs, rfl, sq, fun p hp => ?_⟩
    rw [cutV_both]
    exact fin_loc (e1.trans e23) r3 hp (DenL.of (prd_take (m - k) (prd_drop k dn.pair))) h3
def fRepM : Dt → Dt → Ms → DQ → Prop := fun d e M q => ∃ xs k, lstR M d = some xs ∧ e = .int k ∧ -(2 ^ 63) ≤ k ∧ k < 2 ^ 63 ∧ xs.length * k.toNat ≤ sizeLine ∧ q (.loc M.length) (M ++ [.lst (List.replicate k.toNat xs).flatten])
theorem repMD {K : PySem.W.Frag} : OpD K rRep fRepM := by
  intro G0 L0 H0 G L M H v1 v2 d1 d2 q e r n1 n2 ⟨xs, k, h1, h2, a, b, hz, hq⟩
  obtain ⟨p1, w1, rfl, e1, m1⟩ := lstR_is r n1 h1
  subst h2
  have n2 : v2 = .int k := n2
  subst n2
  refine ⟨p1, k, w1, rfl, rfl, e1, a, b, by rw [← m1.length]; exact hz, fun p hp => ?_⟩
  exact fin_loc e r hp (DenL.of (prd_rep m1.pair k.toNat)) hq
theorem j_repM (ja : JE X R a ta) (jb : JE X R b tb) : JE X R (.BinOp a .Mult b pos) (dOp fRepM ta tb) := j_op op_rep repMD ja jb
end
end L2
set_option maxRecDepth 100000
set_option maxHeartbeats 4000000
namespace L2
open PySem PySem.Spec PyProof.Rows
section
variable {X : Cx}
theorem ins_eq (l : List Value) (k : Nat) (y : Value) : (l.toArray.extract 0 k).push y ++ l.toArray.extract k = (l.take k ++ y :: l.drop k).toArray := by
  apply Array.toList_inj.mp
  simp
  exact List.take_of_length_le (by simp)
def rInsert : V → List V → Hp → VK → Prop := fun x vs H Q => ∃ l xs y, ∃ i : Nat, x = .ref l ∧ vs = [.int (i : Int), y] ∧ H l = some (.lst xs) ∧ xs.length < sizeLine ∧ i ≤ xs.length ∧ Q .non (upd H l (.lst (xs.take i ++ y :: xs.drop i)))
theorem mt_insert : MtM X "list.insert" rInsert := by
  intro pins s σ H x vs v us Q I rx rv h
  obtain ⟨l, xs, y, i, rfl, rfl, hH, hz, hi, q⟩ := h
  cases rx
  obtain ⟨u1, u, rfl, ru1, ru⟩ := rv.two
  obtain ⟨tk, rfl⟩ := ru1
  obtain ⟨z, its, n, r, hl, e⟩ := I.lstM hH
  have h63 : sizeLine < 2 ^ 63 := by decide
  have hi63 : i < 2 ^ 63 := Nat.lt_of_le_of_lt hi (Nat.lt_trans hz h63)
  have hf : ¬(!Builtin.List.listFitsIndex (i : Int)) = true := by
    have : Builtin.List.listFitsIndex (i : Int) = true := by
      clear h63 hz hi q
      have a1 : -(2 ^ 63 : Int) ≤ (i : Int) := by omega
      have a2 : (i : Int) < 2 ^ 63 := by omega
      unfold Builtin.List.listFitsIndex
      rw [decide_eq_true a1, decide_eq_true a2]; rfl
    rw [this]; decide
  have hlen := r.length
  have hsz : its.toArray.size ≤ sizeLine := by rw [List.size_toArray, ← hlen]; exact Nat.le_of_lt hz
  obtain ⟨j, hj⟩ : ∃ j : Int, j = (i : Int) := ⟨_, rfl⟩
  rw [← hj] at hf ⊢
  have hM := PySem.AutoSeq1.list_insert_list_int_val_1 l its.toArray n j tk u hf hsz
  refine call_meets F.slot_list_insert ⟨_, e, rfl⟩ F.entry_list_insert (F.args_list_insert_3 _ _ _) hM ⟨e, ?_⟩
  refine ⟨.non, _, I.lset (its' := its.take i ++ u :: its.drop i) hH e ?_ ((r.take i).append (.cons ru (r.drop i))) ?_, rfl, q⟩
  · show (its.toArray.extract 0 (if j < 0 then (j + (its.toArray.size : Int)).toNat else min j.toNat its.toArray.size)).push u ++ its.toArray.extract (if j < 0 then (j + (its.toArray.size : Int)).toNat else min j.toNat its.toArray.size) = _
    have e2 : (if j < 0 then (j + (its.toArray.size : Int)).toNat else min j.toNat its.toArray.size) = i := by
      rw [if_neg (by omega), List.size_toArray, hj, Int.toNat_natCast]; omega
    rw [e2]
    exact ins_eq its i u
  · rw [List.length_append, List.length_cons, List.length_take, List.length_drop, Nat.min_eq_left hi, show i + (xs.length - i + 1) = xs.length + 1 by omega]
    exact hz
end
theorem DenL.tak {K : PySem.W.Frag} {G : Hp} {L : List Addr} : ∀ {ds : List Dt} {vs : List V} (n : Nat), DenL K G L ds vs → DenL K G L (ds.take n) (vs.take n)
  | _, _, 0, _ => rfl
  | [], _, n + 1, h => by cases h; rfl
  | _ :: _, _, n + 1, ⟨v, vs, e, h1, h2⟩ => by subst e; exact ⟨v, vs.take n, rfl, h1, DenL.tak n h2⟩
theorem DenL.dro {K : PySem.W.Frag} {G : Hp} {L : List Addr} : ∀ {ds : List Dt} {vs : List V} (n : Nat), DenL K G L ds vs → DenL K G L (ds.drop n) (vs.drop n)
  | _, _, 0, h => h
  | [], _, n + 1, h => by cases h; rfl
  | _ :: _, _, n + 1, ⟨v, vs, e, h1, h2⟩ => by subst e; exact DenL.dro n h2
section
variable {X : Cx} {R : St → XK} {e f o : Expr} {t : DA} {to : DE} {apos cpos : Pos}
def dIns (to : DE) (t : DA) : DE := fun ρ M q x => to ρ M (fun d M1 => (∃ k xs, d = .loc k ∧ M1[k]? = some (.lst xs)) ∧ t ρ M1 (fun ds M2 => ∃ k xs y, ∃ i : Nat, d = .loc k ∧ ds = [.int (i : Int), y] ∧ M2[k]? = some (.lst xs) ∧ xs.length < sizeLine ∧ i ≤ xs.length ∧ q .non (M2.set k (.lst (xs.take i ++ y :: xs.drop i)))) x) x
theorem j_insert (ho : JE X R o to) (ha : JA X R [e, f] t) (hbase : attributeBase o "insert" X.env (eval o X.env) = eval o X.env := by rfl)
    (hfew : ((backTo cpos (starEach [e, f] X.env)).all (fun x => !x.1) && (backToKw cpos (keywordEach [] X.env)).all (fun x => x.1.isSome)
      && decide (([e, f] : List Expr).length + ([] : List Keyword).length + (if ([] : List Keyword).isEmpty then 0 else 1) < 30)) = true := by rfl)
    (hline : (apos.endLine == cpos.line) = true := by rfl) (hs : starEach [e, f] X.env = (false, eval e X.env) :: starEach [f] X.env := by rfl) (hplain : (backTo cpos (starEach [f] X.env)).any (·.1) = false := by rfl) :
    JE X R (.Call (.Attribute o "insert" apos) [e, f] [] cpos) (dIns to t) :=
  .of (pe_bm PySem.F.plainAttrs_list PySem.F.slot_list_insert PySem.F.type_list_insert (r := rInsert) mt_insert ho ha hbase hfew hline hs hplain) fun σ H G L ρ M q x rl n h hx => by
    refine ⟨G, L, ρ, M, _, x, rl, n, h, hx, fun v H1 ⟨d1, G1, L1, M1, e1, r1, n1, ⟨k, xs, ed, hm⟩, h1⟩ => ?_⟩
    subst ed
    obtain ⟨a, rfl, hk⟩ := n1
    obtain ⟨_, vs, hH, _⟩ := r1.ats k a _ hk hm
    refine ⟨.inl ⟨rfl, vs, .of hH⟩, G1, L1, ρ, M1, _, x, r1, n.mono e1, h1, hx.on e1, fun us H2 ⟨ds, G2, L2, M2, e2, r2, n2, k', xs', y, i, ek, ed, hm2, hz, hi, h2⟩ => ?_⟩
    cases ek
    subst ed
    obtain ⟨u1, u, rfl, n3, n4⟩ := denL_two n2
    have n3 : u1 = .int (i : Int) := n3
    subst n3
    have hk2 := e2.l.get hk
    obtain ⟨_, vs2, hH2, dn2⟩ := r2.ats k a _ hk2 hm2
    refine ⟨a, vs2, u, i, rfl, rfl, hH2, by rw [← dn2.length]; exact hz, by rw [← dn2.length]; exact hi, .non, G2, L2, _, (e1.trans e2).trans (r2.exS hk2), r2.setM (m := .lst (xs'.take i ++ y :: xs'.drop i)) hk2 ⟨_, upd_same, (dn2.tak i).app ⟨_, _, rfl, n4, dn2.dro i⟩⟩, rfl, h2⟩
end
end L2
set_option maxRecDepth 100000
set_option maxHeartbeats 4000000
namespace L2
open PySem PySem.Spec PyProof.Rows
inductive Ist (K : PySem.W.Frag) (x C : Addr) (H0 : Hp) (G : Hp) (L : List Addr) (M : Ms) (H : Hp) (fs : List (Str × Dt)) : Prop
  | mk (r : Rl K G L M H) (gx : G x = none) (lx : x ∉ L) (od : Option Addr) (hx : H x = some (xN x C od))
      (hd : (fs = [] ∧ od = none) ∨ ∃ dx vs, od = some dx ∧ dx ≠ x ∧ H0 dx = none ∧ G dx = none ∧ dx ∉ L ∧ H dx = some (.xd ((fs.map (·.1)).zip vs)) ∧ DenL K G L (fs.map (·.2)) vs)
section
variable {K : PySem.W.Frag} {x C : Addr} {H0 G G' H H' : Hp} {L L' : List Addr} {M M' : Ms} {fs : List (Str × Dt)}
theorem Ex.off (e : Ex G L H G' L' H') {b : Addr} {o : HO} (h : H b = some o) (g : G b = none) (l : b ∉ L) : H' b = some o ∧ G' b = none ∧ b ∉ L' :=
  ⟨e.out b o h l, e.fr b g (by rw [h]; simp), fun z => (e.new b z).elim l fun q => by rw [h] at q; cases q⟩
theorem Ist.on (i : Ist K x C H0 G L M H fs) (e : Ex G L H G' L' H') (r' : Rl K G' L' M' H') : Ist K x C H0 G' L' M' H' fs := by
  obtain ⟨r, gx, lx, od, hx, hd⟩ := i
  obtain ⟨a1, a2, a3⟩ := e.off hx gx lx
  refine ⟨r', a2, a3, od, a1, ?_⟩
  rcases hd with hd | ⟨dx, vs, d1, d2, d3, d4, d5, d6, d7⟩
  · exact .inl hd
  · obtain ⟨b1, b2, b3⟩ := e.off d6 d4 d5
    exact .inr ⟨dx, vs, d1, d2, d3, b2, b3, b1, DenL.mono e.g e.l _ _ d7⟩
theorem Rl.aside {o : HO} {a : Addr} (r : Rl K G L M H) (g : G a = none) (l : a ∉ L) : Rl K G L M (upd H a o) where
  sub := fun b u e => by rw [upd_ne (fun z => by rw [z, g] at e; cases e)]; exact r.sub b u e
  len := r.len
  nd := r.nd
  ats := fun k b m h1 h2 => by
    obtain ⟨q1, q2⟩ := r.ats k b m h1 h2
    exact ⟨q1, q2.mono (.refl _) (.refl _) (upd_ne fun z => l (z ▸ List.mem_of_getElem? h1))⟩
theorem Ex.aside {G0 H00 : Hp} {L0 : List Addr} {o : HO} {a : Addr} (e : Ex G0 L0 H00 G L H) (h : H00 a = none) : Ex G0 L0 H00 G L (upd H a o) where
  g := e.g
  l := e.l
  fr := e.fr
  out := fun b u h1 h2 => by rw [upd_ne (fun z => by rw [z, h] at h1; cases h1)]; exact e.out b u h1 h2
  new := e.new
  dom := fun b h1 => by
    by_cases z : b = a
    · rw [z, upd_same]; simp
    · rw [upd_ne z]; exact e.dom b h1
end
abbrev DI := En → Ms → List (Str × Dt) → (En → Ms → List (Str × Dt) → Prop) → Prop
inductive lowX (K : PySem.W.Frag) (x C : Addr) (G0 : Hp) (L0 : List Addr) (H0 : Hp) (t : DI) (De : Ends) (σ : St) (H : Hp) : Prop
  | mk (G : Hp) (L : List Addr) (ρ : En) (M : Ms) (fs : List (Str × Dt)) (k : En → Ms → List (Str × Dt) → Prop) (e : Ex G0 L0 H0 G L H) (h0 : H0 x = none) (i : Ist K x C H0 G L M H fs) (n : EnD K G L ρ σ) (hs : σ[0]? = some (some (.ref x))) (h : t ρ M fs k)
      (hQ : ∀ σ' H' G' L' ρ' M' fs', Ex G0 L0 H0 G' L' H' → Ist K x C H0 G' L' M' H' fs' → EnD K G' L' ρ' σ' → σ'[0]? = some (some (.ref x)) → k ρ' M' fs' → De.nx σ' H')
def JXi (X : Cx) (C : Addr) (st : Stmt) (t : DI) : Prop := ∀ x G0 L0 H0, PS X st (lowX X.K x C G0 L0 H0 t)
def JXs (X : Cx) (C : Addr) (st : List Stmt) (t : DI) : Prop := ∀ x G0 L0 H0, PSs X st (lowX X.K x C G0 L0 H0 t)
def xSeq (t u : DI) : DI := fun ρ M fs k => t ρ M fs fun ρ' M' fs' => u ρ' M' fs' k
def xInit (te : DE) : DI := fun ρ M fs k => te ρ M (fun _ M' => k ρ M' fs) noX
def xFld (f : Str) (te : DE) : DI := fun ρ M fs k => f ∉ fs.map (·.1) ∧ fs.length < 900 ∧ te ρ M (fun d M' => k ρ M' (fs ++ [(f, d)])) noX
section
variable {X : Cx} {C D fI : Addr} {Bn newId initId : String} {bmB : List Value} {dn sn f : Str} {p p1 apos pos pos' : Pos} {e2 value : Expr} {te : DE} {st : Stmt} {rest : List Stmt} {t u : DI}
theorem PS.imp {X : Cx} {st : Stmt} {t u : TS} (h : PS X st t) (hi : ∀ D σ H, u D σ H → t D σ H) : PS X st u := fun pins s σ H D I q => h pins s σ H D I (hi D σ H q)
theorem PSs.imp {X : Cx} {st : List Stmt} {t u : TS} (h : PSs X st t) (hi : ∀ D σ H, u D σ H → t D σ H) : PSs X st u := fun pins s σ H D I q => h pins s σ H D I (hi D σ H q)
theorem jx_one (h : JXi X C st t) : JXs X C [st] t := fun x G0 L0 H0 => pss_one (h x G0 L0 H0)
theorem jx_cons (h : JXi X C st t) (h2 : JXs X C rest u) : JXs X C (st :: rest) (xSeq t u) := fun x G0 L0 H0 => (pss_cons (h x G0 L0 H0) (h2 x G0 L0 H0)).imp fun De σ H ⟨G, L, ρ, M, fs, k, e, h0, i, n, hs, ht, hQ⟩ =>
  ⟨G, L, ρ, M, fs, _, e, h0, i, n, hs, ht, fun σ' H' G' L' ρ' M' fs' e' i' n' hs' hk => ⟨G', L', ρ', M', fs', k, e', h0, i', n', hs', hk, hQ⟩⟩
theorem jx_init {pl : Sem Bool} (F : ExcBaseFacts Bn newId initId bmB) (c : ExcClsI X.K C bmB newId fI) (d : InitOf X.K D initId) (hm : X.mg dn = some (.ref D)) (he : JE X (fun _ => E0) e2 te) (hN : X.N[0]? = some sn := by rfl) (hv : Vis X.env.scope sn := by first | exact Or.inl rfl | exact Or.inr (Or.inl rfl) | exact Or.inr (Or.inr rfl)) (hg : Gl X dn := by rfl)
    (hd : (sn == ("__debug__" : Str)) = false := by decide) (hcd : (sn == ("__classdict__" : Str)) = false := by decide) (hdb : (dn == ("__debug__" : Str)) = false := by decide)
    (h1 : starEach [.Name sn p1, e2] X.env = (false, eval (.Name sn p1) X.env) :: starEach [e2] X.env := by rfl) (h2 : starEach [e2] X.env = (false, eval e2 X.env) :: starEach [] X.env := by rfl) (hpl : (backTo pos (starEach [e2] X.env)).any (·.1) = false := by rfl)
    (ht : eval (.Call (.Attribute (.Name dn p) "__init__" apos) [.Name sn p1, e2] [] pos) X.env = (do
      let ov ← eval (.Name dn p) X.env
      standAt apos.atName
      let (f, first) ← holding [ov] (getMethod ov "__init__" pl)
      callWith pos f first (backTo pos (starEach [.Name sn p1, e2] X.env)) (backToKw pos (keywordEach [] X.env))) := by rfl)
    (hsw : swapsWith (.Call (.Attribute (.Name dn p) "__init__" apos) [.Name sn p1, e2] [] pos) none pos'.line X.env = pure false := by rfl) :
    JXi X C (.Expr (.Call (.Attribute (.Name dn p) "__init__" apos) [.Name sn p1, e2] [] pos) pos') (xInit te) := fun x G0 L0 H0 =>
  (ps_expr (pe_binit (pl := pl) F c d hg hm (pa_cons (pe_var hN hv hd hcd) (pa_cons he pa_nil h2) h1) hdb h1 hpl ht) hsw).imp fun De σ H ⟨G, L, ρ, M, fs, k, e, h0, i, n, hs, h, hQ⟩ => by
    refine ⟨_, hs, G, L, ρ, M, _, noX, (let ⟨r, _, _, _, _, _⟩ := i; r), n, h, xok_no, fun v H1 ⟨d1, G1, L1, M1, e1, r1, n1, hk⟩ => ?_⟩
    have i1 := i.on e1 r1
    obtain ⟨_, _, _, od, hx, _⟩ := id i1
    exact ⟨x, v, od, rfl, hx, hQ σ H1 G1 L1 ρ M1 fs (e.trans e1) i1 (n.mono e1) hs hk⟩
theorem jx_fld (c : ExcClsI X.K C bmB newId fI) (nt : NoTak X.K C f) (hv : JE X (fun _ => E0) value te) (hex : X.ex = [] := by rfl) (hN : X.N[0]? = some sn := by rfl) (hvi : Vis X.env.scope sn := by first | exact Or.inl rfl | exact Or.inr (Or.inl rfl) | exact Or.inr (Or.inr rfl))
    (hd : (sn == ("__debug__" : Str)) = false := by decide) (hcd : (sn == ("__classdict__" : Str)) = false := by decide) (hs : swapsWith value (some (.Attribute (.Name sn p1) f pos')) pos.line X.env = pure false := by rfl) :
    JXi X C (.Assign [.Attribute (.Name sn p1) f pos'] value pos) (xFld f te) := fun x G0 L0 H0 =>
  (ps_xfld hex c nt (pe_var hN hvi hd hcd) hv hs).imp fun De σ H ⟨G, L, ρ, M, fs, k, e, h0, i, n, hsl, ⟨hf, hl, h⟩, hQ⟩ => by
    refine ⟨G, L, ρ, M, _, noX, (let ⟨r, _, _, _, _, _⟩ := i; r), n, h, xok_no, fun y H1 ⟨d1, G1, L1, M1, e1, r1, n1, hk⟩ => ?_⟩
    have i1 := i.on e1 r1
    have e01 := e.trans e1
    obtain ⟨_, gx, lx, od, hx, hdd⟩ := id i1
    refine ⟨_, hsl, x, rfl, ?_⟩
    rcases hdd with ⟨rfl, rfl⟩ | ⟨dx, vs, rfl, d2, d3, d4, d5, d6, d7⟩
    · refine .inl ⟨hx, fun dx hdx hne => ?_⟩
      have gd : G1 dx = none := r1.sub.free hdx
      have ld : dx ∉ L1 := r1.memN hdx
      have h0d : H0 dx = none := by
        cases q : H0 dx with
        | none => rfl
        | some o => exact absurd hdx (e01.dom dx (by rw [q]; simp))
      refine hQ σ _ G1 L1 ρ M1 [(f, d1)] ((e01.aside h0).aside h0d) ⟨(r1.aside gx lx).aside gd ld, gx, lx, some dx, by rw [upd_ne (Ne.symm hne), upd_same], .inr ⟨dx, [y], rfl, hne, h0d, gd, ld, by rw [upd_same]; rfl, ⟨y, [], rfl, n1, rfl⟩⟩⟩ (n.mono e1) hsl hk
    · have hlv : (fs.map (·.1)).length = vs.length := by rw [← d7.length, List.length_map, List.length_map]
      refine .inr ⟨dx, _, hx, d2, d6, by rw [List.length_zip, ← hlv, Nat.min_self, List.length_map]; omega, ?_⟩
      rw [putF_new hlv hf]
      refine hQ σ _ G1 L1 ρ M1 (fs ++ [(f, d1)]) (e01.aside d3) ⟨r1.aside d4 d5, gx, lx, some dx, by rw [upd_ne (Ne.symm d2)]; exact hx, .inr ⟨dx, vs ++ [y], rfl, d2, d3, d4, d5, by rw [upd_same, List.map_append]; rfl, by rw [List.map_append]; exact d7.app ⟨y, [], rfl, n1, rfl⟩⟩⟩ (n.mono e1) hsl hk
end
end L2
set_option maxRecDepth 100000
set_option maxHeartbeats 4000000
namespace L2
open PySem PySem.Spec PyProof.Rows
abbrev DIF := List Dt → Ms → (List (Str × Dt) → Ms → Prop) → Prop
inductive spI (K : PySem.W.Frag) (C : Addr) (T : DIF) (vs : List V) (H : Hp) (Q : VK) (E : XK) : Prop
  | mk (x : Addr) (us : List V) (H0 : Hp) (G : Hp) (L : List Addr) (ds : List Dt) (M : Ms) (q : List (Str × Dt) → Ms → Prop) (ev : vs = .ref x :: us) (eH : H = upd H0 x (xN x C none)) (h0 : H0 x = none) (r : Rl K G L M H0) (n : DenL K G L ds us) (h : T ds M q)
      (hQ : ∀ H' G' L' M' fs, Ex G L H0 G' L' H' → Ist K x C H0 G' L' M' H' fs → q fs M' → Q .non H')
def startI (N : List Str) (ds : List Dt) : En := (startD N (.non :: ds)).set 0 none
section
variable {P : Program} {w : World} {K : PySem.W.Frag} {mg : Str → Option Value} {base : Heap}
theorem EnD.forget {K : PySem.W.Frag} {G : Hp} {L : List Addr} {ρ : En} {σ : St} (h : EnD K G L ρ σ) (i : Nat) : EnD K G L (ρ.set i none) σ := by
  refine ⟨by rw [List.length_set]; exact h.len, fun j d' e => ?_⟩
  by_cases hj : i = j
  · subst hj
    have hl : i < ρ.length := by
      have := (List.getElem?_eq_some_iff.mp e).1
      rwa [List.length_set] at this
    rw [List.getElem?_set_self hl] at e
    cases e
  · rw [List.getElem?_set_ne hj] at e
    exact h.ats j d' e
theorem Fun.okI {x qual : Str} {st : Stmt} {f : Addr} {fd : FuncData} {N ps : List Str} {k : Nat} {C : Addr} {T : DIF} (F : Fun K x qual st f fd) (S : FnScope N ps (defScope st)) (len : ∀ ds M q, T ds M q → ds.length + 1 = ps.length)
    (hbody : ∀ (cdv : Value) (A : Around) (outer : List Env) (s : Shared) (H : Hp) (E : XK), Room k (A.deeper (envOfC qual (defScope st) s.heap.objs.size f cdv)) →
      ∃ t, JXs (cxOf (CX1 P w) P w K mg base N qual (defScope st) f cdv A outer s H E) C (defBody st) t ∧ ∀ ds M q, T ds M q → t (startI N ds) M [] (fun _ M' fs => q fs M')) :
    FnOk P w K mg base (CX1 P w) (k + 1) f fd ps (spI K C T) := by
  refine F.okX S (fun vs H Q E h => ?_) (fun cdv A outer s H vs Q E hr h => ?_)
  · obtain ⟨x, us, H0, G, L, ds, M, q, rfl, rfl, h0, r, n, hT, hQ⟩ := h
    rw [List.length_cons, ← n.length]; exact len _ _ _ hT
  · obtain ⟨t, j, ht⟩ := hbody cdv A outer s H E hr
    obtain ⟨x, us, H0, G, L, ds, M, q, rfl, rfl, h0, r, n, hT, hQ⟩ := h
    have gx : G x = none := r.sub.free h0
    have lx : x ∉ L := r.memN h0
    refine ⟨_, j x G L H0, G, L, startI N ds, M, [], _, (Ex.refl G L H0).aside h0, h0, ⟨r.aside gx lx, gx, lx, none, upd_same, .inl ⟨rfl, rfl⟩⟩, ?_, rfl, ht ds M q hT, fun σ' H' G' L' ρ' M' fs' e i _ _ hk => hQ H' G' L' M' fs' e i hk⟩
    have := (start_en (N := N) (K := K) (G := G) (L := L) (ds := .ref x :: ds) (vs := .ref x :: us) ⟨_, _, rfl, rfl, n⟩).forget 0
    exact this
end
structure XcD (P : Program) (w : World) (K : PySem.W.Frag) (mg : Str → Option Value) (base : Heap) (k : Nat) (x : Str) (C : Addr) (bmB : List Value) (newId : String) (ps : List Str) (T : DIF) (f : Addr) (fd : FuncData) : Prop where
  ok : FnOk P w K mg base (CX1 P w) k f fd ps (spI K C T)
  b : Binds K fd ps []
  c : ExcClsI K C bmB newId f
  m : mg x = some (.ref C)
def sRaiseI (C : Addr) (T : DIF) (t : DA) : DS := fun Dn ρ M => t ρ M (fun ds M1 => ds.length ≤ sizeLine ∧ T ds M1 (fun fs M2 => fs ≠ [] ∧ Dn.x ρ C fs M2)) Dn.x
section
variable {K : PySem.W.Frag} {G G' H H' : Hp} {L L' : List Addr} {M : Ms} {x dx : Addr} {o : HO}
theorem Ex.leave (e : Ex G L H G' L' H') (hx : H x = none) (hd : H dx = none) (gd : G' dx = none) (hne : dx ≠ x) : Ex G L H (upd G' dx o) L' (drp x H') where
  g := fun b u q => by rw [upd_ne (fun z => by have := e.g _ _ q; rw [z, gd] at this; cases this)]; exact e.g b u q
  l := e.l
  fr := fun b h1 h2 => by rw [upd_ne (fun z => h2 (by rw [z]; exact hd))]; exact e.fr b h1 h2
  out := fun b u h1 h2 => by rw [drp_ne (fun z => by rw [z, hx] at h1; cases h1)]; exact e.out b u h1 h2
  new := e.new
  dom := fun b h => by rw [drp_ne (fun z => h (by rw [z]; exact hx))]; exact e.dom b h
theorem Rl.leave (r : Rl K G L M H) (gx : G x = none) (lx : x ∉ L) (gd : G dx = none) (ld : dx ∉ L) (hd : H dx = some o) (hne : dx ≠ x) : Rl K (upd G dx o) L M (drp x H) where
  sub := fun b u e => by
    by_cases hb : b = dx
    · subst hb; rw [upd_same] at e; cases e; rw [drp_ne hne]; exact hd
    · rw [upd_ne hb] at e
      rw [drp_ne (fun z => by rw [z, gx] at e; cases e)]; exact r.sub b u e
  len := r.len
  nd := r.nd
  ats := fun k a m h1 h2 => by
    obtain ⟨q1, q2⟩ := r.ats k a m h1 h2
    have ha := List.mem_of_getElem? h1
    exact ⟨by rw [upd_ne (show a ≠ dx from fun z => ld (z ▸ ha))]; exact q1, q2.mono (fun b u e => by rw [upd_ne (fun z => by rw [z, gd] at e; cases e)]; exact e) (.refl _) (drp_ne fun z => lx (z ▸ ha))⟩
end
section
variable {X : Cx} {R : St → XK} {C fI : Addr} {t : DA} {Bn newId initId : String} {bmB : List Value} {x : Str} {np cpos pos : Pos} {e : Expr} {es : List Expr} {k k' : Nat} {fd : FuncData} {ps : List Str} {T : DIF}
theorem js_raiseI (D : XcD X.prog X.w X.K X.mg X.base k x C bmB newId ps T fI fd) (hr : Room k' X.A) (hR : Raises X R) (F : ExcBaseFacts Bn newId initId bmB) (ha : JA X R (e :: es) t) (hk : k + 1 ≤ k' := by decide) (hc : X.calm = true := by rfl) (hex : X.ex = [] := by rfl) (hg : Gl X x := by rfl)
    (hdb : (x == ("__debug__" : Str)) = false := by decide) (he : starEach (e :: es) X.env = (false, eval e X.env) :: starEach es X.env := by rfl) (hpl : (backTo cpos (starEach es X.env)).any (·.1) = false := by rfl) :
    JS X R (.Raise (some (.Call (.Name x np) (e :: es) [] cpos)) none pos) (sRaiseI C T t) := .of (ps_raiseI hR hc hex F D.c D.ok (hr.mono hk) D.b hg D.m ha hdb he hpl) fun σ H G L ρ M Dn rl n h hx => by
  refine ⟨G, L, ρ, M, _, _, rl, n, h, hx, fun vs H1 ⟨ds, G1, L1, M1, e1, r1, n1, hz, h1⟩ => ⟨by rw [← n1.length]; exact hz, fun xa hxa => ?_⟩⟩
  refine ⟨xa, vs, H1, G1, L1, ds, M1, _, rfl, rfl, hxa, r1, n1, h1, fun H' G' L' M' fs ex ist ⟨hf, hq⟩ => ?_⟩
  obtain ⟨r', gx, lx, od, hxN, hd⟩ := ist
  refine ⟨rfl, od, hxN, ?_⟩
  rcases hd with ⟨z, _⟩ | ⟨dx, ws, rfl, d2, d3, d4, d5, d6, d7⟩
  · exact absurd z hf
  · have eF : Ex G1 L1 H1 (upd G' dx (.xd ((fs.map (·.1)).zip ws))) L' (drp xa H') := ex.leave hxa d3 d4 d2
    have rF := r'.leave gx lx d4 d5 d6 d2
    refine hx σ ρ C fs M' _ L' _ (some dx) hq (e1.trans eF) rF (n.mono (e1.trans eF)) (.inr ⟨hf, dx, ws, rfl, upd_same, DenL.mono (fun b u e => by rw [upd_ne (fun z => by rw [z, d4] at e; cases e)]; exact e) (.refl _) _ _ d7⟩)
end
def rpl (x : Addr) (d : Dt) : Option Dt → Option Dt
  | some (.ref a) => if a = x then some d else some (.ref a)
  | o => o
def goesX (i : Nat) (x : Addr) (d : Dt) (Dn : DEnds) : DEnds := ⟨fun ρ M => Dn.nx ((ρ.set i none).map (rpl x d)) M, fun _ _ => False, fun _ _ => False, fun _ _ => False, noX⟩
def sTryK (K : PySem.W.Frag) (D : Addr) (i : Nat) (tb : DS) (ts : Addr → DS) : DS := fun Dn ρ M =>
  tb { Dn with x := fun ρ' C fs M' => PySem.W.subIn K (.ref C) (.ref D) = some true ∧ ∀ x, ts x (goesX i x (.exc C (fs.map (·.1)) (fs.map (·.2))) Dn) (ρ'.set i (some (.ref x))) M' } ρ M
theorem EnD.rpl {K : PySem.W.Frag} {G : Hp} {L : List Addr} {ρ : En} {σ : St} {x : Addr} {d : Dt} (h : EnD K G L ρ σ) (hd : Den K G L d (.ref x)) : EnD K G L (ρ.map (rpl x d)) σ := by
  refine ⟨by rw [List.length_map]; exact h.len, fun i d' e => ?_⟩
  rw [List.getElem?_map] at e
  obtain ⟨o, ho, e'⟩ := Option.map_eq_some_iff.mp e
  clear e
  cases o with
  | none => cases e'
  | some d0 =>
    by_cases hr : ∃ a, d0 = .ref a
    · obtain ⟨a, rfl⟩ := hr
      obtain ⟨v, h1, h2⟩ := h.ats i _ ho
      cases h2
      have e2 : (if a = x then some d else some (.ref a)) = some d' := e'
      by_cases z : a = x
      · rw [if_pos z] at e2; cases e2; rw [z] at h1; exact ⟨_, h1, hd⟩
      · rw [if_neg z] at e2; cases e2; exact ⟨_, h1, rfl⟩
    · have e2 : some d0 = some d' := by
        cases d0 with
        | ref a => exact absurd ⟨a, rfl⟩ hr
        | _ => exact e'
      cases e2
      exact h.ats i _ ho
section
variable {X : Cx} {R : St → XK} {body : List Stmt} {D : Addr} {dn n : Str} {i : Nat} {b₀ : Stmt} {suite : List Stmt} {pos hpos np : Pos} {tb : DS} {ts : Addr → DS} {bmB' : List Value} {newId' : String}
theorem js_tryK (hN : X.N.Nodup) (hi : X.N[i]? = some n) (d : ExcCls X.K D bmB' newId') (hbe : bmB'.contains (.type "BaseException") = true) (hm : X.mg dn = some (.ref D))
    (hb : ∀ (R : St → XK) (pins : List (Addr × Obj)), JSs (Cx.tryC X R pins) R body tb)
    (hs : ∀ (x : Addr) (pn : List (Addr × Obj)), JSs (Cx.suite X x pn) (fun _ => E0) (b₀ :: suite) (ts x)) (hk : X.env.scope.names.lookup n = some .local := by rfl) (hc : X.calm = true := by rfl) (hex : X.ex = [] := by rfl) (hst : X.stack = X.env :: X.outer := by rfl) (hf : X.env.frame = some X.env.locals := by rfl) (hg : Gl X dn := by rfl) (hdb : (dn == ("__debug__" : Str)) = false := by decide) :
    JS X R (.Try body [.ExceptHandler (some (.Name dn np)) (some n) (b₀ :: suite) hpos] [] [] pos) (sTryK X.K D i tb ts) :=
  .of (ps_tryK (tb := fun R => lowS X.K R tb) (ts := fun x => lowS X.K (fun _ => E0) (ts x)) hN hi hk hc hex hst hf d hbe hg hm hb hs hdb) fun σ H G L ρ M Dn rl n h hx => by
    refine ⟨fun σ' cls od H' => ∃ ρ' C fs M' G' L', cls = .ref C ∧ (PySem.W.subIn X.K (.ref C) (.ref D) = some true ∧ ∀ x, ts x (goesX i x (.exc C (fs.map (·.1)) (fs.map (·.2))) Dn) (ρ'.set i (some (.ref x))) M') ∧ Ex G L H G' L' H' ∧ Rl X.K G' L' M' H' ∧ EnD X.K G' L' ρ' σ' ∧ xRel X.K G' L' H' fs od, ?_, ?_⟩
    · exact ⟨G, L, ρ, M, _, rl, n, h, fun σ' ρ' C fs M' G' L' H' od hq e r n y => ⟨ρ', C, fs, M', G', L', rfl, hq, e, r, n, y⟩, ⟨fun _ _ f => f, fun _ _ f => f, fun _ _ f => f, fun _ _ f => f⟩⟩
    · rintro σ' cls od H' ⟨ρ', C, fs, M', G', L', rfl, ⟨hsub, hts⟩, e, r, n', y⟩
      refine ⟨C, rfl, hsub, fun x hx0 => ?_⟩
      refine ⟨G', L', _, M', _, r, n'.set i (d := .ref x) rfl, hts x, xok_no, ⟨fun σ1 H1 ⟨ρ1, G1, L1, M1, e1, r1, n1, h1⟩ hx1 => ?_, fun _ _ ⟨_, _, _, _, _, _, _, f⟩ => f.elim, fun _ _ ⟨_, _, _, _, _, _, _, f⟩ => f.elim, fun _ _ ⟨_, _, _, _, _, _, _, f⟩ => f.elim⟩⟩
      have e2 := r1.exG (o := xO x C od) hx1
      have r2 := r1.newG (o := xO x C od) hx1
      have eg := e1.trans e2
      refine ⟨_, _, L1, M1, e.trans eg, r2, ((n1.unset i).mono e2).rpl ?_, h1⟩
      rcases y with ⟨rfl, rfl⟩ | ⟨hne, dx, vs, rfl, q1, q2⟩
      · exact ⟨x, none, [], rfl, upd_same, .inl ⟨rfl, rfl⟩, rfl, rfl⟩
      · exact ⟨x, some dx, vs, rfl, upd_same, .inr ⟨dx, rfl, eg.g _ _ q1⟩, by rw [List.length_map, List.length_map], DenL.mono eg.g eg.l _ _ q2⟩
end
def dXA (K : PySem.W.Frag) (f : Str) (te : DE) : DE := fun ρ M q x => te ρ M (fun d M1 => ∃ C ns ds v, d = .exc C ns ds ∧ ExcTy K C ∧ XAt K C f ∧ (ns.zip ds).lookup f = some v ∧ q v M1) x
def fIsX (K : PySem.W.Frag) : List Dt → Ms → DQ → Prop := fun ds M q => (∃ C ns xs c t' b, ds = [.exc C ns xs, c] ∧ ExcTy K C ∧ clsD c = some t' ∧ PySem.W.kitOne K (.ref C) t' = some b ∧ q (.bl b) M) ∨ fIsiM K ds M q
section
variable {X : Cx} {R : St → XK} {e e2 : Expr} {f : Str} {te : DE} {t : DA} {p pos : Pos}
theorem j_xfld (K : PySem.W.Frag) (he : JE X R e te) (hb : attributeBase e f X.env (eval e X.env) = eval e X.env := by rfl) (hK : X.K = K := by rfl) : JE X R (.Attribute e f pos) (dXA K f te) := by
 subst hK
 exact .of (pe_xatt he hb) fun σ H G L ρ M q x rl en h hx => by
    refine ⟨G, L, ρ, M, _, x, rl, en, h, hx, fun v H1 ⟨d1, G1, L1, M1, e1, r1, n1, C, ns, ds, y, ed, ty, xa, hl, h1⟩ => ?_⟩
    subst ed
    obtain ⟨a, od, vs, rfl, g1, g2, g3, dn⟩ := n1
    obtain ⟨u, hu, du⟩ := zip_some dn hl
    rcases g2 with ⟨rfl, rfl⟩ | ⟨dx, rfl, g4⟩
    · cases hl
    · exact ⟨a, C, dx, _, u, rfl, r1.sub _ _ g1, r1.sub _ _ g4, ty, xa, hu, y, G1, L1, M1, e1, r1, du, h1⟩
theorem call_isXM : CallR X (.builtin "isinstance") (fun xs H Q => rIsX X.K xs H Q ∨ ∃ x c t t' b, xs = [x, c] ∧ TyOf X.K H x t ∧ clsV c = some t' ∧ PySem.W.kitOne X.K t t' = some b ∧ Q (.bl b) H) := by
  intro pins s σ H xs us Q I r h
  rcases h with h | h
  · exact call_isX pins s σ H xs us Q I r h
  · exact call_isinst pins s σ H xs us Q I r h
theorem isXD {K : PySem.W.Frag} : CaD K (fun xs H Q => rIsX K xs H Q ∨ ∃ x c t t' b, xs = [x, c] ∧ TyOf K H x t ∧ clsV c = some t' ∧ PySem.W.kitOne K t t' = some b ∧ Q (.bl b) H) (fIsX K) := by
  intro G0 L0 H0 G L M H vs ds q e r n h
  rcases h with ⟨C, ns, xs, c, t', b, ed, ty, hc, hk, hq⟩ | h
  · subst ed
    obtain ⟨v, u, rfl, n1, n2⟩ := denL_two n
    obtain ⟨a, od, ws, rfl, g1, g2, g3, dn⟩ := n1
    refine .inl ⟨a, C, od, u, t', b, rfl, r.sub _ _ g1, fun dx hd => ?_, ty, cls_den n2 hc, hk, fin_v e r hq⟩
    subst hd
    rcases g2 with ⟨_, z⟩ | ⟨dx', z, g4⟩
    · cases z
    · cases z; exact ⟨_, r.sub _ _ g4⟩
  · exact .inr (isiMD G0 L0 H0 G L M H vs ds q e r n h)
theorem j_isX (K : PySem.W.Frag) (hm : X.mg "isinstance" = none) (ha : JA X R [e, e2] t) (he : starEach [e, e2] X.env = (false, eval e X.env) :: starEach [e2] X.env := by rfl) (hpl : (backTo pos (starEach [e2] X.env)).any (·.1) = false := by rfl) (hg : Gl X "isinstance" := by rfl) (hK : X.K = K := by rfl) : JE X R (.Call (.Name "isinstance" p) [e, e2] [] pos) (dFn (fIsX K) t) := by
  subst hK
  exact j_callB call_isXM isXD hm boot_isinstance' ha hg (by decide) (by decide) he hpl
end
end L2
set_option maxRecDepth 100000
set_option maxHeartbeats 4000000
namespace L2
open PySem PySem.Spec PyProof.Rows
def Hug (i : Int) : Prop := i.natAbs < 2 ^ 30000
theorem mulOk_hug {i j : Int} (hi : Hug i) (hj : Hug j) : IntMulOk i j := by
  have b : ∀ {i : Int}, Hug i → Builtin.Int.intBits i ≤ 30000 := fun {i} h => by
    unfold Builtin.Int.intBits
    split
    · exact Nat.zero_le _
    · have := log2_lt (k := 30000) h (by decide)
      omega
  have b1 := b hi
  have b2 := b hj
  have h3 : Builtin.Int.intTooBig (Builtin.Int.intBits i + Builtin.Int.intBits j) = false := by
    unfold Builtin.Int.intTooBig
    refine decide_eq_false ?_
    have : (bitsLine : Int) = 134217728 := by decide
    omega
  unfold IntMulOk
  rw [h3, Bool.and_false]
  exact Bool.false_ne_true
def fMulH : Dt → Dt → Ms → DQ → Prop
  | .int i, .int j, M, q => (Hug i ∧ Hug j) ∧ q (.int (i * j)) M
  | _, _, _, _ => False
theorem op_mulH {X : Cx} : OpR X (binaryOp .Mult) (rI (fun i j => Hug i ∧ Hug j) fun i j => .int (i * j)) := opI fun _ _ _ _ _ _ _ hc q => mul_int q (mulOk_hug hc.1 hc.2)
theorem mulHD {K : PySem.W.Frag} : OpD K (rI (fun i j => Hug i ∧ Hug j) fun i j => .int (i * j)) fMulH := by
  intro G0 L0 H0 G L M H v1 v2 d1 d2 q e r n1 n2 h
  unfold fMulH at h
  split at h
  · exact ⟨_, _, n1, n2, h.1, fin_v e r h.2⟩
  · exact h.elim
theorem j_mulH {X : Cx} {R : St → XK} {a b : Expr} {ta tb : DE} {pos : Pos} (ja : JE X R a ta) (jb : JE X R b tb) : JE X R (.BinOp a .Mult b pos) (dOp fMulH ta tb) := j_op op_mulH mulHD ja jb
end L2
namespace L2
open PySem PySem.Spec PyProof.Rows
end L2
set_option maxRecDepth 100000
set_option maxHeartbeats 4000000
namespace L2
open PySem PySem.Spec PyProof.Rows
section
variable {X : Cx} {R : St → XK} {body : List Stmt} {D D2 : Addr} {dn dn2 n : Str} {i : Nat} {b₀ b₂ : Stmt} {suite suite2 : List Stmt} {pos hpos hpos2 np np2 : Pos} {tb : DS} {ts ts2 : Addr → Addr → Option Addr → DS} {bmB' bmB2 : List Value} {newId' newId2 : String}
end
section
variable {X : Cx} {R : St → XK} {e e2 : Expr} {f : Str} {te : DE} {t : DA} {p pos : Pos} {x C : Addr} {od : Option Addr}
end
end L2
set_option maxRecDepth 100000
set_option maxHeartbeats 4000000
namespace L2
open PySem PySem.Spec PyProof.Rows
section
variable {X : Cx} {R : St → XK} {o i e a b : Expr} {to ti te ta tb : DE} {pos p : Pos} {k' : Nat}
end
section
variable {X : Cx} {R : St → XK} {o i value : Expr} {to ti tv : DE} {pos pos' : Pos} {k' : Nat}
end
end L2
set_option maxRecDepth 100000
set_option maxHeartbeats 4000000
namespace L2
open PySem PySem.Spec PyProof.Rows
section
variable {X : Cx} {R : St → XK} {elt iter : Expr} {x : Str} {px : Pos} {scope : Scope} {pos : Pos} {ti : DA} {te : DE} {ys : List Str} {caps : List Nat}
theorem j_compC (S : CompScopeC X scope x ys caps) (hi : JI X R (.Name x px) iter ti) (he : CompScopeC X scope x ys caps → ∀ C s H fp, JE (Cx.compC X x ys scope C s H fp) (fun _ => E0) elt te) (hc : X.calm = true := by rfl) (hs : ∀ x, foldedSetIterable iter X.env x = pure x := by intro _; rfl) :
    JE X R (.ListComp elt [⟨.Name x px, iter, [], 0⟩] scope pos) (dComp ti te caps) := .of (pe_compC (wi := lowI X.K R ti) (te := lowE X.K (fun _ => E0) te) S hc hi (he S) hs) fun σ H G L ρ M q x rl n h hx => by
  refine ⟨G, L, ρ, M, _, x, rl, n, h, hx, fun J H1 ⟨xs, G1, L1, M1, e1, r1, y, hz, h1⟩ D hD => ?_⟩
  exact comp_rd r1 (n.mono e1) y hD hz h1 fun G2 L2 M2 H2 ds vs e2 r2 g2 l2 h2 n2 k => Fin.back e1 (own_val e2 r2 hD g2 l2 h2 n2 k)
theorem js_setcompC {i : Nat} {y : Str} {py spos : Pos} (hN : X.N.Nodup) (hiy : X.N[i]? = some y) (hy : Loc X.env.scope y) (S : CompScopeC X scope x ys caps) (hi : JI X R (.Name x px) iter ti) (he : CompScopeC X scope x ys caps → ∀ C s H fp, JE (Cx.compC X x ys scope C s H fp) (fun _ => E0) elt te) (hc : X.calm = true := by rfl)
    (hsw : swapsWith (.ListComp elt [⟨.Name x px, iter, [], 0⟩] scope pos) (some (.Name y py)) spos.line X.env = pure true := by rfl) (hs : ∀ x, foldedSetIterable iter X.env x = pure x := by intro _; rfl)
    (hf : X.fn y = true ∨ X.env.scope.names.lookup y = some .local := by first | exact .inl rfl | exact .inr rfl | assumption) :
    JS X R (.Assign [.Name y py] (.ListComp elt [⟨.Name x px, iter, [], 0⟩] scope pos) spos) (sSet i (dComp ti te caps)) := .of (ps_setcompC (wi := lowI X.K R ti) (te := lowE X.K (fun _ => E0) te) hN hiy hy S hc hi (he S) hsw hs hf) fun σ H G L ρ M Dn rl n h hx => by
  refine ⟨G, L, ρ, M, _, _, rl, n, h, hx, fun J H1 ⟨xs, G1, L1, M1, e1, r1, y, hz, h1⟩ D hD => ?_⟩
  refine comp_rd r1 (n.mono e1) y hD hz h1 fun G2 L2 M2 H2 ds vs e2 r2 g2 l2 h2 n2 k => ?_
  obtain ⟨d, G3, L3, M3, e3, r3, n3, h3⟩ := own_val (q := fun d M => Dn.nx (ρ.set i (some d)) M) e2 r2 hD g2 l2 h2 n2 k
  exact ⟨_, G3, L3, M3, e1.trans e3, r3, ((n.mono e1).mono e3).set i n3, h3⟩
end
end L2
set_option maxRecDepth 100000
set_option maxHeartbeats 4000000
namespace L2
open PySem PySem.Spec PyProof.Rows
def nonD : Dt → Bool
  | .non => true
  | _ => false
theorem nonD_is {K : PySem.W.Frag} {G : Hp} {L : List Addr} {d : Dt} {v : V} (n : Den K G L d v) : decide (v = .non) = nonD d := by
  cases d with
  | non => cases n; rfl
  | bl b => cases n; rfl
  | int i => cases n; rfl
  | str x => cases n; rfl
  | tup ds => obtain ⟨a, vs, rfl, _⟩ := n; rfl
  | lst ds => obtain ⟨a, vs, rfl, _⟩ := n; rfl
  | obj C ns ds => obtain ⟨a, dx, vs, rfl, _⟩ := n; rfl
  | loc k => obtain ⟨a, rfl, _⟩ := n; rfl
  | ref a => cases n; rfl
  | ty m => cases n; rfl
  | scr ns => obtain ⟨a, rfl, _⟩ := n; rfl
  | kt ds => obtain ⟨a, vs, rfl, _⟩ := n; rfl
  | exc C ns ds => obtain ⟨a, od, vs, rfl, _⟩ := n; rfl
  | exn x C od ns ds => obtain ⟨vs, rfl, _⟩ := n; rfl
def fIsW : Dt → Dt → Ms → DQ → Prop := fun d e M q => e = .non ∧ q (.bl (nonD d)) M
theorem isWD {K : PySem.W.Frag} : OpD K (fun x y H Q => y = .non ∧ Q (.bl (decide (x = .non))) H) fIsW := by
  intro G0 L0 H0 G L M H v1 v2 d1 d2 q e r n1 n2 ⟨e2, h⟩
  subst e2
  refine ⟨n2, ?_⟩
  rw [nonD_is n1]
  exact fin_v e r h
section
variable {X : Cx} {R : St → XK} {a b : Expr} {ta tb : DE} {pos : Pos}
theorem jt_isW (ja : JE X R a ta) (jb : JE X R b tb) : JT X R (.Compare a [.Is] [b] pos) (tstD (dOp fIsW ta tb)) := jt_cmp op_isN isWD ja jb (nomark _)
end
end L2
set_option maxRecDepth 100000
set_option maxHeartbeats 4000000
namespace Fr0
def g (a b : Int) : Int := (Int.gcd a b : Nat)
theorem g_pos {a b : Int} (h : b ≠ 0) : 0 < g a b := by
  have := Int.gcd_pos_of_ne_zero_right a h
  unfold g; omega
theorem g_zero {a : Int} (h : 0 ≤ a) : g a 0 = a := by
  unfold g; rw [Int.gcd_zero_right]; omega
theorem g_step {a b : Int} (hb : 0 < b) : g b (a.fmod b) = g a b := by
  unfold g
  rw [Int.fmod_eq_emod_of_nonneg a (Int.le_of_lt hb), Int.gcd_comm a b]
  congr 1
  refine Int.gcd_right_eq_iff.mpr fun c hc => ?_
  rw [Int.emod_def]
  constructor
  · intro h
    have := Int.dvd_add h (Int.dvd_mul_of_dvd_left (c := a / b) hc)
    rwa [Int.sub_add_cancel] at this
  · intro h
    exact Int.dvd_sub h (Int.dvd_mul_of_dvd_left (c := a / b) hc)
theorem g_abs (a b : Int) : g (if a < 0 then -a else a) (if b < 0 then -b else b) = g a b := by
  unfold g
  split <;> split <;> simp
def dv (t b : Int) : Int := if b < 0 then -(g t b) else g t b
def frac (t b : Int) : Int × Int := (t.fdiv (dv t b), b.fdiv (dv t b))
theorem dv_ne {t b : Int} (h : b ≠ 0) : dv t b ≠ 0 := by
  have := g_pos (a := t) h
  unfold dv; split <;> omega
theorem fdiv_mul {k p : Int} (h : k ≠ 0) : (k * p).fdiv k = p := by
  rw [Int.mul_comm]; exact Int.mul_fdiv_cancel p h
theorem dv_parts {t b : Int} (h : b ≠ 0) : ∃ p q : Int, t = dv t b * p ∧ b = dv t b * q ∧ 0 < q ∧ Int.gcd p q = 1 := by
  have hg := g_pos (a := t) h
  have h0 : 0 < Int.gcd t b := Int.gcd_pos_of_ne_zero_right t h
  obtain ⟨p, hp⟩ := Int.gcd_dvd_left t b
  obtain ⟨q, hq⟩ := Int.gcd_dvd_right t b
  have hc : Int.gcd p q = 1 := by
    have e := Int.gcd_ediv_gcd_ediv_gcd h0
    have n0 : (Int.gcd t b : Int) ≠ 0 := by omega
    have e1 : t / (Int.gcd t b : Int) = p := by
      conv => lhs; arg 1; rw [hp]
      exact Int.mul_ediv_cancel_left p n0
    have e2 : b / (Int.gcd t b : Int) = q := by
      conv => lhs; arg 1; rw [hq]
      exact Int.mul_ediv_cancel_left q n0
    rwa [e1, e2] at e
  have hp' : t = g t b * p := hp
  have hq' : b = g t b * q := hq
  by_cases hb : b < 0
  · have hd : dv t b = -(g t b) := by unfold dv; rw [if_pos hb]
    refine ⟨-p, -q, ?_, ?_, ?_, ?_⟩
    · rw [hd, Int.neg_mul_neg]; exact hp'
    · rw [hd, Int.neg_mul_neg]; exact hq'
    · have : g t b * q < 0 := by rw [← hq']; exact hb
      by_cases q0 : 0 ≤ q
      · exact absurd (Int.mul_nonneg (Int.le_of_lt hg) q0) (by omega)
      · omega
    · simpa using hc
  · have hd : dv t b = g t b := by unfold dv; rw [if_neg hb]
    refine ⟨p, q, by rw [hd]; exact hp', by rw [hd]; exact hq', ?_, hc⟩
    have : 0 < g t b * q := by rw [← hq']; omega
    exact Int.pos_of_mul_pos_right this hg
theorem frac_spec {t b : Int} (h : b ≠ 0) : ∃ p q : Int, frac t b = (p, q) ∧ 0 < q ∧ Int.gcd p q = 1 ∧ t = dv t b * p ∧ b = dv t b * q := by
  obtain ⟨p, q, hp, hq, h0, hc⟩ := dv_parts (t := t) h
  have n0 := dv_ne (t := t) h
  refine ⟨p, q, ?_, h0, hc, hp, hq⟩
  unfold frac
  have e1 : t.fdiv (dv t b) = p := by conv => lhs; arg 1; rw [hp]
                                      exact fdiv_mul n0
  have e2 : b.fdiv (dv t b) = q := by conv => lhs; arg 1; rw [hq]
                                      exact fdiv_mul n0
  rw [e1, e2]
theorem frac_cross {t b : Int} (h : b ≠ 0) : t * (frac t b).2 = b * (frac t b).1 := by
  obtain ⟨p, q, e, _, _, hp, hq⟩ := frac_spec (t := t) h
  rw [e]
  show t * q = b * p
  calc t * q = dv t b * p * q := by rw [← hp]
    _ = dv t b * q * p := by rw [Int.mul_assoc, Int.mul_comm p q, ← Int.mul_assoc]
    _ = b * p := by rw [← hq]
theorem frac_pos {t b : Int} (h : b ≠ 0) : 0 < (frac t b).2 := by
  obtain ⟨p, q, e, h0, _⟩ := frac_spec (t := t) h
  rw [e]; exact h0
theorem frac_low {t b : Int} (h : b ≠ 0) : Int.gcd (frac t b).1 (frac t b).2 = 1 := by
  obtain ⟨p, q, e, _, hc, _⟩ := frac_spec (t := t) h
  rw [e]; exact hc
theorem dvd_coprime {k m n : Int} (h : k ∣ m * n) (hc : Int.gcd k m = 1) : k ∣ n := by
  have := (Int.dvd_gcd_mul_iff_dvd_mul (k := k) (n := m) (m := n)).mpr h
  rw [hc] at this
  simpa using this
theorem low_unique {p q p' q' : Int} (hq : 0 < q) (hq' : 0 < q') (h : Int.gcd p q = 1) (h' : Int.gcd p' q' = 1) (e : p * q' = p' * q) : p = p' ∧ q = q' := by
  have d1 : q ∣ q' := by
    have : q ∣ p * q' := ⟨p', by rw [e, Int.mul_comm]⟩
    exact dvd_coprime this (by rw [Int.gcd_comm]; exact h)
  have d2 : q' ∣ q := by
    have : q' ∣ p' * q := ⟨p, by rw [← e, Int.mul_comm]⟩
    exact dvd_coprime this (by rw [Int.gcd_comm]; exact h')
  have eq : q = q' := Int.le_antisymm (Int.le_of_dvd hq' d1) (Int.le_of_dvd hq d2)
  subst eq
  exact ⟨Int.eq_of_mul_eq_mul_right (by omega) e, rfl⟩
theorem frac_of {t b p q : Int} (h : b ≠ 0) (hq : 0 < q) (hc : Int.gcd p q = 1) (e : t * q = b * p) : frac t b = (p, q) := by
  have h1 := frac_cross (t := t) h
  have h2 := frac_pos (t := t) h
  have h3 := frac_low (t := t) h
  have h4 : (frac t b).1 * q = p * (frac t b).2 := by
    have : b * ((frac t b).1 * q) = b * (p * (frac t b).2) := by
      rw [← Int.mul_assoc, ← h1, Int.mul_right_comm, e, Int.mul_assoc]
    exact Int.eq_of_mul_eq_mul_left h this
  have := low_unique h2 hq h3 hc h4
  exact Prod.ext this.1 this.2
theorem frac_self {p q : Int} (hq : 0 < q) (hc : Int.gcd p q = 1) : frac p q = (p, q) := frac_of (by omega) hq hc (Int.mul_comm _ _)
end Fr0
namespace Fr0
theorem dv_natAbs_le {t b : Int} (h : b ≠ 0) : (dv t b).natAbs ≤ b.natAbs := by
  have e : (dv t b).natAbs = Int.gcd t b := by unfold dv g; split <;> omega
  rw [e]
  exact Int.gcd_le_natAbs_right t h
theorem frac_le1 {t b : Int} (h : b ≠ 0) : (frac t b).1.natAbs ≤ t.natAbs := by
  obtain ⟨p, q, e, _, _, hp, _⟩ := frac_spec (t := t) h
  have n0 := dv_ne (t := t) h
  rw [e]
  show p.natAbs ≤ t.natAbs
  have : t.natAbs = (dv t b).natAbs * p.natAbs := by conv => lhs; rw [hp]
                                                     exact Int.natAbs_mul _ _
  rw [this]
  exact Nat.le_mul_of_pos_left _ (by omega)
theorem frac_le2 {t b : Int} (h : b ≠ 0) : (frac t b).2.natAbs ≤ b.natAbs := by
  obtain ⟨p, q, e, _, _, _, hq⟩ := frac_spec (t := t) h
  have n0 := dv_ne (t := t) h
  rw [e]
  show q.natAbs ≤ b.natAbs
  have : b.natAbs = (dv t b).natAbs * q.natAbs := by conv => lhs; rw [hq]
                                                     exact Int.natAbs_mul _ _
  rw [this]
  exact Nat.le_mul_of_pos_left _ (by omega)
theorem frac_up {t b : Int} (h : 0 < b) : frac t b = (t.fdiv (g t b), b.fdiv (g t b)) := by
  unfold frac dv
  rw [if_neg (by omega)]
end Fr0
namespace Tx
open PySem PySem.NumText
end Tx
set_option maxRecDepth 100000
set_option maxHeartbeats 4000000
namespace Tx
open PySem PySem.NumText
end Tx
namespace Bz
abbrev Row := Nat → Int
abbrev Fn := List Nat → Int
def Lx (x : Row) : Fn → Fn
  | _, [] => 0
  | F, c :: cs => x c * F cs - Lx x (fun t => F (c :: t)) cs
theorem Lx_add (x : Row) : ∀ (cs : List Nat) (F G : Fn), Lx x (fun t => F t + G t) cs = Lx x F cs + Lx x G cs
  | [], F, G => by simp [Lx]
  | c :: cs, F, G => by
    have := Lx_add x cs (fun t => F (c :: t)) (fun t => G (c :: t))
    simp only [Lx]
    rw [this]; grind
theorem Lx_mul (x : Row) (k : Int) : ∀ (cs : List Nat) (F : Fn), Lx x (fun t => k * F t) cs = k * Lx x F cs
  | [], F => by simp [Lx]
  | c :: cs, F => by
    have := Lx_mul x k cs (fun t => F (c :: t))
    simp only [Lx]
    rw [this]; grind
theorem Lx_sub (x : Row) (cs : List Nat) (F G : Fn) : Lx x (fun t => F t - G t) cs = Lx x F cs - Lx x G cs := by
  have h1 := Lx_add x cs F (fun t => (-1) * G t)
  have h2 := Lx_mul x (-1) cs G
  have e : (fun t => F t - G t) = fun t => F t + (-1) * G t := by funext t; grind
  rw [e, h1, h2]; grind
theorem Lx_zero (x : Row) : ∀ (cs : List Nat), Lx x (fun _ => 0) cs = 0
  | [] => rfl
  | c :: cs => by simp only [Lx]; rw [Lx_zero x cs]; simp
theorem Lx_anti (x y : Row) : ∀ (cs : List Nat) (F : Fn), Lx x (Lx y F) cs = - Lx y (Lx x F) cs
  | [], F => rfl
  | c :: cs, F => by
    have ih := Lx_anti x y cs (fun t => F (c :: t))
    have e1 : (fun t => Lx y F (c :: t)) = fun t => y c * F t - Lx y (fun u => F (c :: u)) t := rfl
    have e2 : (fun t => Lx x F (c :: t)) = fun t => x c * F t - Lx x (fun u => F (c :: u)) t := rfl
    show x c * Lx y F cs - Lx x (fun t => Lx y F (c :: t)) cs = -(y c * Lx x F cs - Lx y (fun t => Lx x F (c :: t)) cs)
    rw [e1, e2, Lx_sub, Lx_sub, Lx_mul, Lx_mul, ih]
    grind
theorem Lx_self (x : Row) (cs : List Nat) (F : Fn) : Lx x (Lx x F) cs = 0 := by
  have := Lx_anti x x cs F
  omega
theorem Lx_snoc (x : Row) (d : Nat) : ∀ (cs : List Nat) (F : Fn), Lx x F (cs ++ [d]) = Lx x (fun t => F (t ++ [d])) cs + (-1) ^ cs.length * (x d * F cs)
  | [], F => by simp [Lx]
  | c :: cs, F => by
    have := Lx_snoc x d cs (fun t => F (c :: t))
    show x c * F (cs ++ [d]) - Lx x (fun t => F (c :: t)) (cs ++ [d]) = _
    rw [this]
    show _ = (x c * F (cs ++ [d]) - Lx x (fun t => F (c :: (t ++ [d]))) cs) + (-1) ^ (cs.length + 1) * (x d * F (c :: cs))
    have e : (fun t => F (c :: (t ++ [d]))) = fun t => (fun u => F (c :: u)) (t ++ [d]) := rfl
    rw [e, Int.pow_succ]
    grind
theorem Lx_congr (x : Row) {F G : Fn} {n : Nat} : ∀ (cs : List Nat), (∀ t, t.length + 1 = cs.length → F t = G t) → Lx x F cs = Lx x G cs := by
  intro cs
  induction cs generalizing F G with
  | nil => intro _; rfl
  | cons c cs ih =>
    intro h
    simp only [Lx]
    rw [h cs (by simp), ih (F := fun t => F (c :: t)) (G := fun t => G (c :: t)) fun t ht => h (c :: t) (by simp; omega)]
def ssum (f : Nat → Int) : Nat → Int
  | 0 => 0
  | n + 1 => ssum f n + f n
theorem ssum_add (f g : Nat → Int) : ∀ n, ssum (fun i => f i + g i) n = ssum f n + ssum g n
  | 0 => rfl
  | n + 1 => by simp only [ssum]; rw [ssum_add f g n]; omega
theorem ssum_mul (k : Int) (f : Nat → Int) : ∀ n, ssum (fun i => k * f i) n = k * ssum f n
  | 0 => by simp [ssum]
  | n + 1 => by simp only [ssum]; rw [ssum_mul k f n, Int.mul_add]
theorem ssum_congr {f g : Nat → Int} : ∀ {n : Nat}, (∀ i, i < n → f i = g i) → ssum f n = ssum g n
  | 0, _ => rfl
  | n + 1, h => by simp only [ssum]; rw [ssum_congr fun i hi => h i (by omega), h n (by omega)]
theorem ssum_zero {f : Nat → Int} {n : Nat} (h : ∀ i, i < n → f i = 0) : ssum f n = 0 := by
  rw [ssum_congr h]
  clear h
  induction n with
  | zero => rfl
  | succ n ih => simp only [ssum]; rw [ih]; rfl
theorem ssum_one {f : Nat → Int} {n j : Nat} (hj : j < n) (h : ∀ i, i < n → i ≠ j → f i = 0) : ssum f n = f j := by
  induction n with
  | zero => omega
  | succ n ih =>
    simp only [ssum]
    by_cases e : j = n
    · subst e
      rw [ssum_zero fun i hi => h i (by omega) (by omega)]; omega
    · rw [ih (by omega) fun i hi hne => h i (by omega) hne, h n (by omega) (by omega)]; omega
theorem ssum_first (f : Nat → Int) : ∀ n, ssum f (n + 1) = f 0 + ssum (fun i => f (i + 1)) n
  | 0 => by simp [ssum]
  | n + 1 => by
    have := ssum_first f n
    rw [show ssum f (n + 1 + 1) = ssum f (n + 1) + f (n + 1) from rfl, this]
    simp only [ssum]; omega
theorem ssum_swap (f : Nat → Nat → Int) (m : Nat) : ∀ n, ssum (fun i => ssum (f i) m) n = ssum (fun j => ssum (fun i => f i j) n) m
  | 0 => by
    rw [show ssum (fun i => ssum (f i) m) 0 = 0 from rfl]
    exact (ssum_zero fun _ _ => rfl).symm
  | n + 1 => by
    rw [show ssum (fun i => ssum (f i) m) (n + 1) = ssum (fun i => ssum (f i) m) n + ssum (f n) m from rfl, ssum_swap f m n, ← ssum_add]
    rfl
theorem Lx_sum (x : Row) : ∀ (cs : List Nat) (F : Fn), Lx x F cs = ssum (fun p => (-1) ^ p * (x (cs.getD p 0) * F (cs.eraseIdx p))) cs.length
  | [], F => rfl
  | c :: cs, F => by
    have ih := Lx_sum x cs (fun t => F (c :: t))
    show x c * F cs - Lx x (fun t => F (c :: t)) cs = _
    rw [List.length_cons, ssum_first, ih]
    have e : ssum (fun p => (-1) ^ (p + 1) * (x ((c :: cs).getD (p + 1) 0) * F ((c :: cs).eraseIdx (p + 1)))) cs.length = -1 * ssum (fun p => (-1) ^ p * (x (cs.getD p 0) * F (c :: cs.eraseIdx p))) cs.length := by
      rw [← ssum_mul]
      refine ssum_congr fun p _ => ?_
      simp only [List.getD_cons_succ, List.eraseIdx_cons_succ]
      rw [Int.pow_succ]; grind
    rw [e]
    simp only [List.getD_cons_zero, List.eraseIdx_cons_zero, Int.pow_zero]
    omega
def F0 : Fn := fun cs => if cs = [] then 1 else 0
def D : List Row → Fn
  | [] => F0
  | x :: xs => Lx x (D xs)
theorem D_front (y : Row) : ∀ (xs ys : List Row) (cs : List Nat), D (xs ++ y :: ys) cs = (-1) ^ xs.length * D (y :: (xs ++ ys)) cs
  | [], ys, cs => by simp
  | x :: xs, ys, cs => by
    show Lx x (D (xs ++ y :: ys)) cs = _
    have e : D (xs ++ y :: ys) = fun t => (-1) ^ xs.length * D (y :: (xs ++ ys)) t := by funext t; exact D_front y xs ys t
    rw [e, Lx_mul]
    show (-1) ^ xs.length * Lx x (Lx y (D (xs ++ ys))) cs = (-1) ^ (xs.length + 1) * Lx y (Lx x (D (xs ++ ys))) cs
    rw [Lx_anti x y, Int.pow_succ]; grind
theorem D_two (y : Row) (xs ys zs : List Row) (cs : List Nat) : D (xs ++ y :: (ys ++ y :: zs)) cs = 0 := by
  rw [D_front]
  have e : D (y :: (xs ++ (ys ++ y :: zs))) cs = Lx y (fun t => D (xs ++ (ys ++ y :: zs)) t) cs := rfl
  have e2 : (fun t => D (xs ++ (ys ++ y :: zs)) t) = fun t => (-1) ^ (xs ++ ys).length * Lx y (D (xs ++ ys ++ zs)) t := by
    funext t
    rw [← List.append_assoc, D_front]; rfl
  rw [e, e2, Lx_mul, Lx_self]; simp
end Bz
namespace Bz
def adj (rows : List Row) (cols : List Nat) (p k : Nat) : Int := (-1) ^ (p + k) * D (rows.eraseIdx k) (cols.eraseIdx p)
def zr : Row := fun _ => 0
theorem neg_sq (n : Nat) : ((-1 : Int) ^ n) * (-1) ^ n = 1 := by
  induction n with
  | zero => rfl
  | succ n ih => rw [Int.pow_succ]; grind
theorem split_at {α : Type} : ∀ {l : List α} {k : Nat} (h : k < l.length), l = l.take k ++ l[k] :: l.drop (k + 1) := by
  intro l k h
  rw [List.getElem_cons_drop, List.take_append_drop]
theorem mem_erase {α : Type} {l : List α} {i k : Nat} (hi : i < l.length) (hne : i ≠ k) : l[i] ∈ l.eraseIdx k := by
  rw [List.mem_eraseIdx_iff_getElem]
  exact ⟨i, hi, hne, rfl⟩
theorem PA {rows : List Row} {cols : List Nat} {i k : Nat} (hl : cols.length = rows.length) (hi : i < rows.length) (hk : k < rows.length) : ssum (fun p => rows.getD i zr (cols.getD p 0) * adj rows cols p k) rows.length = if i = k then D rows cols else 0 := by
  have gi : rows.getD i zr = rows[i] := by rw [List.getD_eq_getElem?_getD, List.getElem?_eq_getElem hi]; rfl
  have e : ssum (fun p => rows.getD i zr (cols.getD p 0) * adj rows cols p k) rows.length = (-1) ^ k * D (rows.getD i zr :: rows.eraseIdx k) cols := by
    show _ = (-1) ^ k * Lx (rows.getD i zr) (D (rows.eraseIdx k)) cols
    rw [Lx_sum, ← ssum_mul, hl]
    refine ssum_congr fun p _ => ?_
    unfold adj
    rw [Int.pow_add]; grind
  rw [e, gi]
  by_cases h : i = k
  · subst h
    rw [if_pos rfl]
    have s := split_at hi
    have f := D_front rows[i] (rows.take i) (rows.drop (i + 1)) cols
    rw [← s, List.length_take, Nat.min_eq_left (by omega)] at f
    rw [f, List.eraseIdx_eq_take_drop_succ]
  · rw [if_neg h]
    obtain ⟨ys, zs, e2⟩ := List.append_of_mem (mem_erase hi h)
    rw [e2]
    have := D_two rows[i] [] ys zs cols
    rw [show D (rows[i] :: (ys ++ rows[i] :: zs)) cols = 0 from this]; simp
theorem Lx_ssum (x : Row) (g : Nat → Int) (F : Nat → Fn) (cs : List Nat) : ∀ n, Lx x (fun t => ssum (fun k => g k * F k t) n) cs = ssum (fun k => g k * Lx x (F k) cs) n
  | 0 => Lx_zero x cs
  | n + 1 => by
    have := Lx_add x cs (fun t => ssum (fun k => g k * F k t) n) (fun t => g n * F n t)
    show Lx x (fun t => ssum (fun k => g k * F k t) n + g n * F n t) cs = _
    rw [this, Lx_ssum x g F cs n, Lx_mul]; rfl
theorem D_col (c : Nat) : ∀ (rows : List Row) (t : List Nat), D rows (t ++ [c]) = ssum (fun k => (-1) ^ (t.length + k) * (rows.getD k zr c * D (rows.eraseIdx k) t)) rows.length
  | [], t => by
    show F0 (t ++ [c]) = 0
    unfold F0; simp
  | x :: xs, t => by
    show Lx x (D xs) (t ++ [c]) = _
    rw [Lx_snoc, List.length_cons, ssum_first]
    have e : Lx x (fun u => D xs (u ++ [c])) t = ssum (fun k => (-1) ^ (t.length + (k + 1)) * ((x :: xs).getD (k + 1) zr c * D ((x :: xs).eraseIdx (k + 1)) t)) xs.length := by
      have e1 : Lx x (fun u => D xs (u ++ [c])) t = Lx x (fun u => ssum (fun k => ((-1) ^ (t.length + (k + 1)) * xs.getD k zr c) * D (xs.eraseIdx k) u) xs.length) t := by
        refine Lx_congr x (n := 0) t fun u hu => ?_
        rw [D_col c xs u]
        refine ssum_congr fun k _ => ?_
        rw [← hu, show u.length + 1 + (k + 1) = u.length + k + 1 + 1 by omega, Int.pow_succ, Int.pow_succ]; grind
      rw [e1, Lx_ssum x (fun k => (-1) ^ (t.length + (k + 1)) * xs.getD k zr c) (fun k => D (xs.eraseIdx k))]
      refine ssum_congr fun k _ => ?_
      simp only [List.getD_cons_succ, List.eraseIdx_cons_succ]
      show _ = (-1) ^ (t.length + (k + 1)) * (xs.getD k zr c * Lx x (D (xs.eraseIdx k)) t)
      grind
    rw [e]
    simp only [List.getD_cons_zero, List.eraseIdx_cons_zero, Nat.add_zero]
    omega
theorem D_border {rows : List Row} {cols : List Nat} {y : Row} {c : Nat} (hl : cols.length = rows.length) : D (rows ++ [y]) (cols ++ [c]) = y c * D rows cols - ssum (fun p => y (cols.getD p 0) * ssum (fun k => adj rows cols p k * rows.getD k zr c) rows.length) rows.length := by
  rw [D_front, List.append_nil]
  show (-1) ^ rows.length * Lx y (D rows) (cols ++ [c]) = _
  rw [Lx_snoc]
  have e1 : Lx y (fun t => D rows (t ++ [c])) cols = - ((-1) ^ rows.length * ssum (fun p => y (cols.getD p 0) * ssum (fun k => adj rows cols p k * rows.getD k zr c) rows.length) rows.length) := by
    have e2 : Lx y (fun t => D rows (t ++ [c])) cols = Lx y (fun t => ssum (fun k => (-((-1) ^ (rows.length + k) * rows.getD k zr c)) * D (rows.eraseIdx k) t) rows.length) cols := by
      refine Lx_congr y (n := 0) cols fun t ht => ?_
      rw [D_col c rows t]
      refine ssum_congr fun k _ => ?_
      rw [← hl, ← ht, show t.length + 1 + k = t.length + k + 1 by omega, Int.pow_succ]; grind
    rw [e2, Lx_ssum y (fun k => -((-1) ^ (rows.length + k) * rows.getD k zr c)) (fun k => D (rows.eraseIdx k))]
    have e3 : ssum (fun k => -((-1) ^ (rows.length + k) * rows.getD k zr c) * Lx y (D (rows.eraseIdx k)) cols) rows.length = ssum (fun k => ssum (fun p => -((-1) ^ rows.length) * (y (cols.getD p 0) * (adj rows cols p k * rows.getD k zr c))) rows.length) rows.length := by
      refine ssum_congr fun k _ => ?_
      rw [Lx_sum, ← ssum_mul, hl]
      refine ssum_congr fun p _ => ?_
      unfold adj
      rw [Int.pow_add, Int.pow_add]; grind
    rw [e3, ssum_swap]
    have e4 : ssum (fun p => ssum (fun k => -((-1) ^ rows.length) * (y (cols.getD p 0) * (adj rows cols p k * rows.getD k zr c))) rows.length) rows.length = ssum (fun p => -((-1) ^ rows.length) * (y (cols.getD p 0) * ssum (fun k => adj rows cols p k * rows.getD k zr c) rows.length)) rows.length := by
      refine ssum_congr fun p _ => ?_
      rw [ssum_mul, ssum_mul]
    rw [e4, ssum_mul]; grind
  rw [e1, hl]
  have s := neg_sq rows.length
  generalize ((-1 : Int) ^ rows.length) = z at *
  generalize ssum _ rows.length = q
  grind
theorem row_is {rows : List Row} {cols : List Nat} {v : Nat → Int} {e : Int} {i k : Nat} (hl : cols.length = rows.length) (hi : i < rows.length) (hk : k < rows.length)
    (h : ∀ p, p < rows.length → ssum (fun j => v j * rows.getD j zr (cols.getD p 0)) rows.length = if i = p then e else 0) : v k * D rows cols = e * adj rows cols i k := by
  have a : ssum (fun p => ssum (fun j => v j * rows.getD j zr (cols.getD p 0)) rows.length * adj rows cols p k) rows.length = e * adj rows cols i k := by
    rw [ssum_one hi fun p hp hne => by rw [h p hp, if_neg (Ne.symm hne)]; simp]
    rw [h i hi, if_pos rfl]
  have b : ssum (fun p => ssum (fun j => v j * rows.getD j zr (cols.getD p 0)) rows.length * adj rows cols p k) rows.length = ssum (fun j => v j * ssum (fun p => rows.getD j zr (cols.getD p 0) * adj rows cols p k) rows.length) rows.length := by
    have e1 : ssum (fun p => ssum (fun j => v j * rows.getD j zr (cols.getD p 0)) rows.length * adj rows cols p k) rows.length = ssum (fun p => ssum (fun j => v j * (rows.getD j zr (cols.getD p 0) * adj rows cols p k)) rows.length) rows.length := by
      refine ssum_congr fun p _ => ?_
      rw [Int.mul_comm, ← ssum_mul]
      refine ssum_congr fun j _ => ?_
      grind
    rw [e1, ssum_swap]
    refine ssum_congr fun j _ => ?_
    rw [← ssum_mul]
  rw [← a, b, ssum_one hk fun j hj hne => by rw [PA hl hj hk, if_neg hne]; simp]
  rw [PA hl hk hk, if_pos rfl]
end Bz
namespace Bz
def ind (a k : Nat) : Int := if a = k then 1 else 0
def rv (A : Nat → Row) (n : Nat) (w : Row) (x : Nat) : Int := ssum (fun k => w k * A k x) n
theorem ind_sum {f : Nat → Int} {a n : Nat} (h : a < n) : ssum (fun k => ind a k * f k) n = f a := by
  rw [ssum_one h fun i _ hne => by unfold ind; rw [if_neg (Ne.symm hne)]; simp]
  unfold ind; rw [if_pos rfl]; simp
theorem rv_lin {A : Nat → Row} {n : Nat} {w u v : Row} {a b : Int} (h : ∀ k, w k = a * u k - b * v k) (x : Nat) : rv A n w x = a * rv A n u x - b * rv A n v x := by
  unfold rv
  have e : ssum (fun k => w k * A k x) n = ssum (fun k => a * (u k * A k x) + (-b) * (v k * A k x)) n := ssum_congr fun k _ => by rw [h k]; grind
  rw [e, ssum_add, ssum_mul, ssum_mul]; grind
theorem rv_sum {A : Nat → Row} {n r : Nat} {w : Row} {g : Nat → Int} {u : Nat → Row} (h : ∀ k, w k = ssum (fun j => g j * u j k) r) (x : Nat) : rv A n w x = ssum (fun j => g j * rv A n (u j) x) r := by
  unfold rv
  have e : ssum (fun k => w k * A k x) n = ssum (fun k => ssum (fun j => g j * (u j k * A k x)) r) n := ssum_congr fun k _ => by
    rw [h k, Int.mul_comm, ← ssum_mul]
    exact ssum_congr fun j _ => by grind
  rw [e, ssum_swap]
  exact ssum_congr fun j _ => ssum_mul _ _ _
theorem rv_ind {A : Nat → Row} {n a : Nat} (h : a < n) (x : Nat) : rv A n (ind a) x = A a x := by
  unfold rv; exact ind_sum (f := fun k => A k x) h
structure St (A : Nat → Row) (n : Nat) (ρ cols : List Nat) (q : Nat → Nat) (d : Int) (W : Nat → Row) : Prop where
  lc : cols.length = ρ.length
  rn : ρ.length ≤ n
  qlt : ∀ i, i < n → q i < n
  ρlt : ∀ j, j < ρ.length → ρ.getD j 0 < n
  det : D (ρ.map A) cols = d
  wp : ∀ i, i < ρ.length → ∀ k, W i k = ssum (fun j => adj (ρ.map A) cols i j * ind (ρ.getD j 0) k) ρ.length
  wn : ∀ i, ρ.length ≤ i → i < n → ∀ k, W i k = d * ind (q i) k - ssum (fun p => A (q i) (cols.getD p 0) * W p k) ρ.length
  one : ∀ i p, i < ρ.length → p < ρ.length → rv A n (W i) (cols.getD p 0) = if i = p then d else 0
section
variable {A : Nat → Row} {n : Nat} {ρ cols : List Nat} {q : Nat → Nat} {d : Int} {W : Nat → Row}
theorem map_getD {j : Nat} (h : j < ρ.length) : (ρ.map A).getD j zr = A (ρ.getD j 0) := by
  rw [List.getD_eq_getElem?_getD, List.getElem?_map, List.getElem?_eq_getElem h, List.getD_eq_getElem?_getD, List.getElem?_eq_getElem h]; rfl
theorem St.rvp (s : St A n ρ cols q d W) {i : Nat} (hi : i < ρ.length) (x : Nat) : rv A n (W i) x = ssum (fun j => adj (ρ.map A) cols i j * A (ρ.getD j 0) x) ρ.length := by
  rw [rv_sum (u := fun j => ind (ρ.getD j 0)) (s.wp i hi)]
  exact ssum_congr fun j hj => by rw [rv_ind (s.ρlt j hj)]
theorem St.rvn (s : St A n ρ cols q d W) {i : Nat} (h1 : ρ.length ≤ i) (hi : i < n) (x : Nat) : rv A n (W i) x = d * A (q i) x - ssum (fun p => A (q i) (cols.getD p 0) * rv A n (W p) x) ρ.length := by
  have h : ∀ k, W i k = d * ind (q i) k - 1 * ssum (fun p => A (q i) (cols.getD p 0) * W p k) ρ.length := fun k => by rw [s.wn i h1 hi k]; omega
  rw [rv_lin h x, rv_ind (s.qlt i hi), rv_sum (w := fun k => ssum (fun p => A (q i) (cols.getD p 0) * W p k) ρ.length) (u := W) (fun k => rfl)]
  omega
theorem St.zero (s : St A n ρ cols q d W) {i p : Nat} (h1 : ρ.length ≤ i) (hi : i < n) (hp : p < ρ.length) : rv A n (W i) (cols.getD p 0) = 0 := by
  rw [s.rvn h1 hi]
  have e : ssum (fun p' => A (q i) (cols.getD p' 0) * rv A n (W p') (cols.getD p 0)) ρ.length = A (q i) (cols.getD p 0) * d := by
    rw [ssum_one hp fun p' hp' hne => by rw [s.one p' p hp' hp, if_neg hne]; simp]
    rw [s.one p p hp hp, if_pos rfl]
  rw [e]; grind
theorem St.head (s : St A n ρ cols q d W) (hr : ρ.length < n) (c : Nat) : D ((ρ ++ [q ρ.length]).map A) (cols ++ [c]) = rv A n (W ρ.length) c := by
  rw [List.map_append, s.rvn (Nat.le_refl _) hr]
  show D (ρ.map A ++ [A (q ρ.length)]) (cols ++ [c]) = _
  rw [D_border (by rw [List.length_map]; exact s.lc), s.det, List.length_map, Int.mul_comm]
  congr 1
  refine ssum_congr fun p hp => ?_
  rw [s.rvp hp]
  congr 1
  exact ssum_congr fun k hk => by rw [map_getD hk]
theorem app_getD {a j : Nat} {l : List Nat} (h : j < l.length) : (l ++ [a]).getD j 0 = l.getD j 0 := by
  rw [List.getD_eq_getElem?_getD, List.getElem?_append_left h, ← List.getD_eq_getElem?_getD]
theorem app_last {a : Nat} {l : List Nat} : (l ++ [a]).getD l.length 0 = a := by simp
theorem mix (f : Nat → Int) (s : St A n ρ cols q d W) (a L : Int) (g : Nat → Int) :
    ssum (fun j => (if j < ρ.length then a * g j + L * ssum (fun p => A (q ρ.length) (cols.getD p 0) * adj (ρ.map A) cols p j) ρ.length else -(L * d)) * f ((ρ ++ [q ρ.length]).getD j 0)) (ρ.length + 1)
    = a * ssum (fun j => g j * f (ρ.getD j 0)) ρ.length - L * (d * f (q ρ.length) - ssum (fun p => A (q ρ.length) (cols.getD p 0) * ssum (fun j => adj (ρ.map A) cols p j * f (ρ.getD j 0)) ρ.length) ρ.length) := by
  rw [show ∀ F : Nat → Int, ssum F (ρ.length + 1) = ssum F ρ.length + F ρ.length from fun _ => rfl, app_last, if_neg (Nat.lt_irrefl _)]
  have e : ssum (fun j => (if j < ρ.length then a * g j + L * ssum (fun p => A (q ρ.length) (cols.getD p 0) * adj (ρ.map A) cols p j) ρ.length else -(L * d)) * f ((ρ ++ [q ρ.length]).getD j 0)) ρ.length
      = ssum (fun j => a * (g j * f (ρ.getD j 0)) + L * ssum (fun p => A (q ρ.length) (cols.getD p 0) * (adj (ρ.map A) cols p j * f (ρ.getD j 0))) ρ.length) ρ.length := by
    refine ssum_congr fun j hj => ?_
    rw [if_pos hj, app_getD hj]
    have e2 : ssum (fun p => A (q ρ.length) (cols.getD p 0) * (adj (ρ.map A) cols p j * f (ρ.getD j 0))) ρ.length = f (ρ.getD j 0) * ssum (fun p => A (q ρ.length) (cols.getD p 0) * adj (ρ.map A) cols p j) ρ.length := by
      rw [← ssum_mul]
      exact ssum_congr fun p _ => by grind
    rw [e2]; grind
  rw [e, ssum_add, ssum_mul, ssum_mul, ssum_swap (fun j p => A (q ρ.length) (cols.getD p 0) * (adj (ρ.map A) cols p j * f (ρ.getD j 0)))]
  have e3 : ssum (fun p => ssum (fun j => A (q ρ.length) (cols.getD p 0) * (adj (ρ.map A) cols p j * f (ρ.getD j 0))) ρ.length) ρ.length = ssum (fun p => A (q ρ.length) (cols.getD p 0) * ssum (fun j => adj (ρ.map A) cols p j * f (ρ.getD j 0)) ρ.length) ρ.length :=
    ssum_congr fun p _ => ssum_mul _ _ _
  rw [e3]; grind
theorem St.step (s : St A n ρ cols q d W) (hr : ρ.length < n) (c : Nat) (d0 : d ≠ 0) (h0 : rv A n (W ρ.length) c ≠ 0) :
    ∃ W' : Nat → Row, St A n (ρ ++ [q ρ.length]) (cols ++ [c]) q (rv A n (W ρ.length) c) W' ∧ (∀ k, W' ρ.length k = W ρ.length k) ∧
      ∀ i, i < n → i ≠ ρ.length → ∀ k, d * W' i k = rv A n (W ρ.length) c * W i k - rv A n (W i) c * W ρ.length k := by
  have hd := s.head hr c
  generalize hE : rv A n (W ρ.length) c = E at *
  have lr : ((ρ ++ [q ρ.length]).map A).length = ρ.length + 1 := by simp
  have lc' : (cols ++ [c]).length = ((ρ ++ [q ρ.length]).map A).length := by rw [lr]; simp [s.lc]
  have cg : ∀ p, p < ρ.length → (cols ++ [c]).getD p 0 = cols.getD p 0 := fun p hp => app_getD (by rw [s.lc]; exact hp)
  have cl : (cols ++ [c]).getD ρ.length 0 = c := by rw [← s.lc]; exact app_last
  have rg : ∀ j, j < ρ.length + 1 → ((ρ ++ [q ρ.length]).map A).getD j zr = A ((ρ ++ [q ρ.length]).getD j 0) := fun j hj => map_getD (by simp; omega)
  have head : ∀ j, j < ρ.length + 1 → (if j < ρ.length then (0 : Int) * 0 + (-1) * ssum (fun p => A (q ρ.length) (cols.getD p 0) * adj (ρ.map A) cols p j) ρ.length else -((-1) * d)) = adj ((ρ ++ [q ρ.length]).map A) (cols ++ [c]) ρ.length j := fun j hj => by
    have := row_is (rows := (ρ ++ [q ρ.length]).map A) (cols := cols ++ [c]) (v := fun j => if j < ρ.length then (0 : Int) * 0 + (-1) * ssum (fun p => A (q ρ.length) (cols.getD p 0) * adj (ρ.map A) cols p j) ρ.length else -((-1) * d)) (e := E) (i := ρ.length) (k := j) lc' (by rw [lr]; omega) (by rw [lr]; exact hj) (fun p hp => by
      rw [lr] at hp ⊢
      have e1 := mix (fun a => A a ((cols ++ [c]).getD p 0)) s 0 (-1) (fun _ => 0)
      have e2 : ssum (fun j => (if j < ρ.length then (0 : Int) * 0 + (-1) * ssum (fun p => A (q ρ.length) (cols.getD p 0) * adj (ρ.map A) cols p j) ρ.length else -((-1) * d)) * ((ρ ++ [q ρ.length]).map A).getD j zr ((cols ++ [c]).getD p 0)) (ρ.length + 1) = _ := (ssum_congr fun j hj => by rw [rg j hj]).trans e1
      rw [e2]
      have e3 : d * A (q ρ.length) ((cols ++ [c]).getD p 0) - ssum (fun p' => A (q ρ.length) (cols.getD p' 0) * ssum (fun j => adj (ρ.map A) cols p' j * A (ρ.getD j 0) ((cols ++ [c]).getD p 0)) ρ.length) ρ.length = rv A n (W ρ.length) ((cols ++ [c]).getD p 0) := by
        rw [s.rvn (Nat.le_refl _) hr]
        congr 1
        exact ssum_congr fun p' hp' => by rw [s.rvp hp']
      rw [e3]
      by_cases hpr : p < ρ.length
      · rw [cg p hpr, s.zero (Nat.le_refl _) hr hpr, if_neg (by omega)]; simp
      · have : p = ρ.length := by omega
        subst this
        rw [cl, hE, if_pos rfl]; omega)
    rw [hd] at this
    refine Int.eq_of_mul_eq_mul_left h0 ?_
    rw [← this]; grind
  have hk : ∀ k, W ρ.length k = ssum (fun j => adj ((ρ ++ [q ρ.length]).map A) (cols ++ [c]) ρ.length j * ind ((ρ ++ [q ρ.length]).getD j 0) k) (ρ.length + 1) := fun k => by
    have e1 := mix (fun a => ind a k) s 0 (-1) (fun _ => 0)
    have e2 : ssum (fun j => adj ((ρ ++ [q ρ.length]).map A) (cols ++ [c]) ρ.length j * ind ((ρ ++ [q ρ.length]).getD j 0) k) (ρ.length + 1) = _ := (ssum_congr fun j hj => by rw [← head j hj]).trans e1
    rw [e2, s.wn _ (Nat.le_refl _) hr k]
    have e3 : ssum (fun p => A (q ρ.length) (cols.getD p 0) * W p k) ρ.length = ssum (fun p => A (q ρ.length) (cols.getD p 0) * ssum (fun j => adj (ρ.map A) cols p j * ind (ρ.getD j 0) k) ρ.length) ρ.length := ssum_congr fun p hp => by rw [s.wp p hp k]
    rw [e3]; omega
  have above : ∀ i, i < ρ.length → ∀ j, j < ρ.length + 1 → (if j < ρ.length then E * adj (ρ.map A) cols i j + rv A n (W i) c * ssum (fun p => A (q ρ.length) (cols.getD p 0) * adj (ρ.map A) cols p j) ρ.length else -(rv A n (W i) c * d)) = d * adj ((ρ ++ [q ρ.length]).map A) (cols ++ [c]) i j := fun i hi j hj => by
    have := row_is (rows := (ρ ++ [q ρ.length]).map A) (cols := cols ++ [c]) (v := fun j => if j < ρ.length then E * adj (ρ.map A) cols i j + rv A n (W i) c * ssum (fun p => A (q ρ.length) (cols.getD p 0) * adj (ρ.map A) cols p j) ρ.length else -(rv A n (W i) c * d)) (e := d * E) (i := i) (k := j) lc' (by rw [lr]; omega) (by rw [lr]; exact hj) (fun p hp => by
      rw [lr] at hp ⊢
      have e1 := mix (fun a => A a ((cols ++ [c]).getD p 0)) s E (rv A n (W i) c) (fun j => adj (ρ.map A) cols i j)
      have e2 : ssum (fun j => (if j < ρ.length then E * adj (ρ.map A) cols i j + rv A n (W i) c * ssum (fun p => A (q ρ.length) (cols.getD p 0) * adj (ρ.map A) cols p j) ρ.length else -(rv A n (W i) c * d)) * ((ρ ++ [q ρ.length]).map A).getD j zr ((cols ++ [c]).getD p 0)) (ρ.length + 1) = _ := (ssum_congr fun j hj => by rw [rg j hj]).trans e1
      rw [e2]
      have e3 : d * A (q ρ.length) ((cols ++ [c]).getD p 0) - ssum (fun p' => A (q ρ.length) (cols.getD p' 0) * ssum (fun j => adj (ρ.map A) cols p' j * A (ρ.getD j 0) ((cols ++ [c]).getD p 0)) ρ.length) ρ.length = rv A n (W ρ.length) ((cols ++ [c]).getD p 0) := by
        rw [s.rvn (Nat.le_refl _) hr]
        congr 1
        exact ssum_congr fun p' hp' => by rw [s.rvp hp']
      rw [e3, ← s.rvp hi]
      by_cases hpr : p < ρ.length
      · rw [cg p hpr, s.zero (Nat.le_refl _) hr hpr, s.one i p hi hpr]
        split <;> grind
      · have : p = ρ.length := by omega
        subst this
        rw [cl, hE, if_neg (by omega)]; grind)
    rw [hd] at this
    refine Int.eq_of_mul_eq_mul_left h0 ?_
    rw [Int.mul_comm, this]; grind
  have abk : ∀ i, i < ρ.length → ∀ k, d * ssum (fun j => adj ((ρ ++ [q ρ.length]).map A) (cols ++ [c]) i j * ind ((ρ ++ [q ρ.length]).getD j 0) k) (ρ.length + 1) = E * W i k - rv A n (W i) c * W ρ.length k := fun i hi k => by
    have e1 := mix (fun a => ind a k) s E (rv A n (W i) c) (fun j => adj (ρ.map A) cols i j)
    have e2 : d * ssum (fun j => adj ((ρ ++ [q ρ.length]).map A) (cols ++ [c]) i j * ind ((ρ ++ [q ρ.length]).getD j 0) k) (ρ.length + 1) = _ := ((ssum_mul _ _ _).symm.trans (ssum_congr fun j hj => by rw [above i hi j hj]; grind)).trans e1
    rw [e2, s.wn _ (Nat.le_refl _) hr k, s.wp i hi k]
    have e3 : ssum (fun p => A (q ρ.length) (cols.getD p 0) * W p k) ρ.length = ssum (fun p => A (q ρ.length) (cols.getD p 0) * ssum (fun j => adj (ρ.map A) cols p j * ind (ρ.getD j 0) k) ρ.length) ρ.length := ssum_congr fun p hp => by rw [s.wp p hp k]
    rw [e3]
  let V : Nat → Row := fun i k => if i = ρ.length then W ρ.length k else ssum (fun j => adj ((ρ ++ [q ρ.length]).map A) (cols ++ [c]) i j * ind ((ρ ++ [q ρ.length]).getD j 0) k) (ρ.length + 1)
  let W' : Nat → Row := fun i k => if i < ρ.length + 1 then V i k else E * ind (q i) k - ssum (fun p => A (q i) ((cols ++ [c]).getD p 0) * V p k) (ρ.length + 1)
  have Wr : ∀ k, W' ρ.length k = W ρ.length k := fun k => by
    show (if ρ.length < ρ.length + 1 then (if ρ.length = ρ.length then W ρ.length k else _) else _) = _
    rw [if_pos (Nat.lt_succ_self _), if_pos rfl]
  have Wi : ∀ i, i < ρ.length → ∀ k, W' i k = ssum (fun j => adj ((ρ ++ [q ρ.length]).map A) (cols ++ [c]) i j * ind ((ρ ++ [q ρ.length]).getD j 0) k) (ρ.length + 1) := fun i hi k => by
    show (if i < ρ.length + 1 then (if i = ρ.length then _ else _) else _) = _
    rw [if_pos (by omega), if_neg (by omega)]
  have WV : ∀ p, p < ρ.length + 1 → ∀ k, W' p k = V p k := fun p hp k => by
    show (if p < ρ.length + 1 then V p k else _) = _
    rw [if_pos hp]
  have Wn : ∀ i, ρ.length + 1 ≤ i → ∀ k, W' i k = E * ind (q i) k - ssum (fun p => A (q i) ((cols ++ [c]).getD p 0) * W' p k) (ρ.length + 1) := fun i hi k => by
    show (if i < ρ.length + 1 then V i k else _) = _
    rw [if_neg (by omega)]
    congr 1
    exact ssum_congr fun p hp => by rw [WV p hp]
  have H : ∀ i, i < n → i ≠ ρ.length → ∀ k, d * W' i k = E * W i k - rv A n (W i) c * W ρ.length k := fun i hi hne k => by
    by_cases hir : i < ρ.length
    · rw [Wi i hir k]; exact abk i hir k
    · rw [Wn i (by omega) k, s.wn i (by omega) hi k, s.rvn (by omega) hi c]
      rw [show ∀ F : Nat → Int, ssum F (ρ.length + 1) = ssum F ρ.length + F ρ.length from fun _ => rfl, cl, Wr]
      have e1 : d * ssum (fun p => A (q i) ((cols ++ [c]).getD p 0) * W' p k) ρ.length = ssum (fun p => E * (A (q i) (cols.getD p 0) * W p k) + (-(W ρ.length k)) * (A (q i) (cols.getD p 0) * rv A n (W p) c)) ρ.length := by
        rw [← ssum_mul]
        refine ssum_congr fun p hp => ?_
        have := abk p hp k
        rw [cg p hp, Wi p hp k]
        grind
      rw [ssum_add, ssum_mul, ssum_mul] at e1
      grind
  refine ⟨W', ⟨by simp [s.lc], by simp; omega, s.qlt, fun j hj => ?_, hd, fun i hi k => ?_, fun i h1 hi k => ?_, fun i p hi hp => ?_⟩, Wr, H⟩
  · by_cases hjr : j < ρ.length
    · rw [app_getD hjr]; exact s.ρlt j hjr
    · have : j = ρ.length := by simp at hj; omega
      rw [this, app_last]; exact s.qlt _ hr
  · rw [show (ρ ++ [q ρ.length]).length = ρ.length + 1 by simp] at hi ⊢
    by_cases hir : i < ρ.length
    · exact Wi i hir k
    · have : i = ρ.length := by omega
      subst this
      rw [Wr k]; exact hk k
  · rw [show (ρ ++ [q ρ.length]).length = ρ.length + 1 by simp] at h1 ⊢
    exact Wn i h1 k
  · rw [show (ρ ++ [q ρ.length]).length = ρ.length + 1 by simp] at hi hp
    have hrr : ∀ x, rv A n (W' ρ.length) x = rv A n (W ρ.length) x := fun x => by
      unfold rv; exact ssum_congr fun k _ => by rw [Wr k]
    by_cases hir : i < ρ.length
    · have lin : d * rv A n (W' i) ((cols ++ [c]).getD p 0) = E * rv A n (W i) ((cols ++ [c]).getD p 0) - rv A n (W i) c * rv A n (W ρ.length) ((cols ++ [c]).getD p 0) := by
        have := rv_lin (A := A) (n := n) (w := fun k => d * W' i k) (u := W i) (v := W ρ.length) (a := E) (b := rv A n (W i) c) (fun k => H i (by omega) (by omega) k) ((cols ++ [c]).getD p 0)
        rw [← this]
        unfold rv
        rw [← ssum_mul]
        exact ssum_congr fun k _ => by grind
      refine Int.eq_of_mul_eq_mul_left d0 ?_
      rw [lin]
      by_cases hpr : p < ρ.length
      · rw [cg p hpr, s.zero (Nat.le_refl _) hr hpr, s.one i p hir hpr]
        split <;> grind
      · have : p = ρ.length := by omega
        subst this
        rw [cl, hE, if_neg (by omega)]; grind
    · have : i = ρ.length := by omega
      subst this
      rw [hrr]
      by_cases hpr : p < ρ.length
      · rw [cg p hpr, s.zero (Nat.le_refl _) hr hpr, if_neg (by omega)]
      · have : p = ρ.length := by omega
        subst this
        rw [cl, hE, if_pos rfl]
end
end Bz
namespace Bz
theorem St.start {A : Nat → Row} {n : Nat} : St A n [] [] id 1 (fun i => ind i) where
  lc := rfl
  rn := Nat.zero_le _
  qlt := fun _ h => h
  ρlt := fun _ h => absurd h (Nat.not_lt_zero _)
  det := rfl
  wp := fun _ h => absurd h (Nat.not_lt_zero _)
  wn := fun i _ _ k => by
    show ind i k = 1 * ind i k - 0
    omega
  one := fun _ _ h => absurd h (Nat.not_lt_zero _)
theorem St.perm {A : Nat → Row} {n : Nat} {ρ cols : List Nat} {q : Nat → Nat} {d : Int} {W : Nat → Row} (s : St A n ρ cols q d W) {π : Nat → Nat} (h1 : ∀ i, i < ρ.length → π i = i) (h2 : ∀ i, ρ.length ≤ i → i < n → ρ.length ≤ π i ∧ π i < n) : St A n ρ cols (fun i => q (π i)) d (fun i => W (π i)) where
  lc := s.lc
  rn := s.rn
  qlt := fun i hi => s.qlt _ (by
    by_cases h : i < ρ.length
    · rw [h1 i h]; exact hi
    · exact (h2 i (by omega) hi).2)
  ρlt := s.ρlt
  det := s.det
  wp := fun i hi k => by
    show W (π i) k = _
    rw [h1 i hi]; exact s.wp i hi k
  wn := fun i hi hn k => by
    obtain ⟨a, b⟩ := h2 i hi hn
    have := s.wn (π i) a b k
    rw [this]
    congr 1
    exact ssum_congr fun p hp => by rw [h1 p hp]
  one := fun i p hi hp => by
    show rv A n (W (π i)) _ = _
    rw [h1 i hi]; exact s.one i p hi hp
def Ab (x B : Int) : Prop := -B ≤ x ∧ x ≤ B
theorem Ab.mul {x y B C : Int} (h : Ab x B) (h' : Ab y C) : Ab (x * y) (B * C) := by
  obtain ⟨a, b⟩ := h
  obtain ⟨c, d⟩ := h'
  have B0 : 0 ≤ B := by omega
  have C0 : 0 ≤ C := by omega
  have hb : x.natAbs ≤ B.natAbs := by omega
  have hc : y.natAbs ≤ C.natAbs := by omega
  have hm := Nat.mul_le_mul hb hc
  rw [← Int.natAbs_mul, ← Int.natAbs_mul] at hm
  have p := Int.mul_nonneg B0 C0
  exact ⟨by omega, by omega⟩
theorem Ab.add {x y B C : Int} (h : Ab x B) (h' : Ab y C) : Ab (x + y) (B + C) := ⟨by have := h.1; have := h'.1; omega, by have := h.2; have := h'.2; omega⟩
theorem Ab.sub {x y B C : Int} (h : Ab x B) (h' : Ab y C) : Ab (x - y) (B + C) := ⟨by have := h.1; have := h'.2; omega, by have := h.2; have := h'.1; omega⟩
theorem Ab.mono {x B C : Int} (h : Ab x B) (h' : B ≤ C) : Ab x C := ⟨by have := h.1; omega, by have := h.2; omega⟩
theorem Ab.sum {f : Nat → Int} {B : Int} : ∀ {n : Nat}, (∀ i, i < n → Ab (f i) B) → Ab (ssum f n) (n * B)
  | 0, _ => ⟨by simp [ssum], by simp [ssum]⟩
  | n + 1, h => by
    have i := Ab.sum (n := n) fun i hi => h i (by omega)
    have := Ab.add i (h n (by omega))
    have e : (n : Int) * B + B = ((n + 1 : Nat) : Int) * B := by rw [show ((n + 1 : Nat) : Int) = (n : Int) + 1 from rfl, Int.add_mul, Int.one_mul]
    rw [e] at this; exact this
theorem Ab.pow {k : Nat} {x B : Int} (h : Ab x B) : Ab ((-1) ^ k * x) B := by
  rcases (by induction k with
    | zero => exact .inl rfl
    | succ k ih => rw [Int.pow_succ]; rcases ih with e | e <;> rw [e] <;> simp : ((-1 : Int) ^ k = 1 ∨ (-1 : Int) ^ k = -1)) with e | e
  · rw [e, Int.one_mul]; exact h
  · rw [e]
    obtain ⟨a, b⟩ := h
    exact ⟨by omega, by omega⟩
theorem Ab.det {B : Int} (B0 : 1 ≤ B) : ∀ (rows : List Row) (cols : List Nat), (∀ x ∈ rows, ∀ c ∈ cols, Ab (x c) B) → cols.length ≤ 12 → Ab (D rows cols) ((12 * B) ^ rows.length)
  | [], cols, _, _ => by
    show Ab (F0 cols) ((12 * B) ^ 0)
    rw [Int.pow_zero]
    unfold F0
    split
    · exact ⟨by decide, by decide⟩
    · exact ⟨by decide, by decide⟩
  | x :: rows, cols, h, hl => by
    show Ab (Lx x (D rows) cols) _
    rw [Lx_sum, List.length_cons, Int.pow_succ]
    have P0 : (0 : Int) ≤ (12 * B) ^ rows.length := Int.pow_nonneg (by omega)
    have each : ∀ p, p < cols.length → Ab ((-1) ^ p * (x (cols.getD p 0) * D rows (cols.eraseIdx p))) (B * (12 * B) ^ rows.length) := fun p hp => by
      refine Ab.pow (Ab.mul ?_ (Ab.det B0 rows (cols.eraseIdx p) (fun y hy c hc => h y (List.mem_cons_of_mem _ hy) c (List.mem_of_mem_eraseIdx hc)) ?_))
      · rw [List.getD_eq_getElem?_getD, List.getElem?_eq_getElem hp]
        exact h x List.mem_cons_self _ (List.getElem_mem hp)
      · rw [List.length_eraseIdx]; split <;> omega
    refine (Ab.sum each).mono ?_
    have Q0 : 0 ≤ B * (12 * B) ^ rows.length := Int.mul_nonneg (by omega) P0
    have := Int.mul_le_mul_of_nonneg_right (show (cols.length : Int) ≤ 12 by omega) Q0
    refine Int.le_trans this ?_
    have e : 12 * (B * (12 * B) ^ rows.length) = (12 * B) ^ rows.length * (12 * B) := by grind
    omega
section
variable {A : Nat → Row} {n : Nat} {ρ cols : List Nat} {q : Nat → Nat} {d : Int} {W : Nat → Row}
structure Bd (A : Nat → Row) (n m : Nat) (B : Int) : Prop where
  b1 : 1 ≤ B
  ab : ∀ k x, k < n → x < m → Ab (A k x) B
def top (B : Int) (r : Nat) : Int := (12 * B) ^ (r + 3)
theorem pow_le {B : Int} {a b : Nat} (h : 1 ≤ B) (hab : a ≤ b) : (12 * B) ^ a ≤ (12 * B) ^ b := by
  obtain ⟨c, rfl⟩ := Nat.exists_eq_add_of_le hab
  rw [Int.pow_add]
  have p : (1 : Int) ≤ (12 * B) ^ c := by
    have : 0 < (12 * B) ^ c := Int.pow_pos (by omega)
    omega
  have q : (0 : Int) ≤ (12 * B) ^ a := Int.pow_nonneg (by omega)
  have := Int.mul_le_mul_of_nonneg_left p q
  omega
theorem St.abs (s : St A n ρ cols q d W) {m : Nat} {B : Int} (b : Bd A n m B) (hc : ∀ c ∈ cols, c < m) (hr : ρ.length ≤ 12) :
    (∀ i k, i < n → Ab (W i k) (top B ρ.length)) ∧ (∀ i x, i < n → x < m → Ab (rv A n (W i) x) (top B ρ.length)) ∧ Ab d (top B ρ.length) := by
  have B0 := b.b1
  have mem : ∀ j, j < ρ.length → ρ.getD j 0 ∈ ρ := fun j hj => by
    rw [List.getD_eq_getElem?_getD, List.getElem?_eq_getElem hj]; exact List.getElem_mem hj
  have ρn : ∀ a ∈ ρ, a < n := fun a ha => by
    obtain ⟨j, hj, e⟩ := List.getElem_of_mem ha
    have := s.ρlt j hj
    rw [List.getD_eq_getElem?_getD, List.getElem?_eq_getElem hj] at this
    rw [← e]; exact this
  have ent : ∀ x ∈ ρ.map A, ∀ c ∈ cols, Ab (x c) B := fun x hx c hc' => by
    obtain ⟨a, ha, rfl⟩ := List.mem_map.mp hx
    exact b.ab a c (ρn a ha) (hc c hc')
  have cl : cols.length ≤ 12 := by rw [s.lc]; exact hr
  have hd : Ab d ((12 * B) ^ ρ.length) := by
    have := Ab.det B0 (ρ.map A) cols ent cl
    rw [s.det, List.length_map] at this; exact this
  have had : ∀ p k, Ab (adj (ρ.map A) cols p k) ((12 * B) ^ ρ.length) := fun p k => by
    unfold adj
    refine Ab.pow ((Ab.det B0 _ _ (fun x hx c hc' => ent x (List.mem_of_mem_eraseIdx hx) c (List.mem_of_mem_eraseIdx hc')) ?_).mono (pow_le B0 ?_))
    · rw [List.length_eraseIdx]; split <;> omega
    · rw [List.length_eraseIdx, List.length_map]; split <;> omega
  have i1 : ∀ a k, Ab (ind a k) 1 := fun a k => by unfold ind; split <;> exact ⟨by decide, by decide⟩
  have P0 : (0 : Int) ≤ (12 * B) ^ ρ.length := Int.pow_nonneg (by omega)
  have le12 : ∀ {C : Int}, 0 ≤ C → (ρ.length : Int) * C ≤ 12 * C := fun h => Int.mul_le_mul_of_nonneg_right (by omega) h
  have c1 : 12 * (12 * B) ^ ρ.length ≤ (12 * B) ^ (ρ.length + 1) := by
    rw [Int.pow_succ]
    have := Int.mul_le_mul_of_nonneg_left (show (12 : Int) ≤ 12 * B by omega) P0
    omega
  have wp : ∀ i k, i < ρ.length → Ab (W i k) ((12 * B) ^ (ρ.length + 1)) := fun i k hi => by
    rw [s.wp i hi k]
    refine (Ab.sum (B := (12 * B) ^ ρ.length) fun j hj => ?_).mono (Int.le_trans (le12 P0) c1)
    have := Ab.mul (had i j) (i1 (ρ.getD j 0) k)
    rw [Int.mul_one] at this; exact this
  have rp : ∀ i x, i < ρ.length → x < m → Ab (rv A n (W i) x) ((12 * B) ^ (ρ.length + 1)) := fun i x hi hx => by
    rw [s.rvp hi]
    have Q0 : 0 ≤ (12 * B) ^ ρ.length * B := Int.mul_nonneg P0 (by omega)
    refine (Ab.sum (B := (12 * B) ^ ρ.length * B) fun j hj => Ab.mul (had i j) (b.ab _ x (s.ρlt j hj) hx)).mono (Int.le_trans (le12 Q0) ?_)
    rw [Int.pow_succ]
    have : 12 * ((12 * B) ^ ρ.length * B) = (12 * B) ^ ρ.length * (12 * B) := by grind
    omega
  have S0 : (0 : Int) ≤ (12 * B) ^ (ρ.length + 1) := Int.pow_nonneg (by omega)
  have T0 : (0 : Int) ≤ (12 * B) ^ (ρ.length + 2) := Int.pow_nonneg (by omega)
  have c2 : 12 * (B * (12 * B) ^ (ρ.length + 1)) = (12 * B) ^ (ρ.length + 2) := by
    rw [show ρ.length + 2 = ρ.length + 1 + 1 from rfl, Int.pow_succ]; grind
  have c3 : (12 * B) ^ (ρ.length + 2) + (12 * B) ^ (ρ.length + 2) ≤ top B ρ.length := by
    unfold top
    have e : (12 * B) ^ (ρ.length + 3) = (12 * B) ^ (ρ.length + 2) * (12 * B) := Int.pow_succ _ _
    rw [e]
    have := Int.mul_le_mul_of_nonneg_left (show (2 : Int) ≤ 12 * B by omega) T0
    omega
  have c4 : (12 * B) ^ (ρ.length + 1) ≤ (12 * B) ^ (ρ.length + 2) := pow_le B0 (by omega)
  have c5 : (12 * B) ^ ρ.length ≤ (12 * B) ^ (ρ.length + 2) := pow_le B0 (by omega)
  have c6 : (12 * B) ^ ρ.length * B ≤ (12 * B) ^ (ρ.length + 2) := by
    refine Int.le_trans ?_ c4
    rw [Int.pow_succ]
    exact Int.mul_le_mul_of_nonneg_left (by omega) P0
  have U0 : 0 ≤ B * (12 * B) ^ (ρ.length + 1) := Int.mul_nonneg (by omega) S0
  have colm : ∀ p, p < ρ.length → cols.getD p 0 < m := fun p hp => by
    have hp' : p < cols.length := by rw [s.lc]; exact hp
    rw [List.getD_eq_getElem?_getD, List.getElem?_eq_getElem hp']
    exact hc _ (List.getElem_mem hp')
  refine ⟨fun i k hi => ?_, fun i x hi hx => ?_, hd.mono (by omega)⟩
  · by_cases hir : i < ρ.length
    · exact (wp i k hir).mono (by omega)
    · rw [s.wn i (by omega) hi k]
      have a1 := Ab.mul hd (i1 (q i) k)
      rw [Int.mul_one] at a1
      refine (Ab.sub a1 (Ab.sum (B := B * (12 * B) ^ (ρ.length + 1)) fun p hp => Ab.mul (b.ab (q i) _ (s.qlt i hi) (colm p hp)) (wp p k hp))).mono ?_
      have := le12 U0
      omega
  · by_cases hir : i < ρ.length
    · exact (rp i x hir hx).mono (by omega)
    · rw [s.rvn (by omega) hi]
      refine (Ab.sub (Ab.mul hd (b.ab (q i) x (s.qlt i hi) hx)) (Ab.sum (B := B * (12 * B) ^ (ρ.length + 1)) fun p hp => Ab.mul (b.ab (q i) _ (s.qlt i hi) (colm p hp)) (rp p x hp hx))).mono ?_
      have := le12 U0
      omega
end
end Bz
namespace Bz
def unitL (n i : Nat) : List Int := (List.range n).map (ind i)
def movedL (ls : List (List Int)) (f k : Nat) : List (List Int) := ls.take f ++ [ls.getD k []] ++ (ls.drop f).take (k - f) ++ ls.drop (k + 1)
def clearL (l h : List Int) (c : Nat) (d : Int) : List Int := (l.zip h).map fun p => (h.getD c 0 * p.1 - l.getD c 0 * p.2).fdiv d
def lineL (A : Nat → Row) (n m : Nat) (w : Row) : List Int := (List.range m).map (fun x => rv A n w x) ++ (List.range n).map w
def linesL (A : Nat → Row) (n m : Nat) (W : Nat → Row) : List (List Int) := (List.range n).map fun i => lineL A n m (W i)
def arr (rows : List (List Int)) : Nat → Row := fun k x => (rows.getD k []).getD x 0
theorem line_len {A : Nat → Row} {n m : Nat} {w : Row} : (lineL A n m w).length = m + n := by unfold lineL; simp
theorem line_at {A : Nat → Row} {n m x : Nat} {w : Row} (h : x < m) : (lineL A n m w).getD x 0 = rv A n w x := by
  unfold lineL
  rw [List.getD_eq_getElem?_getD, List.getElem?_append_left (by simpa using h), List.getElem?_map, List.getElem?_range h]; rfl
theorem lines_at {A : Nat → Row} {n m i : Nat} {W : Nat → Row} (h : i < n) : (linesL A n m W).getD i [] = lineL A n m (W i) := by
  unfold linesL
  rw [List.getD_eq_getElem?_getD, List.getElem?_map, List.getElem?_range h]; rfl
theorem lines_len {A : Nat → Row} {n m : Nat} {W : Nat → Row} : (linesL A n m W).length = n := by unfold linesL; simp
theorem line_congr {A : Nat → Row} {n m : Nat} {w u : Row} (h : ∀ k, w k = u k) : lineL A n m w = lineL A n m u := by
  have : w = u := funext h
  rw [this]
theorem lines_start {rows : List (List Int)} {m : Nat} (hl : ∀ r ∈ rows, r.length = m) : (List.range rows.length).map (fun i => rows.getD i [] ++ unitL rows.length i) = linesL (arr rows) rows.length m (fun i => ind i) := by
  unfold linesL
  apply List.map_congr_left
  intro i hi
  have hi := List.mem_range.mp hi
  unfold lineL unitL
  congr 1
  have g : rows.getD i [] = rows[i] := by rw [List.getD_eq_getElem?_getD, List.getElem?_eq_getElem hi]; rfl
  have ml := hl rows[i] (List.getElem_mem hi)
  apply List.ext_getElem
  · rw [g, ml]; simp
  · intro x h1 h2
    simp only [List.getElem_map, List.getElem_range]
    rw [rv_ind hi]
    unfold arr
    rw [List.getD_eq_getElem?_getD (l := rows.getD i []), List.getElem?_eq_getElem h1]; rfl
def rot (r k i : Nat) : Nat := if i < r then i else if i = r then k else if i ≤ k then i - 1 else i
theorem lines_moved {A : Nat → Row} {n m r k : Nat} {W : Nat → Row} (hr : r ≤ k) (hk : k < n) : movedL (linesL A n m W) r k = linesL A n m (fun i => W (rot r k i)) := by
  unfold movedL
  rw [lines_at hk]
  unfold linesL
  apply List.ext_getElem?
  intro i
  rw [List.getElem?_map]
  simp only [List.append_assoc]
  by_cases h1 : i < r
  · rw [List.getElem?_append_left (by simp; omega), List.getElem?_take_of_lt h1, List.getElem?_map]
    rw [List.getElem?_range (by omega)]
    have : rot r k i = i := by unfold rot; rw [if_pos h1]
    simp [this]
  · rw [List.getElem?_append_right (by simp; omega)]
    have lt : ((List.map (fun i => lineL A n m (W i)) (List.range n)).take r).length = r := by simp; omega
    rw [lt]
    by_cases h2 : i = r
    · subst h2
      rw [Nat.sub_self, List.getElem?_append_left (by simp)]
      rw [List.getElem?_range (by omega)]
      have : rot i k i = k := by unfold rot; rw [if_neg (Nat.lt_irrefl _), if_pos rfl]
      simp [this]
    · rw [List.getElem?_append_right (by simp; omega)]
      show (_ ++ _)[i - r - 1]? = _
      have l2 : ((List.map (fun i => lineL A n m (W i)) (List.range n)).drop r |>.take (k - r)).length = k - r := by simp; omega
      by_cases h3 : i ≤ k
      · rw [List.getElem?_append_left (by rw [l2]; omega), List.getElem?_take_of_lt (by omega), List.getElem?_drop, List.getElem?_map, List.getElem?_range (by omega), List.getElem?_range (by omega)]
        have : rot r k i = i - 1 := by unfold rot; rw [if_neg h1, if_neg h2, if_pos h3]
        simp only [Option.map_some, this]
        rw [show r + (i - r - 1) = i - 1 by omega]
      · rw [List.getElem?_append_right (by rw [l2]; omega), l2, List.getElem?_drop, List.getElem?_map]
        rw [show k + 1 + (i - r - 1 - (k - r)) = i by omega]
        by_cases h4 : i < n
        · rw [List.getElem?_range h4]
          have : rot r k i = i := by unfold rot; rw [if_neg h1, if_neg h2, if_neg h3]
          simp [this]
        · rw [List.getElem?_eq_none (by simpa using h4)]
          rfl
theorem fdiv_exact {a b d : Int} (h : d ≠ 0) (e : d * b = a) : a.fdiv d = b := by
  rw [← e]; exact Int.mul_fdiv_cancel_left b h
theorem line_clear {A : Nat → Row} {n m c : Nat} {w u v : Row} {d : Int} (hc : c < m) (d0 : d ≠ 0) (h : ∀ k, d * v k = rv A n u c * w k - rv A n w c * u k) : clearL (lineL A n m w) (lineL A n m u) c d = lineL A n m v := by
  have hr : ∀ x, d * rv A n v x = rv A n u c * rv A n w x - rv A n w c * rv A n u x := fun x => by
    have := rv_lin (A := A) (n := n) (w := fun k => d * v k) (u := w) (v := u) (a := rv A n u c) (b := rv A n w c) h x
    rw [← this]
    unfold rv
    rw [← ssum_mul]
    exact ssum_congr fun k _ => by grind
  unfold clearL
  rw [line_at hc, line_at hc]
  unfold lineL
  rw [List.zip_append (by simp), List.map_append]
  congr 1
  · apply List.ext_getElem
    · simp
    · intro x h1 h2
      simp only [List.getElem_map, List.getElem_zip, List.getElem_range]
      exact fdiv_exact d0 (hr x)
  · apply List.ext_getElem
    · simp
    · intro x h1 h2
      simp only [List.getElem_map, List.getElem_zip, List.getElem_range]
      exact fdiv_exact d0 (h x)
structure Turn (A : Nat → Row) (n : Nat) (col : Nat) (ρ cols : List Nat) (q : Nat → Nat) (d : Int) (W : Nat → Row) : Prop where
  st : St A n ρ cols q d W
  d0 : d ≠ 0
  cl : ∀ c ∈ cols, c < col
  piv : ∀ i, i < ρ.length → q i = ρ.getD i 0
  sur : ∀ k, k < n → ∃ i, i < n ∧ q i = k
  zero : ∀ i, ρ.length ≤ i → i < n → ∀ x, x < col → rv A n (W i) x = 0
  all : cols = List.range col ∨ ∃ x, x < col ∧ x ∉ cols
theorem Turn.start {A : Nat → Row} {n : Nat} : Turn A n 0 [] [] id 1 (fun i => ind i) where
  st := St.start
  d0 := by decide
  cl := fun _ h => nomatch h
  piv := fun _ h => absurd h (Nat.not_lt_zero _)
  sur := fun k h => ⟨k, h, rfl⟩
  zero := fun _ _ _ _ h => absurd h (Nat.not_lt_zero _)
  all := .inl rfl
section
variable {A : Nat → Row} {n col : Nat} {ρ cols : List Nat} {q : Nat → Nat} {d : Int} {W : Nat → Row}
theorem Turn.skip (t : Turn A n col ρ cols q d W) (h : ∀ i, ρ.length ≤ i → i < n → rv A n (W i) col = 0) : Turn A n (col + 1) ρ cols q d W where
  st := t.st
  d0 := t.d0
  cl := fun c hc => Nat.lt_succ_of_lt (t.cl c hc)
  piv := t.piv
  sur := t.sur
  zero := fun i h1 h2 x hx => by
    by_cases e : x = col
    · rw [e]; exact h i h1 h2
    · exact t.zero i h1 h2 x (by omega)
  all := .inr ⟨col, Nat.lt_succ_self _, fun z => absurd (t.cl col z) (Nat.lt_irrefl _)⟩
theorem Turn.move (t : Turn A n col ρ cols q d W) {k : Nat} (h1 : ρ.length ≤ k) (h2 : k < n) : Turn A n col ρ cols (fun i => q (rot ρ.length k i)) d (fun i => W (rot ρ.length k i)) where
  st := t.st.perm (fun i hi => by unfold rot; rw [if_pos hi]) fun i a b => by unfold rot; split <;> (try split) <;> (try split) <;> omega
  d0 := t.d0
  cl := t.cl
  piv := fun i hi => by
    show q (rot ρ.length k i) = _
    rw [show rot ρ.length k i = i by unfold rot; rw [if_pos hi]]; exact t.piv i hi
  sur := fun j hj => by
    obtain ⟨i, hi, e⟩ := t.sur j hj
    by_cases a : i < ρ.length
    · exact ⟨i, hi, by show q (rot ρ.length k i) = j; rw [show rot ρ.length k i = i by unfold rot; rw [if_pos a]]; exact e⟩
    · by_cases b : i = k
      · exact ⟨ρ.length, by omega, by show q (rot ρ.length k ρ.length) = j; rw [show rot ρ.length k ρ.length = k by unfold rot; rw [if_neg (Nat.lt_irrefl _), if_pos rfl], ← b]; exact e⟩
      · by_cases c : i < k
        · exact ⟨i + 1, by omega, by show q (rot ρ.length k (i + 1)) = j; rw [show rot ρ.length k (i + 1) = i by unfold rot; rw [if_neg (by omega), if_neg (by omega), if_pos (by omega)]; omega]; exact e⟩
        · exact ⟨i, hi, by show q (rot ρ.length k i) = j; rw [show rot ρ.length k i = i by unfold rot; rw [if_neg a, if_neg (by omega), if_neg (by omega)]]; exact e⟩
  zero := fun i a b x hx => by
    have : ρ.length ≤ rot ρ.length k i ∧ rot ρ.length k i < n := by unfold rot; split <;> (try split) <;> (try split) <;> omega
    exact t.zero _ this.1 this.2 x hx
  all := t.all
theorem Turn.step {m : Nat} (t : Turn A n col ρ cols q d W) (hr : ρ.length < n) (hm : col < m) (h0 : rv A n (W ρ.length) col ≠ 0) :
    ∃ W', Turn A n (col + 1) (ρ ++ [q ρ.length]) (cols ++ [col]) q (rv A n (W ρ.length) col) W' ∧
      ((linesL A n m W).take ρ.length).map (fun l => clearL l (lineL A n m (W ρ.length)) col d) ++ [lineL A n m (W ρ.length)] ++ ((linesL A n m W).drop (ρ.length + 1)).map (fun l => clearL l (lineL A n m (W ρ.length)) col d) = linesL A n m W' := by
  obtain ⟨W', s', e1, e2⟩ := t.st.step hr col t.d0 h0
  refine ⟨W', ⟨s', h0, fun c hc => ?_, fun i hi => ?_, t.sur, fun i a b x hx => ?_, ?_⟩, ?_⟩
  · rcases List.mem_append.mp hc with z | z
    · exact Nat.lt_succ_of_lt (t.cl c z)
    · have : c = col := by simpa using z
      omega
  · by_cases hir : i < ρ.length
    · rw [app_getD hir]; exact t.piv i hir
    · have : i = ρ.length := by simp at hi; omega
      rw [this, app_last]
  · rw [show (ρ ++ [q ρ.length]).length = ρ.length + 1 by simp] at a
    have lin : d * rv A n (W' i) x = rv A n (W ρ.length) col * rv A n (W i) x - rv A n (W i) col * rv A n (W ρ.length) x := by
      have := rv_lin (A := A) (n := n) (w := fun k => d * W' i k) (u := W i) (v := W ρ.length) (fun k => e2 i b (by omega) k) x
      rw [← this]
      unfold rv
      rw [← ssum_mul]
      exact ssum_congr fun k _ => by grind
    refine Int.eq_of_mul_eq_mul_left t.d0 ?_
    rw [lin]
    by_cases e : x = col
    · subst e; grind
    · rw [t.zero i (by omega) b x (by omega), t.zero ρ.length (Nat.le_refl _) hr x (by omega)]; simp
  · rcases t.all with z | ⟨x, a, b⟩
    · left; rw [z, List.range_succ]
    · refine .inr ⟨x, by omega, fun z => ?_⟩
      rcases List.mem_append.mp z with z | z
      · exact b z
      · have : x = col := by simpa using z
        omega
  · unfold linesL
    rw [← List.map_take, ← List.map_drop, List.map_map, List.map_map]
    apply List.ext_getElem?
    intro i
    simp only [List.append_assoc]
    have lt : (List.map ((fun l => clearL l (lineL A n m (W ρ.length)) col d) ∘ fun i => lineL A n m (W i)) ((List.range n).take ρ.length)).length = ρ.length := by simp; omega
    by_cases h1 : i < ρ.length
    · rw [List.getElem?_append_left (by rw [lt]; exact h1), List.getElem?_map, List.getElem?_map, List.getElem?_take_of_lt h1, List.getElem?_range (by omega)]
      show some (clearL (lineL A n m (W i)) (lineL A n m (W ρ.length)) col d) = some _
      rw [line_clear hm t.d0 (e2 i (by omega) (by omega))]
    · rw [List.getElem?_append_right (by rw [lt]; omega), lt, List.getElem?_map]
      by_cases h2 : i = ρ.length
      · subst h2
        rw [Nat.sub_self, List.getElem?_range hr]
        show some (lineL A n m (W ρ.length)) = some (lineL A n m (W' ρ.length))
        rw [line_congr e1]
      · rw [List.getElem?_append_right (by simp; omega)]
        show (List.map _ ((List.range n).drop (ρ.length + 1)))[i - ρ.length - 1]? = _
        rw [List.getElem?_map, List.getElem?_drop, show ρ.length + 1 + (i - ρ.length - 1) = i by omega]
        by_cases h4 : i < n
        · rw [List.getElem?_range h4]
          show some (clearL (lineL A n m (W i)) (lineL A n m (W ρ.length)) col d) = some _
          rw [line_clear hm t.d0 (e2 i h4 h2)]
        · rw [List.getElem?_eq_none (by simpa using h4)]
          rfl
end
end Bz
namespace Bz
section
variable {A : Nat → Row} {n col : Nat} {ρ cols : List Nat} {q : Nat → Nat} {d : Int} {W : Nat → Row}
theorem Turn.back (t : Turn A n col ρ cols q d W) {k y : Nat} (hk : k < n) (hy : y < col) : d * A k y = ssum (fun p => A k (cols.getD p 0) * rv A n (W p) y) ρ.length := by
  obtain ⟨i, hi, e⟩ := t.sur k hk
  have s := t.st
  by_cases hir : i < ρ.length
  · have ek : k = ρ.getD i 0 := by rw [← e]; exact t.piv i hir
    have lr : (ρ.map A).length = ρ.length := List.length_map _
    have e1 : ssum (fun p => A k (cols.getD p 0) * rv A n (W p) y) ρ.length = ssum (fun p => ssum (fun j => (A k (cols.getD p 0) * adj (ρ.map A) cols p j) * A (ρ.getD j 0) y) ρ.length) ρ.length := ssum_congr fun p hp => by
      rw [s.rvp hp, ← ssum_mul]
      exact ssum_congr fun j _ => by grind
    have e2 : ssum (fun p => ssum (fun j => (A k (cols.getD p 0) * adj (ρ.map A) cols p j) * A (ρ.getD j 0) y) ρ.length) ρ.length = ssum (fun j => A (ρ.getD j 0) y * ssum (fun p => (ρ.map A).getD i zr (cols.getD p 0) * adj (ρ.map A) cols p j) ρ.length) ρ.length := by
      rw [ssum_swap]
      refine ssum_congr fun j _ => ?_
      rw [← ssum_mul]
      refine ssum_congr fun p _ => ?_
      rw [map_getD hir, ← ek]; grind
    rw [e1, e2]
    have pa : ∀ j, j < ρ.length → ssum (fun p => (ρ.map A).getD i zr (cols.getD p 0) * adj (ρ.map A) cols p j) ρ.length = if i = j then d else 0 := fun j hj => by
      have := PA (rows := ρ.map A) (cols := cols) (i := i) (k := j) (by rw [lr]; exact s.lc) (by rw [lr]; exact hir) (by rw [lr]; exact hj)
      rw [lr, s.det] at this; exact this
    rw [ssum_one hir fun j hj hne => by rw [pa j hj, if_neg (Ne.symm hne)]; simp]
    rw [pa i hir, if_pos rfl, ek]; grind
  · have := s.rvn (by omega) hi y
    rw [t.zero i (by omega) hi y hy, e] at this
    omega
theorem Turn.kernel (t : Turn A n col ρ cols q d W) {x : Nat} (hx : x < col) (hf : x ∉ cols) : ∃ z : Row, z x = -d ∧ ∀ k, k < n → ssum (fun y => A k y * z y) col = 0 := by
  have s := t.st
  have cm : ∀ i, i < ρ.length → cols.getD i 0 ∈ cols := fun i hi => by
    have hi' : i < cols.length := by rw [s.lc]; exact hi
    rw [List.getD_eq_getElem?_getD, List.getElem?_eq_getElem hi']; exact List.getElem_mem hi'
  refine ⟨fun y => ssum (fun i => rv A n (W i) x * ind (cols.getD i 0) y) ρ.length - d * ind x y, ?_, fun k hk => ?_⟩
  · have e1 : ssum (fun i => rv A n (W i) x * ind (cols.getD i 0) x) ρ.length = 0 := ssum_zero fun i hi => by
      unfold ind
      rw [if_neg fun z => hf (by rw [← z]; exact cm i hi)]; simp
    show ssum (fun i => rv A n (W i) x * ind (cols.getD i 0) x) ρ.length - d * ind x x = -d
    rw [e1]; unfold ind; rw [if_pos rfl]; omega
  · have gen : ∀ f : Row, ssum (fun y => f y * (ssum (fun i => rv A n (W i) x * ind (cols.getD i 0) y) ρ.length - d * ind x y)) col = ssum (fun i => rv A n (W i) x * f (cols.getD i 0)) ρ.length - d * f x := fun f => by
      have e1 : ssum (fun y => f y * (ssum (fun i => rv A n (W i) x * ind (cols.getD i 0) y) ρ.length - d * ind x y)) col = ssum (fun y => ssum (fun i => rv A n (W i) x * (ind (cols.getD i 0) y * f y)) ρ.length + (-d) * (ind x y * f y)) col := ssum_congr fun y _ => by
        have : ssum (fun i => rv A n (W i) x * (ind (cols.getD i 0) y * f y)) ρ.length = f y * ssum (fun i => rv A n (W i) x * ind (cols.getD i 0) y) ρ.length := by
          rw [← ssum_mul]
          exact ssum_congr fun i _ => by grind
        rw [this]; grind
      rw [e1, ssum_add, ssum_mul, ind_sum (f := f) hx, ssum_swap]
      have e2 : ssum (fun i => ssum (fun y => rv A n (W i) x * (ind (cols.getD i 0) y * f y)) col) ρ.length = ssum (fun i => rv A n (W i) x * f (cols.getD i 0)) ρ.length := ssum_congr fun i hi => by
        rw [ssum_mul, ind_sum (f := f) (t.cl _ (cm i hi))]
      rw [e2]; grind
    refine Int.eq_of_mul_eq_mul_left t.d0 ?_
    rw [Int.mul_zero, gen (A k), Int.mul_sub]
    have b1 := t.back hk hx
    have e3 : ssum (fun i => rv A n (W i) x * A k (cols.getD i 0)) ρ.length = d * A k x := by
      rw [b1]
      exact ssum_congr fun i _ => Int.mul_comm _ _
    rw [e3]; grind
def Sol (A : Nat → Row) (n u : Nat) (z : Row) (N : Int) : Prop := ∀ k, k < n → ssum (fun x => A k x * z x) u = N * A k u
theorem Sol.line {u : Nat} {z : Row} {N : Int} (h : Sol A n u z N) (w : Row) : ssum (fun x => rv A n w x * z x) u = N * rv A n w u := by
  unfold rv
  have e1 : ssum (fun x => ssum (fun k => w k * A k x) n * z x) u = ssum (fun x => ssum (fun k => w k * (A k x * z x)) n) u := ssum_congr fun x _ => by
    rw [Int.mul_comm, ← ssum_mul]
    exact ssum_congr fun k _ => by grind
  rw [e1, ssum_swap, ← ssum_mul]
  refine ssum_congr fun k hk => ?_
  rw [ssum_mul, h k hk]; grind
theorem Turn.told (t : Turn A n col ρ cols q d W) (hc : cols = List.range col) {z : Row} {N : Int} (hs : Sol A n col z N) {i : Nat} (hi : i < col) : d * z i = N * rv A n (W i) col := by
  have s := t.st
  have hl : ρ.length = col := by rw [← s.lc, hc, List.length_range]
  have g : ∀ p, p < col → cols.getD p 0 = p := fun p hp => by rw [hc, List.getD_eq_getElem?_getD, List.getElem?_range hp]; rfl
  rw [← hs.line (W i)]
  rw [ssum_one hi fun x hx hne => by
    have := s.one i x (by rw [hl]; exact hi) (by rw [hl]; exact hx)
    rw [g x hx, if_neg (Ne.symm hne)] at this
    rw [this]; simp]
  have := s.one i i (by rw [hl]; exact hi) (by rw [hl]; exact hi)
  rw [g i hi, if_pos rfl] at this
  rw [this]
end
end Bz
namespace Bz
theorem Turn.exists {A : Nat → Row} {n : Nat} : ∀ col : Nat, ∃ ρ cols q d W, Turn A n col ρ cols q d W
  | 0 => ⟨_, _, _, _, _, Turn.start⟩
  | col + 1 => by
    obtain ⟨ρ, cols, q, d, W, t⟩ := Turn.exists (A := A) (n := n) col
    by_cases h : ∃ k, ρ.length ≤ k ∧ k < n ∧ rv A n (W k) col ≠ 0
    · obtain ⟨k, h1, h2, h3⟩ := h
      have t' := t.move h1 h2
      have e : rot ρ.length k ρ.length = k := by unfold rot; rw [if_neg (Nat.lt_irrefl _), if_pos rfl]
      obtain ⟨W', t2, _⟩ := t'.step (m := col + 1) (by omega) (by omega) (by show rv A n (W (rot ρ.length k ρ.length)) col ≠ 0; rw [e]; exact h3)
      exact ⟨_, _, _, _, _, t2⟩
    · refine ⟨_, _, _, _, _, t.skip fun i h1 h2 => ?_⟩
      by_cases e : rv A n (W i) col = 0
      · exact e
      · exact absurd ⟨i, h1, h2, e⟩ h
section
variable {A : Nat → Row} {n col : Nat} {ρ cols : List Nat} {q : Nat → Nat} {d : Int} {W : Nat → Row}
def kvk (A : Nat → Row) (n : Nat) (W : Nat → Row) (cols : List Nat) (s k : Nat) : Row := fun y => ssum (fun i => rv A n (W i) s * ind (cols.getD i 0) y) k
theorem Turn.kernelE (t : Turn A n col ρ cols q d W) {x : Nat} (hx : x < col) : ∀ k, k < n → ssum (fun y => A k y * (kvk A n W cols x cols.length y - d * ind x y)) col = 0 := fun k hk => by
  have s := t.st
  have cm : ∀ i, i < ρ.length → cols.getD i 0 ∈ cols := fun i hi => by
    have hi' : i < cols.length := by rw [s.lc]; exact hi
    rw [List.getD_eq_getElem?_getD, List.getElem?_eq_getElem hi']; exact List.getElem_mem hi'
  unfold kvk
  rw [s.lc]
  have gen : ∀ f : Row, ssum (fun y => f y * (ssum (fun i => rv A n (W i) x * ind (cols.getD i 0) y) ρ.length - d * ind x y)) col = ssum (fun i => rv A n (W i) x * f (cols.getD i 0)) ρ.length - d * f x := fun f => by
    have e1 : ssum (fun y => f y * (ssum (fun i => rv A n (W i) x * ind (cols.getD i 0) y) ρ.length - d * ind x y)) col = ssum (fun y => ssum (fun i => rv A n (W i) x * (ind (cols.getD i 0) y * f y)) ρ.length + (-d) * (ind x y * f y)) col := ssum_congr fun y _ => by
      have : ssum (fun i => rv A n (W i) x * (ind (cols.getD i 0) y * f y)) ρ.length = f y * ssum (fun i => rv A n (W i) x * ind (cols.getD i 0) y) ρ.length := by
        rw [← ssum_mul]
        exact ssum_congr fun i _ => by grind
      rw [this]; grind
    rw [e1, ssum_add, ssum_mul, ind_sum (f := f) hx, ssum_swap]
    have e2 : ssum (fun i => ssum (fun y => rv A n (W i) x * (ind (cols.getD i 0) y * f y)) col) ρ.length = ssum (fun i => rv A n (W i) x * f (cols.getD i 0)) ρ.length := ssum_congr fun i hi => by
      rw [ssum_mul, ind_sum (f := f) (t.cl _ (cm i hi))]
    rw [e2]; grind
  refine Int.eq_of_mul_eq_mul_left t.d0 ?_
  rw [Int.mul_zero, gen (A k), Int.mul_sub]
  have b1 := t.back hk hx
  have e3 : ssum (fun i => rv A n (W i) x * A k (cols.getD i 0)) ρ.length = d * A k x := by
    rw [b1]
    exact ssum_congr fun i _ => Int.mul_comm _ _
  rw [e3]; grind
theorem Turn.kvSol (t : Turn A n col ρ cols q d W) (h : ∀ i, ρ.length ≤ i → i < n → rv A n (W i) col = 0) : Sol A n col (kvk A n W cols col cols.length) d := fun k hk => by
  have := (t.skip h).kernelE (x := col) (by omega) k hk
  have e : ssum (fun y => A k y * (kvk A n W cols col cols.length y - d * ind col y)) (col + 1) = ssum (fun y => A k y * (kvk A n W cols col cols.length y - d * ind col y)) col + A k col * (kvk A n W cols col cols.length col - d * ind col col) := rfl
  have e1 : ssum (fun y => A k y * (kvk A n W cols col cols.length y - d * ind col y)) col = ssum (fun y => A k y * kvk A n W cols col cols.length y) col := ssum_congr fun y hy => by
    have : ind col y = 0 := by unfold ind; rw [if_neg (by omega)]
    rw [this]; grind
  have e2 : kvk A n W cols col cols.length col = 0 := ssum_zero fun i hi => by
    have hm : cols.getD i 0 ∈ cols := by rw [List.getD_eq_getElem?_getD, List.getElem?_eq_getElem hi]; exact List.getElem_mem hi
    have : ind (cols.getD i 0) col = 0 := by unfold ind; rw [if_neg (by have := t.cl _ hm; omega)]
    rw [this, Int.mul_zero]
  have e3 : ind col col = 1 := by unfold ind; rw [if_pos rfl]
  rw [e, e1, e2, e3] at this
  have : A k col * (0 - d * 1) = -(d * A k col) := by grind
  omega
theorem Turn.less (t : Turn A n col ρ cols q d W) {z : Row} (hz : ∀ k, k < n → ssum (fun y => A k y * z y) col = 0) {x : Nat} (hx : x < col) (hn : z x ≠ 0) : cols ≠ List.range col := fun hc => by
  have := t.told hc (z := z) (N := 0) (fun k hk => by rw [hz k hk, Int.zero_mul]) hx
  rw [Int.zero_mul] at this
  rcases Int.mul_eq_zero.mp this with e | e
  · exact t.d0 e
  · exact hn e
theorem St.absd (s : St A n ρ cols q d W) {m : Nat} {B : Int} (b : Bd A n m B) (hc : ∀ c ∈ cols, c < m) (hr : ρ.length ≤ 12) : Ab d ((12 * B) ^ ρ.length) := by
  have ρn : ∀ a ∈ ρ, a < n := fun a ha => by
    obtain ⟨j, hj, e⟩ := List.getElem_of_mem ha
    have := s.ρlt j hj
    rw [List.getD_eq_getElem?_getD, List.getElem?_eq_getElem hj] at this
    rw [← e]; exact this
  have := Ab.det b.b1 (ρ.map A) cols (fun x hx c hc' => by
    obtain ⟨a, ha, rfl⟩ := List.mem_map.mp hx
    exact b.ab a c (ρn a ha) (hc c hc')) (by rw [s.lc]; exact hr)
  rw [s.det, List.length_map] at this; exact this
end
end Bz
namespace Bz
theorem D_perm {xs ys : List Row} (h : xs.Perm ys) : ∃ e : Int, (e = 1 ∨ e = -1) ∧ ∀ cs, D xs cs = e * D ys cs := by
  induction h with
  | nil => exact ⟨1, .inl rfl, fun cs => by rw [Int.one_mul]⟩
  | cons x h ih =>
    rename_i l1 l2
    obtain ⟨e, he, h⟩ := ih
    refine ⟨e, he, fun cs => ?_⟩
    show Lx x (D l1) cs = e * Lx x (D l2) cs
    have : D l1 = fun t => e * D l2 t := funext h
    rw [this, Lx_mul]
  | swap x y l =>
    refine ⟨-1, .inr rfl, fun cs => ?_⟩
    show Lx y (Lx x (D l)) cs = -1 * Lx x (Lx y (D l)) cs
    rw [Lx_anti]; omega
  | trans _ _ ih1 ih2 =>
    obtain ⟨e, he, h⟩ := ih1
    obtain ⟨f, hf, h'⟩ := ih2
    refine ⟨e * f, ?_, fun cs => by rw [h, h', Int.mul_assoc]⟩
    rcases he with rfl | rfl <;> rcases hf with rfl | rfl <;> decide
def G (A : Nat → Row) (n : Nat) : Nat → Row := fun k j => ssum (fun i => A i k * A i j) n
theorem sq_nn (x : Int) : 0 ≤ x * x := by
  rcases Int.le_total 0 x with h | h
  · exact Int.mul_nonneg h h
  · have := Int.mul_nonneg (show 0 ≤ -x by omega) (show 0 ≤ -x by omega)
    rwa [Int.neg_mul_neg] at this
theorem sq_zero {f : Nat → Int} : ∀ {n : Nat}, ssum (fun i => f i * f i) n = 0 → ∀ i, i < n → f i = 0
  | 0, _, i, hi => absurd hi (Nat.not_lt_zero _)
  | n + 1, h, i, hi => by
    have nn : ∀ m, 0 ≤ ssum (fun i => f i * f i) m := fun m => by
      induction m with
      | zero => exact Int.le_refl _
      | succ m ih => exact Int.add_nonneg ih (sq_nn _)
    have h : ssum (fun i => f i * f i) n + f n * f n = 0 := h
    have h1 := nn n
    have h2 : 0 ≤ f n * f n := sq_nn _
    rcases Nat.lt_or_ge i n with z | z
    · exact sq_zero (by omega) i z
    · have : i = n := by omega
      subst this
      have h3 : f i * f i = 0 := by omega
      exact (Int.mul_eq_zero.mp h3).elim id id
theorem gram_ker {A : Nat → Row} {n u : Nat} {z : Row} (h : ∀ k, k < u → ssum (fun j => G A n k j * z j) u = 0) : ∀ i, i < n → ssum (fun x => A i x * z x) u = 0 := by
  refine sq_zero (f := fun i => ssum (fun x => A i x * z x) u) ?_
  have e : ssum (fun i => ssum (fun x => A i x * z x) u * ssum (fun x => A i x * z x) u) n = ssum (fun k => z k * ssum (fun j => G A n k j * z j) u) u := by
    have e1 : ∀ i, ssum (fun x => A i x * z x) u * ssum (fun x => A i x * z x) u = ssum (fun k => ssum (fun j => A i k * A i j * (z k * z j)) u) u := fun i => by
      rw [← ssum_mul]
      refine ssum_congr fun k _ => ?_
      rw [Int.mul_comm, ← ssum_mul]
      exact ssum_congr fun j _ => by grind
    rw [ssum_congr fun i _ => e1 i, ssum_swap]
    refine ssum_congr fun k _ => ?_
    rw [ssum_swap, ← ssum_mul]
    refine ssum_congr fun j _ => ?_
    show ssum (fun i => A i k * A i j * (z k * z j)) n = z k * (ssum (fun i => A i k * A i j) n * z j)
    have : z k * (ssum (fun i => A i k * A i j) n * z j) = (z k * z j) * ssum (fun i => A i k * A i j) n := by grind
    rw [this, ← ssum_mul]
    exact ssum_congr fun i _ => by grind
  rw [e]
  exact ssum_zero fun k hk => by rw [h k hk, Int.mul_zero]
theorem map_two {A : Nat → Row} {l : List Nat} {i j : Nat} (hij : i < j) (hj : j < l.length) (e : l[i]'(by omega) = l[j]) (cs : List Nat) : D (l.map A) cs = 0 := by
  have s1 := split_at (l := l) (k := i) (by omega)
  have hk : j - (i + 1) < (l.drop (i + 1)).length := by rw [List.length_drop]; omega
  have s2 := split_at hk
  have g : (l.drop (i + 1))[j - (i + 1)] = l[j] := by
    rw [List.getElem_drop]
    congr 1
    omega
  rw [g, ← e] at s2
  rw [s2] at s1
  have : l.map A = (l.take i).map A ++ A (l[i]'(by omega)) :: (((l.drop (i + 1)).take (j - (i + 1))).map A ++ A (l[i]'(by omega)) :: ((l.drop (i + 1)).drop (j - (i + 1) + 1)).map A) := by
    have := congrArg (List.map A) s1
    rw [this]
    simp
  rw [this]
  exact D_two _ _ _ _ _
theorem gram_ne {A : Nat → Row} {n u : Nat} {ρ cols : List Nat} {q : Nat → Nat} {d : Int} {W : Nat → Row} (t : Turn A n u ρ cols q d W) (hc : cols = List.range u) : D ((List.range u).map (G A n)) (List.range u) ≠ 0 := by
  obtain ⟨ρ', cols', q', d', W', t'⟩ := Turn.exists (A := G A n) (n := u) u
  have s := t'.st
  have d0 := t'.d0
  have lc := s.lc
  rcases t'.all with e | ⟨y, h1, h2⟩
  · have ru : ρ'.length = u := by rw [← lc, e, List.length_range]
    have det := s.det
    rw [e] at det
    have nd : ρ'.Nodup := List.pairwise_iff_getElem.mpr fun i j hi hj hij z => by
      have := map_two (A := G A n) hij hj z (List.range u)
      rw [this] at det
      exact d0 det.symm
    have pm : ρ'.Perm (List.range u) := by
      rw [List.perm_ext_iff_of_nodup nd List.nodup_range]
      intro a
      rw [List.mem_range]
      constructor
      · intro ha
        obtain ⟨j, hj, e⟩ := List.getElem_of_mem ha
        have := s.ρlt j hj
        rw [List.getD_eq_getElem?_getD, List.getElem?_eq_getElem hj] at this
        rw [← e]; exact this
      · intro ha
        obtain ⟨i, hi, e⟩ := t'.sur a ha
        rw [t'.piv i (by omega), List.getD_eq_getElem?_getD, List.getElem?_eq_getElem (by omega)] at e
        rw [← e]
        exact List.getElem_mem _
    obtain ⟨e, he, hd⟩ := D_perm (pm.map (G A n))
    rw [hd] at det
    intro z
    rw [z, Int.mul_zero] at det
    exact d0 det.symm
  · obtain ⟨z, z1, z2⟩ := t'.kernel h1 h2
    exact absurd hc (t.less (gram_ker z2) h1 (by rw [z1]; omega))
end Bz
set_option maxRecDepth 100000
set_option maxHeartbeats 4000000
seal L2.JE L2.JT L2.JW L2.JA L2.JS L2.JSs L2.JI L2.JK L2.JXs L2.JXi
local macro_rules | `(tactic| walk_at "vc") => `(tactic| dsimp only [L2.gN, L2.sFor, L2.iRng, L2.dFz, L2.sSeq, L2.sNext, L2.sIf, L2.sRet, L2.sSet, L2.sDrop, L2.sRaise, L2.dCall, L2.dFn, L2.dOp, L2.dUn, L2.dVar, L2.dC, L2.aNil, L2.aCons, L2.dTup, L2.dLst, L2.tstD, L2.orT, L2.notT, L2.dAnd, L2.dNot, L2.startD, List.map_cons, List.map_nil, List.length_cons, List.length_nil, List.cons_append, List.nil_append, List.replicate, List.getElem?_cons_zero, List.getElem?_cons_succ, List.set_cons_zero, List.set_cons_succ, Nat.reduceSub, Nat.reduceAdd, Nat.zero_add])
namespace Pg
open PySem L2
def top (i : Nat) : Stmt := PySem.Challenge.pw_chanceduel_k14_whole_any_rows.main.body.getD i (.Pass ⟨0, 0, 0, 0⟩)
def cls (i j : Nat) : Stmt := match top i with
  | .ClassDef _ _ _ b _ _ _ _ _ _ _ => b.getD j (.Pass ⟨0, 0, 0, 0⟩)
  | _ => .Pass ⟨0, 0, 0, 0⟩
abbrev sCommonDivisor : Stmt := top 6
abbrev sFraction : Stmt := top 7
abbrev sWithWeights : Stmt := top 9
abbrev sNumberOfHead : Stmt := top 10
abbrev sMovedAhead : Stmt := top 11
abbrev sClearedLine : Stmt := top 12
abbrev sCleared : Stmt := top 13
abbrev sQuotients : Stmt := top 14
abbrev sStillOf : Stmt := top 15
abbrev sAnswerOf : Stmt := top 16
abbrev sLawAt : Stmt := top 18
abbrev sLawNumber : Stmt := top 19
abbrev sLawRows : Stmt := top 20
abbrev sLawDet : Stmt := top 21
abbrev sLawJustOne : Stmt := top 22
abbrev sLawLowest : Stmt := top 23
abbrev sLawWhole : Stmt := top 24
abbrev sLawFractions : Stmt := top 25
abbrev sLawComes : Stmt := top 26
abbrev sLawWeighed : Stmt := top 27
abbrev sLaw : Stmt := top 28
abbrev sNoanswerInit : Stmt := cls 3 0
abbrev sManyanswersInit : Stmt := cls 4 0
end Pg
namespace Pg
open PySem L2 Fr0 Tx
abbrev VB : List Value := [.type "ValueError", .type "Exception", .type "BaseException", .type "object"]
structure Ev (K : PySem.W.Frag) (mg : Str → Option Value) (CN Ca Cb Cc : Addr) : Prop where
  n_len : mg "len" = none
  n_abs : mg "abs" = none
  n_isinstance : mg "isinstance" = none
  n_int : mg "int" = none
  n_bool : mg "bool" = none
  n_str : mg "str" = none
  n_tuple : mg "tuple" = none
  n_list : mg "list" = none
  n_range : mg "range" = none
  n_enumerate : mg "enumerate" = none
  n_any : mg "any" = none
  n_all : mg "all" = none
  n_sum : mg "sum" = none
  n_zip : mg "zip" = none
  n_max : mg "max" = none
  n_min : mg "min" = none
  n_ValueError : mg "ValueError" = none
  ib : PySem.W.kitOne K (.type "int") (.type "bool") = some false
  kis : PySem.W.kitOne K (.type "int") (.type "str") = some false
  kts : PySem.W.kitOne K (.type "tuple") (.type "str") = some false
  kti : PySem.W.kitOne K (.type "tuple") (.type "int") = some false
  kls : PySem.W.kitOne K (.type "list") (.type "str") = some false
  kli : PySem.W.kitOne K (.type "list") (.type "int") = some false
  ktl : PySem.W.kitOne K (.type "tuple") (.type "list") = some false
  klt : PySem.W.kitOne K (.type "list") (.type "tuple") = some false
  mNoNumber : mg "NoNumber" = some (.ref CN)
  mDuelError : mg "DuelError" = some (.ref Ca)
  mNoAnswer : mg "NoAnswer" = some (.ref Cb)
  mManyAnswers : mg "ManyAnswers" = some (.ref Cc)
  eNoNumber : ExcCls K CN VB "ValueError.__new__"
  eDuelError : ExcCls K Ca VB "ValueError.__new__"
  iDuelError : InitOf K Ca "ValueError.__init__"
  tNoAnswer : ExcTy K Cb
  sNoAnswer : PySem.W.subIn K (.ref Cb) (.ref Ca) = some true
  kv_NoAnswer : PySem.W.kitOne K (.ref Cb) (.type "ValueError") = some true
  k_NoAnswer_weights : NoTak K Cb "weights"
  x_NoAnswer_weights : XAt K Cb "weights"
  kx_NoAnswer_NoNumber : PySem.W.kitOne K (.ref Cb) (.ref CN) = some false
  kx_NoAnswer_ManyAnswers : PySem.W.kitOne K (.ref Cb) (.ref Cc) = some false
  tManyAnswers : ExcTy K Cc
  sManyAnswers : PySem.W.subIn K (.ref Cc) (.ref Ca) = some true
  kv_ManyAnswers : PySem.W.kitOne K (.ref Cc) (.type "ValueError") = some true
  k_ManyAnswers_answer : NoTak K Cc "answer"
  x_ManyAnswers_answer : XAt K Cc "answer"
  k_ManyAnswers_still : NoTak K Cc "still"
  x_ManyAnswers_still : XAt K Cc "still"
  kx_ManyAnswers_NoNumber : PySem.W.kitOne K (.ref Cc) (.ref CN) = some false
  kx_ManyAnswers_NoAnswer : PySem.W.kitOne K (.ref Cc) (.ref Cb) = some false
theorem k_self {K : PySem.W.Frag} {T : String} : PySem.W.kitOne K (.type T) (.type T) = some true := by
  unfold PySem.W.kitOne
  rw [if_pos (beq_self_eq_true _)]
theorem kit_yes {K : PySem.W.Frag} {C : Addr} : PySem.W.kitOne K (.ref C) (.ref C) = some true := by
  unfold PySem.W.kitOne
  rw [if_pos (beq_self_eq_true _)]
end Pg
namespace Pg
open PySem L2 Fr0 Tx
section
variable {P : Program} {w : World} {K : PySem.W.Frag} {mg : Str → Option Value} {base : Heap} {CN Ca Cb Cc : Addr}
def TGcd : DF := fun ds M q _ => match ds with
  | [.int a, .int b] => q (.int (g a b)) M
  | _ => False
theorem scCommonDivisor : FnScope ["one", "other", "great", "small", "rest"] ["one", "other"] (defScope sCommonDivisor) := ⟨rfl, rfl, rfl, by decide +kernel, rfl, by decide +kernel, by decide +kernel⟩
theorem ok_CommonDivisor {f : Addr} {fd : FuncData} (F : Fun K "common_divisor" "common_divisor" sCommonDivisor f fd) (E : Ev K mg CN Ca Cb Cc)  : FnOk P w K mg base (CX1 P w) 1 f fd ["one", "other"] (spD K TGcd) := by
  refine F.okD scCommonDivisor (fun ds M q x h => ?_) (fun cdv A outer s H E' hr => ⟨_, (jss_cons (js_set (i := 2) scCommonDivisor.nd rfl (Or.inl rfl) (j_abs E.n_abs (ja_cons (jv 0) ja_nil (hs := starN))))
      (jss_cons (js_set (i := 3) scCommonDivisor.nd rfl (Or.inl rfl) (j_abs E.n_abs (ja_cons (jv 1) ja_nil (hs := starN))))
      (jss_cons (js_while (jt_ne hr (jv 3) jint) (jss_cons (js_set (i := 4) scCommonDivisor.nd rfl (Or.inl rfl) (j_mod (jv 2) (jv 3)))
      (jss_cons (js_set (i := 2) scCommonDivisor.nd rfl (Or.inl rfl) (jv 3))
      (jss_one (js_set (i := 3) scCommonDivisor.nd rfl (Or.inl rfl) (jv 4))))))
      (jss_one (js_ret (jv 2)))))), fun ds M q x h => ?_⟩)
  · unfold TGcd at h; split at h; · rfl
    · exact h.elim
  · unfold TGcd at h
    split at h
    · rename_i a b
      refine ⟨fun m ρ M' => M' = M ∧ ∃ (x y : Int) (r : Option Dt), ρ = [some (.int a), some (.int b), some (.int x), some (.int y), r] ∧ 0 ≤ x ∧ 0 ≤ y ∧ g x y = g a b ∧ m = y.toNat, ⟨_, rfl, _, _, _, rfl, by split <;> omega, by split <;> omega, g_abs a b, rfl⟩, ?_⟩
      rintro m ρ M' ⟨rfl, x, y, r, rfl, hx, hy, e, rfl⟩
      refine ⟨fun hb => ?_, fun hb => ?_⟩
      · have hy0 : y ≠ 0 := by simpa using hb
        refine ⟨_, fun ρ' M2 h2 => h2, ?_⟩
        refine ⟨by omega, (x % y).toNat, ?_, rfl, y, x % y, _, rfl, hy, Int.emod_nonneg _ hy0, ?_, rfl⟩
        · have := Int.emod_lt_of_pos x (show 0 < y by omega)
          have := Int.emod_nonneg x hy0
          omega
        · rw [← Int.fmod_eq_emod_of_nonneg x hy, g_step (by omega)]; exact e
      · have hy0 : y = 0 := by simpa using hb
        subst hy0
        rw [g_zero hx] at e
        subst e
        exact h
    · exact h.elim
end
end Pg
namespace Pg
open PySem L2 Fr0 Tx
theorem bg {n : Int} {k : Nat} (h : n.natAbs < 2 ^ k) (hk : k ≤ 8000 := by decide) : Big n := Nat.lt_of_lt_of_le h (Nat.pow_le_pow_right (by decide) hk)
end Pg
namespace Pg
open PySem L2 Fr0 Tx
section
variable {P : Program} {w : World} {K : PySem.W.Frag} {mg : Str → Option Value} {base : Heap} {CN Ca Cb Cc : Addr}
theorem big_of_le {i j : Int} (h : Big j) (l : i.natAbs ≤ j.natAbs) : Big i := Nat.lt_of_le_of_lt l h
def TFrac (CN : Addr) : DF := fun ds M q x => match ds with
  | [.int t, .int b] => Big b ∧ (b = 0 → x CN [] M) ∧ (b ≠ 0 → q (.tup [.int (frac t b).1, .int (frac t b).2]) M)
  | _ => False
theorem scFraction : FnScope ["top", "bottom", "divisor"] ["top", "bottom"] (defScope sFraction) := ⟨rfl, rfl, rfl, by decide +kernel, rfl, by decide +kernel, by decide +kernel⟩
theorem ok_Fraction {f : Addr} {fd : FuncData} (F : Fun K "fraction" "fraction" sFraction f fd) (E : Ev K mg CN Ca Cb Cc) {fCommonDivisor : Addr} {dCommonDivisor : FuncData} (c_CommonDivisor : CalD P w K mg base 1 "common_divisor" ["one", "other"] TGcd fCommonDivisor dCommonDivisor) : FnOk P w K mg base (CX1 P w) 2 f fd ["top", "bottom"] (spD K (TFrac CN)) := by
  refine F.okD scFraction (fun ds M q x h => ?_) (fun cdv A outer s H E' hr => ⟨_, (jss_cons (js_if (jt_eq hr (jv 1) jint) (jss_one (js_raise raises1 PySem.F.excBase_ValueError E.eNoNumber E.mNoNumber (ja_cons jstr ja_nil (hs := starC)))) jss_nil)
      (jss_cons (js_set (i := 2) scFraction.nd rfl (Or.inl rfl) (j_fn c_CommonDivisor hr passes1 (ja_cons (jv 0) (ja_cons (jv 1) ja_nil (hs := starN)) (hs := starN))))
      (jss_cons (js_cut (js_if (jt_lt (jv 1) jint) (jss_one (js_set (i := 2) scFraction.nd rfl (Or.inl rfl) (j_neg (jv 2)))) jss_nil))
      (jss_one (js_ret (j_tup (ja_cons (j_divN (jv 0) (jv 2)) (ja_cons (j_divN (jv 1) (jv 2)) ja_nil (hs := starB)) (hs := starB)))))))), fun ds M q x h => ?_⟩)
  · unfold TFrac at h; split at h; · rfl
    · exact h.elim
  · unfold TFrac at h
    split at h
    · rename_i t b
      obtain ⟨hB, h0, h1⟩ := h
      refine ⟨fun hb => ?_, fun hb => ?_⟩
      · exact ⟨by decide, h0 (by simpa using hb)⟩
      · have hb0 : b ≠ 0 := by simpa using hb
        refine ⟨fun ρ M' => M' = M ∧ ρ = [some (.int t), some (.int b), some (.int (dv t b))], ⟨fun hn => ?_, fun hn => ?_⟩, ?_⟩
        · have hn' : b < 0 := by simpa using hn
          exact ⟨rfl, by unfold dv; rw [if_pos hn']; rfl⟩
        · have hn' : ¬ b < 0 := by simpa using hn
          exact ⟨rfl, by unfold dv; rw [if_neg hn']; rfl⟩
        · rintro ρ M' ⟨rfl, rfl⟩
          have hd := dv_ne (t := t) hb0
          have hbd : Big (dv t b) := big_of_le hB (dv_natAbs_le hb0)
          exact ⟨⟨hd, hbd⟩, ⟨hd, hbd⟩, (by show 2 ≤ sizeLine; decide), h1 hb0⟩
    · exact h.elim
end
end Pg
set_option maxRecDepth 100000
set_option maxHeartbeats 4000000
namespace Pg
open PySem L2 Fr0 Tx
theorem prd_self {α : Type} (f : α → Dt) : ∀ (xs ys : List α), (∀ x ∈ xs, x ∈ ys) → Paired (fun x a => x = f a ∧ a ∈ ys) (xs.map f) xs
  | [], _, _ => .nil
  | x :: xs, ys, h => .cons ⟨rfl, h x List.mem_cons_self⟩ (prd_self f xs ys fun y hy => h y (List.mem_cons_of_mem _ hy))
theorem fz_loc {M : Ms} {q : DQ} {ds : List Dt} (u : Dt.underL M.length ds) (h : q (.lst ds) M) : frzU M q (.loc M.length) (M ++ [.lst ds]) := fz_new (.newL (Nat.le_refl _) (by rw [Nat.sub_self]; rfl) (FrzL.old u)) h
theorem forD_map {g : Dt → En → (En → Prop) → Prop} {tb : DS} {Dn : DEnds} (J : List Dt → En → Ms → Prop)
    (step : ∀ x xs ρ M, J (x :: xs) ρ M → (∀ ρ M, J xs ρ M → forD g tb Dn xs ρ M) → g x ρ fun ρ' => tb { Dn with nx := forD g tb Dn xs, ct := forD g tb Dn xs, bk := Dn.nx } ρ' M)
    (fin : ∀ ρ M, J [] ρ M → Dn.nx ρ M) : ∀ (xs : List Dt) (ρ : En) (M : Ms), J xs ρ M → forD g tb Dn xs ρ M
  | [], ρ, M, h => fin _ _ h
  | x :: xs, ρ, M, h => step x xs ρ M h fun ρ' M' h' => forD_map J step fin xs ρ' M' h'
theorem rngD_cons {lo : Int} {n : Nat} {x : Dt} {xs : List Dt} (h : x :: xs = rngD lo n) : ∃ m, n = m + 1 ∧ x = .int lo ∧ xs = rngD (lo + 1) m := by
  cases n with
  | zero => exact nomatch h
  | succ m =>
    unfold rngD at h
    rw [List.range_succ_eq_map, List.map_cons, List.map_map] at h
    cases h
    refine ⟨m, rfl, by simp, ?_⟩
    unfold rngD
    apply List.map_congr_left
    intro k _
    show Dt.int (lo + ((k + 1 : Nat) : Int)) = Dt.int (lo + 1 + (k : Int))
    congr 1
    omega
theorem rngD_mem {lo : Int} {n : Nat} {x : Dt} (h : x ∈ rngD lo n) : ∃ k : Nat, k < n ∧ x = .int (lo + k) := by
  unfold rngD at h
  obtain ⟨k, hk, rfl⟩ := List.mem_map.mp h
  exact ⟨k, List.mem_range.mp hk, rfl⟩
theorem rngD_len {lo : Int} {n : Nat} : (rngD lo n).length = n := by unfold rngD; simp
theorem ix_nat {n p : Nat} (h : p < n) : ixN n (p : Int) = some p := by
  unfold ixN
  rw [if_pos (by omega), if_pos (by omega), Int.toNat_natCast]
theorem ints_un {n : Nat} : ∀ (xs : List Int), Dt.underL n (xs.map Dt.int)
  | [] => trivial
  | _ :: xs => ⟨trivial, ints_un xs⟩
theorem int_at {xs : List Int} {j : Nat} (h : j < xs.length) : atI (xs.map Dt.int) (j : Int) = some (.int xs[j]) := atI_nat (by rw [List.getElem?_map, List.getElem?_eq_getElem h]; rfl)
theorem lstR_seq {M : Ms} {d : Dt} {xs : List Dt} (h : lstR M d = some xs) : seqD M d = some xs := by
  cases d <;> first | exact h | cases h
theorem lstR_Q {M : Ms} {d : Dt} {xs : List Dt} (h : lstR M d = some xs) : lstQ M d = some xs := by
  cases d <;> first | exact h | cases h
theorem lstR_kind {M : Ms} {d : Dt} {xs : List Dt} (h : lstR M d = some xs) : kindM M d = some (.type "list") := by
  cases d with
  | lst ds => rfl
  | loc k =>
    have h : (match M[k]? with | some (.lst xs) => some xs | _ => none) = some xs := h
    show (match M[k]? with | some (.lst _) => some (Value.type "list") | _ => none) = _
    split at h
    · rfl
    · cases h
  | _ => cases h
theorem at_new {M : Ms} {o : MO} : (M ++ [o])[M.length]? = some o := by simp
theorem lstR_at {M : Ms} {k : Nat} {xs : List Dt} (h : M[k]? = some (MO.lst xs)) : lstR M (.loc k) = some xs := by
  show (match M[k]? with | some (MO.lst xs) => some xs | _ => none) = some xs
  rw [h]
theorem compK_pair {α : Type} {te : DE} {cs : En} {ok : Ms → Prop} {F : Dt → α → Prop} {f : α → Dt} {M : Ms} {k : List Dt → Ms → Prop} (ho : ok M) (ht : ∀ x a, F x a → ∀ q : DQ, q (f a) M → te (some x :: cs) M q noX) : ∀ {xs : List Dt} {as : List α} {acc : List Dt}, Paired F xs as → k (acc ++ as.map f) M → compK te cs ok xs acc M k
  | _, _, acc, .nil, h => ⟨ho, by simpa using h⟩
  | _, _, acc, .cons r t, h => ⟨ho, ht _ _ r _ (compK_pair ho ht t (by simpa using h))⟩
theorem set_new {M : Ms} {a c : MO} : (M ++ [a]).set M.length c = M ++ [c] := by simp [List.set_append]
theorem at_mid {M E : Ms} {o : MO} : (M ++ o :: E)[M.length]? = some o := by simp
theorem set_mid {M E : Ms} {o c : MO} : (M ++ o :: E).set M.length c = M ++ c :: E := by simp [List.set_append]
abbrev ilD (l : List Int) : Dt := .lst (l.map Dt.int)
abbrev mlD (ls : List (List Int)) : Dt := .lst (ls.map ilD)
theorem ml_at {ls : List (List Int)} {j : Nat} (h : j < ls.length) : atI (ls.map ilD) (j : Int) = some (ilD ls[j]) := atI_nat (by rw [List.getElem?_map, List.getElem?_eq_getElem h]; rfl)
theorem mls_un {n : Nat} : ∀ (ls : List (List Int)), Dt.underL n (ls.map ilD)
  | [] => trivial
  | l :: ls => ⟨ints_un l, mls_un ls⟩
abbrev unitL := Bz.unitL
theorem unit_set {n i : Nat} (h : i < n) : ((List.replicate (n : Int).toNat [Dt.int 0]).flatten).set i (Dt.int 1) = (unitL n i).map Dt.int := by
  have e : (List.replicate (n : Int).toNat [Dt.int 0]).flatten = List.replicate n (Dt.int 0) := by
    rw [show ((n : Int)).toNat = n by omega]
    clear h
    induction n with
    | zero => rfl
    | succ n ih => rw [List.replicate_succ, List.flatten_cons, ih]; rfl
  rw [e]
  unfold unitL Bz.unitL
  apply List.ext_getElem
  · simp
  · intro j h1 h2
    rw [List.getElem_set]
    simp only [List.getElem_replicate, List.getElem_map, List.getElem_range, Bz.ind]
    split <;> rfl
section
variable {P : Program} {w : World} {K : PySem.W.Frag} {mg : Str → Option Value} {base : Heap} {CN Ca Cb Cc : Addr}
def TWith : DF := fun as M q _ => ∃ rows : List (List Int), as = [mlD rows] ∧ rows.length ≤ 12 ∧ (∀ r ∈ rows, r.length ≤ 13) ∧ ∀ E, q (.loc M.length) (M ++ MO.lst (((List.range rows.length).map fun i => rows.getD i [] ++ unitL rows.length i).map ilD) :: E)
theorem scWithWeights : FnScope ["rows", "told", "number", "row", "weights"] ["rows"] (defScope sWithWeights) := ⟨rfl, rfl, rfl, by decide +kernel, rfl, by decide +kernel, by decide +kernel⟩
theorem ok_WithWeights {f : Addr} {fd : FuncData} (F : Fun K "with_weights" "with_weights" sWithWeights f fd) (E : Ev K mg CN Ca Cb Cc)  : FnOk P w K mg base (CX1 P w) 1 f fd ["rows"] (spD K TWith) := by
  refine F.okD scWithWeights (fun ds M q x h => ?_) (fun cdv A outer s H E' hr => ⟨_, (jss_cons (js_set (i := 1) scWithWeights.nd rfl (Or.inl rfl) (j_lstM ja_nil))
      (jss_cons (js_forK (jk_enum E.n_enumerate (ja_cons (jv 0) ja_nil (hs := starN))) (pg_tup rfl (pgs_cons (pg_name (i := 2) scWithWeights.nd rfl (Or.inl rfl)) (pgs_cons (pg_name (i := 3) scWithWeights.nd rfl (Or.inl rfl)) pgs_nil))) gd_two (jss_cons (js_set (i := 4) scWithWeights.nd rfl (Or.inl rfl) (j_repM (j_const 3 (d := .lst [.int 0]) (by rfl)) (j_len E.n_len (ja_cons (jv 0) ja_nil (hs := starN)))))
      (jss_cons (js_setix (jv 4) (jv 2) jint)
      (jss_one (js_expr (j_append (jv 1) (ja_cons (j_catL (jv 3) (jv 4)) ja_nil (hs := starB))))))))
      (jss_one (js_ret (jv 1))))), fun ds M q x h => ?_⟩)
  · obtain ⟨rows, rfl, _⟩ := h; rfl
  · obtain ⟨rows, rfl, r12, r13, h⟩ := h
    refine ⟨by decide, ?_⟩
    refine ⟨mlD rows, rows.map ilD, fun _ => True, rfl, rfl, ?_⟩
    refine forK_map (fun xs ρ M' => ∃ (k : Nat) (rest : List (List Int)) (E : Ms) (o1 o2 o3 : Option Dt), xs = enumD k (rest.map ilD) ∧ rows.drop k = rest ∧ k ≤ rows.length ∧ M' = M ++ MO.lst (((List.range k).map fun i => rows.getD i [] ++ unitL rows.length i).map ilD) :: E ∧ ρ = [some (mlD rows), some (.loc M.length), o1, o2, o3]) (fun xs ρ M' hj => trivial) (fun x xs ρ M' hj nxt => ?_) (fun ρ M' hj => ?_) _ _ _ ⟨0, rows, [], none, none, none, rfl, rfl, Nat.zero_le _, rfl, rfl⟩
    · obtain ⟨k, rest, E, o1, o2, o3, ex, hd, hk, rfl, rfl⟩ := hj
      cases rest with
      | nil => cases ex
      | cons r rest =>
        cases ex
        have hk' : k < rows.length := by
          rcases Nat.lt_or_ge k rows.length with z | z
          · exact z
          · rw [List.drop_of_length_le z] at hd; cases hd
        have rk : rows[k] = r := by
          have := List.drop_eq_getElem_cons hk'
          rw [hd] at this
          exact (List.cons.inj this).1.symm
        have rg : rows.getD k [] = r := by rw [List.getD_eq_getElem?_getD, List.getElem?_eq_getElem hk', rk]; rfl
        have hr13 := r13 r (by rw [← rk]; exact List.getElem_mem hk')
        have hd' : rows.drop (k + 1) = rest := by
          have := List.drop_eq_getElem_cons hk'
          rw [hd] at this
          exact (List.cons.inj this).2.symm
        dsimp only [g2]
        walk_at "vc"
        refine (fLen_seq (d := mlD rows) (xs := rows.map ilD) rfl ?_ : fLen [mlD rows] _ _)
        rw [List.length_map]
        refine ⟨[.int 0], rows.length, rfl, rfl, by omega, by omega, ?_, ?_⟩
        · show 1 * ((rows.length : Int)).toNat ≤ sizeLine
          exact Nat.le_trans (show _ ≤ 12 by omega) (by decide)
        generalize hM2 : M ++ MO.lst (((List.range k).map fun i => rows.getD i [] ++ unitL rows.length i).map ilD) :: E = M2
        refine ⟨M2.length, k, _, k, rfl, rfl, at_new, ?_, ?_⟩
        · have : ((List.replicate (rows.length : Int).toNat [Dt.int 0]).flatten).length = rows.length := by
            have := congrArg List.length (unit_set hk')
            rw [List.length_set, List.length_map] at this
            rw [this]; unfold unitL Bz.unitL; simp
          rw [this]; exact ix_nat hk'
        rw [set_new, unit_set hk']
        subst hM2
        have eM : (M ++ MO.lst (((List.range k).map fun i => rows.getD i [] ++ unitL rows.length i).map ilD) :: E) ++ [MO.lst ((unitL rows.length k).map Dt.int)] = M ++ MO.lst (((List.range k).map fun i => rows.getD i [] ++ unitL rows.length i).map ilD) :: (E ++ [MO.lst ((unitL rows.length k).map Dt.int)]) := by simp
        have at3 : ((M ++ MO.lst (((List.range k).map fun i => rows.getD i [] ++ unitL rows.length i).map ilD) :: E) ++ [MO.lst ((unitL rows.length k).map Dt.int)])[M.length]? = some (.lst (((List.range k).map fun i => rows.getD i [] ++ unitL rows.length i).map ilD)) := by rw [eM]; exact at_mid
        refine ⟨⟨M.length, _, rfl, at3⟩, r.map Dt.int, (unitL rows.length k).map Dt.int, rfl, lstR_at at_new, ?_, M.length, _, _, rfl, rfl, at3, ?_, ?_⟩
        · rw [List.length_map, List.length_map]
          unfold unitL Bz.unitL
          rw [List.length_map, List.length_range]
          exact Nat.le_trans (show _ ≤ 30 by omega) (by decide)
        · rw [List.length_map, List.length_map, List.length_range]
          exact Nat.lt_of_le_of_lt (show k ≤ 12 by omega) (by decide)
        rw [eM, set_mid]
        refine nxt _ _ ⟨k + 1, rest, E ++ [MO.lst ((unitL rows.length k).map Dt.int)], _, _, _, rfl, hd', hk', ?_, rfl⟩
        rw [List.range_succ, List.map_append, List.map_append]
        simp only [List.map_cons, List.map_nil]
        rw [rg, ← List.map_append]
    · obtain ⟨k, rest, E, o1, o2, o3, ex, hd, hk, rfl, rfl⟩ := hj
      cases rest with
      | cons r rest => cases ex
      | nil =>
        have : k = rows.length := by
          have := congrArg List.length hd
          rw [List.length_drop] at this
          simp at this; omega
        subst this
        exact h E
def TNoh : DF := fun as M q _ => ∃ (ls : List (List Int)) (f c : Nat), as = [mlD ls, .int (f : Int), .int (c : Int)] ∧ f ≤ ls.length ∧ ls.length ≤ 12 ∧ (∀ l ∈ ls, c < l.length) ∧
  ((∀ (k : Nat), f ≤ k → k < ls.length → (ls.getD k []).getD c 0 = 0) → q .non M) ∧
  (∀ (k : Nat), f ≤ k → k < ls.length → (ls.getD k []).getD c 0 ≠ 0 → q (.int (k : Int)) M)
theorem scNumberOfHead : FnScope ["lines", "first", "column", "number"] ["lines", "first", "column"] (defScope sNumberOfHead) := ⟨rfl, rfl, rfl, by decide +kernel, rfl, by decide +kernel, by decide +kernel⟩
theorem ok_NumberOfHead {f : Addr} {fd : FuncData} (F : Fun K "number_of_head" "number_of_head" sNumberOfHead f fd) (E : Ev K mg CN Ca Cb Cc)  : FnOk P w K mg base (CX1 P w) 1 f fd ["lines", "first", "column"] (spD K TNoh) := by
  refine F.okD scNumberOfHead (fun ds M q x h => ?_) (fun cdv A outer s H E' hr => ⟨_, (jss_cons (js_for (ji_range2 E.n_range (ja_cons (jv 1) (ja_cons (j_len E.n_len (ja_cons (jv 0) ja_nil (hs := starN))) ja_nil (hs := starF)) (hs := starN))) (pg_name (i := 3) scNumberOfHead.nd rfl (Or.inl rfl)) gd_name (jss_one (js_if (jt_ne hr (j_ix (j_ix (jv 0) (jv 3)) (jv 2)) jint) (jss_one (js_ret (jv 3))) jss_nil)))
      (jss_one (js_ret jnon))), fun ds M q x h => ?_⟩)
  · obtain ⟨ls, f, c, rfl, _⟩ := h; rfl
  · obtain ⟨ls, f, c, rfl, hf, l12, hc, h1, h2⟩ := h
    walk_at "vc"
    dsimp only [iRng2D]
    walk_at "vc"
    refine (fLen_seq (d := mlD ls) (xs := ls.map ilD) rfl ?_ : fLen [mlD ls] _ _)
    rw [List.length_map]
    refine ⟨⟨by omega, by omega, by omega, by omega⟩, ?_⟩
    refine forD_map (fun zs ρ M' => M' = M ∧ ∃ (n k : Nat) (o : Option Dt), zs = rngD k n ∧ f ≤ k ∧ k + n = ls.length ∧ (∀ j, f ≤ j → j < k → (ls.getD j []).getD c 0 = 0) ∧ ρ = [some (mlD ls), some (.int (f : Int)), some (.int (c : Int)), o]) (fun x zs ρ M' hj nxt => ?_) (fun ρ M' hj => ?_) _ _ _ ⟨rfl, ls.length - f, f, none, ?_, Nat.le_refl _, by omega, fun j a b => absurd a (by omega), rfl⟩
    · obtain ⟨rfl, n, k, o, ex, hk, hn, hz, rfl⟩ := hj
      obtain ⟨m, rfl, rfl, rfl⟩ := rngD_cons ex
      have kl : k < ls.length := by omega
      have hl := hc _ (List.getElem_mem kl)
      have e1 : (ls.getD k []).getD c 0 = (ls[k])[c] := by
        rw [List.getD_eq_getElem?_getD, List.getD_eq_getElem?_getD, List.getElem?_eq_getElem kl]
        show ((ls[k])[c]?).getD 0 = _
        rw [List.getElem?_eq_getElem hl]; rfl
      walk_at "vc"
      refine (fIx_seq (d := mlD ls) rfl (ml_at kl) ?_ : fIx (mlD ls) (.int (k : Int)) _ _)
      refine (fIx_seq (d := ilD ls[k]) rfl (int_at hl) ?_ : fIx (ilD ls[k]) (.int (c : Int)) _ _)
      refine ⟨fun z => ?_, fun z => ?_⟩
      · have z : (!decide ((ls[k])[c] = 0)) = true := z
        refine h2 k hk kl ?_
        rw [e1]
        intro y
        rw [decide_eq_true y] at z; exact nomatch z
      · have z : (!decide ((ls[k])[c] = 0)) = false := z
        have z0 : (ls[k])[c] = 0 := by
          rcases Decidable.em ((ls[k])[c] = 0) with y | y
          · exact y
          · rw [decide_eq_false y] at z; exact nomatch z
        refine nxt _ _ ⟨rfl, m, k + 1, _, by simp, by omega, by omega, fun j a b => ?_, rfl⟩
        by_cases e : j = k
        · rw [e, e1]; exact z0
        · exact hz j a (by omega)
    · obtain ⟨rfl, n, k, o, ex, hk, hn, hz, rfl⟩ := hj
      have hn0 : n = 0 := by
        have := congrArg List.length ex
        unfold rngD at this
        simpa using this.symm
      exact h1 fun j a b => hz j a (by omega)
    · rw [show ((ls.length : Int) - (f : Int)).toNat = ls.length - f by omega]
abbrev movedL := Bz.movedL
def TMoved : DF := fun as M q _ => ∃ (ls : List (List Int)) (f k : Nat), as = [mlD ls, .int (f : Int), .int (k : Int)] ∧ f ≤ k ∧ k < ls.length ∧ ls.length ≤ 12 ∧ q (mlD (movedL ls f k)) M
theorem scMovedAhead : FnScope ["lines", "first", "number"] ["lines", "first", "number"] (defScope sMovedAhead) := ⟨rfl, rfl, rfl, by decide +kernel, rfl, by decide +kernel, by decide +kernel⟩
theorem ok_MovedAhead {f : Addr} {fd : FuncData} (F : Fun K "moved_ahead" "moved_ahead" sMovedAhead f fd) (E : Ev K mg CN Ca Cb Cc)  : FnOk P w K mg base (CX1 P w) 1 f fd ["lines", "first", "number"] (spD K TMoved) := by
  refine F.okD scMovedAhead (fun ds M q x h => ?_) (fun cdv A outer s H E' hr => ⟨_, (jss_one (js_ret (j_catL (j_catL (j_catL (je_fz (j_slToL (jv 0) (jv 1))) (j_lst (ja_cons (j_ix (jv 0) (jv 2)) ja_nil (hs := starX)))) (je_fz (j_slBothL (jv 0) (jv 1) (jv 2)))) (je_fz (j_slFromL (jv 0) (j_add (jv 2) jint)))))), fun ds M q x h => ?_⟩)
  · obtain ⟨ls, f, k, rfl, _⟩ := h; rfl
  · obtain ⟨ls, f, k, rfl, hf, hk, l12, h⟩ := h
    have gk : ls.getD k [] = ls[k] := by rw [List.getD_eq_getElem?_getD, List.getElem?_eq_getElem hk]; rfl
    have sz : ∀ {n : Nat}, n ≤ 40 → n ≤ sizeLine := fun h => Nat.le_trans h (by decide)
    refine ⟨ls.map ilD, f, rfl, rfl, ?_⟩
    rw [← List.map_take]
    refine fz_loc (mls_un _) ?_
    walk_at "vc"
    refine (fIx_seq (d := mlD ls) rfl (ml_at hk) ?_ : fIx (mlD ls) (.int (k : Int)) _ _)
    refine ⟨sz (by show 1 ≤ 40; decide), (ls.take f).map ilD, [ilD ls[k]], rfl, rfl, sz (by simp; omega), ?_⟩
    refine ⟨f, rfl, ls.map ilD, k, rfl, rfl, ?_⟩
    rw [← List.map_drop, ← List.map_take]
    refine fz_loc (mls_un _) ?_
    refine ⟨(ls.take f).map ilD ++ [ilD ls[k]], ((ls.drop f).take (k - f)).map ilD, rfl, rfl, sz (by simp; omega), ?_⟩
    refine ⟨ls.map ilD, k + 1, rfl, rfl, ?_⟩
    rw [← List.map_drop]
    refine fz_loc (mls_un _) ?_
    refine ⟨(ls.take f).map ilD ++ [ilD ls[k]] ++ ((ls.drop f).take (k - f)).map ilD, (ls.drop (k + 1)).map ilD, rfl, rfl, sz (by simp; omega), ?_⟩
    unfold movedL Bz.movedL at h
    rw [gk] at h
    have e : (ls.take f).map ilD ++ [ilD ls[k]] ++ ((ls.drop f).take (k - f)).map ilD ++ (ls.drop (k + 1)).map ilD = (ls.take f ++ [ls[k]] ++ (ls.drop f).take (k - f) ++ ls.drop (k + 1)).map ilD := by
      rw [List.map_append, List.map_append, List.map_append]; rfl
    rw [e]; exact h
abbrev clearL := Bz.clearL
def TClear : DF := fun as M q _ => ∃ (l h : List Int) (c : Nat) (d : Int), as = [ilD l, ilD h, .int (c : Int), .int d] ∧ l.length = h.length ∧ h.length ≤ 30 ∧ c < h.length ∧ (∀ x ∈ l, Big x) ∧ (∀ x ∈ h, Big x) ∧ d ≠ 0 ∧ Big d ∧ q (ilD (clearL l h c d)) M
theorem scClearedLine : FnScope ["line", "head", "column", "divisor"] ["line", "head", "column", "divisor"] (defScope sClearedLine) := ⟨rfl, rfl, rfl, by decide +kernel, rfl, by decide +kernel, by decide +kernel⟩
theorem ok_ClearedLine {f : Addr} {fd : FuncData} (F : Fun K "cleared_line" "cleared_line" sClearedLine f fd) (E : Ev K mg CN Ca Cb Cc)  : FnOk P w K mg base (CX1 P w) 1 f fd ["line", "head", "column", "divisor"] (spD K TClear) := by
  refine F.okD scClearedLine (fun ds M q x h => ?_) (fun cdv A outer s H E' hr => ⟨_, (jss_one (js_ret (j_comp2 (ys := ["divisor", "head", "column", "line"]) (caps := [3, 1, 2, 0]) ⟨rfl, by decide +kernel, by decide +kernel, (by show ∀ x : Str, x ∈ (["own", "other"] : List Str) → _; decide +kernel), (by show ∀ p : Str × NameKind, p ∈ _ → p.2 = NameKind.free → List.lookup p.1 (defScope sClearedLine).names = some .cell; decide +kernel), by decide +kernel, (by show ∀ q : Str × Nat, q ∈ _ → (["line", "head", "column", "divisor"] : List Str)[q.2]? = some q.1 ∧ List.lookup q.1 (defScope sClearedLine).names = some .cell ∧ _; decide +kernel), rfl⟩ (jk_zip E.n_zip (ja_cons (jv 0) (ja_cons (jv 1) ja_nil (hs := starN)) (hs := starN))) (fun C s H fp => (j_divN (j_sub (j_mul (j_ix (jv 3) (jv 4)) (jv 0)) (j_mul (j_ix (jv 5) (jv 4)) (jv 1))) (jv 2)))))), fun ds M q x h => ?_⟩)
  · obtain ⟨l, h', c, d, rfl, _⟩ := h; rfl
  · obtain ⟨l, hd, c, d, rfl, hl, h30, hc, bl, bh, d0, bd, h⟩ := h
    have cl : c < l.length := by omega
    have g1 : hd.getD c 0 = hd[c] := by rw [List.getD_eq_getElem?_getD, List.getElem?_eq_getElem hc]; rfl
    have g2' : l.getD c 0 = l[c] := by rw [List.getD_eq_getElem?_getD, List.getElem?_eq_getElem cl]; rfl
    refine ⟨ilD l, ilD hd, l.map Dt.int, hd.map Dt.int, fun _ => True, fun _ => True, rfl, rfl, rfl, ?_⟩
    have ez : zipD (l.map Dt.int) (hd.map Dt.int) = (l.zip hd).map fun p => .tup [.int p.1, .int p.2] := by
      unfold zipD
      rw [List.zip_map, List.map_map]; rfl
    rw [ez]
    refine ⟨?_, ?_⟩
    · rw [List.length_map, List.length_zip]; exact Nat.le_trans (show _ ≤ 30 by omega) (by decide)
    refine comp2_map ⟨trivial, trivial⟩ (fun x => match x with | .tup [.int a, .int b] => .int ((hd.getD c 0 * a - l.getD c 0 * b).fdiv d) | _ => .non) _ _ (fun x hx q' hq => ?_) ?_
    · obtain ⟨p, hp, rfl⟩ := List.mem_map.mp hx
      have hq : q' (.int ((hd.getD c 0 * p.1 - l.getD c 0 * p.2).fdiv d)) M := hq
      have p1 := bl p.1 (List.of_mem_zip hp).1
      have p2 := bh p.2 (List.of_mem_zip hp).2
      rw [g1, g2'] at hq
      have key : fIx (ilD hd) (.int (c : Int)) M (fun x M1 => fMul x (.int p.1) M1 fun y M2 => fIx (ilD l) (.int (c : Int)) M2 fun z M3 => fMul z (.int p.2) M3 fun u M4 => fSub y u M4 fun v M5 => fDivN v (.int d) M5 q') := by
        refine fIx_seq (d := ilD hd) rfl (int_at hc) ⟨⟨bh _ (List.getElem_mem hc), p1⟩, ?_⟩
        refine fIx_seq (d := ilD l) rfl (int_at cl) ⟨⟨bl _ (List.getElem_mem cl), p2⟩, ?_⟩
        exact ⟨⟨d0, bd⟩, hq⟩
      exact key
    · rw [List.nil_append, List.map_map]
      unfold clearL Bz.clearL at h
      rw [show ilD ((l.zip hd).map fun p => (hd.getD c 0 * p.1 - l.getD c 0 * p.2).fdiv d) = .lst ((l.zip hd).map fun p => Dt.int ((hd.getD c 0 * p.1 - l.getD c 0 * p.2).fdiv d)) by show Dt.lst _ = _; rw [List.map_map]; rfl] at h
      exact h
end
end Pg
set_option maxRecDepth 100000
set_option maxHeartbeats 4000000
namespace Pg
open PySem L2 Fr0 Tx
theorem pow_mono {a b : Int} (h0 : 0 ≤ a) (h : a ≤ b) : ∀ n : Nat, a ^ n ≤ b ^ n
  | 0 => by rw [Int.pow_zero, Int.pow_zero]; exact Int.le_refl _
  | n + 1 => by
    rw [Int.pow_succ, Int.pow_succ]
    exact Int.mul_le_mul (pow_mono h0 h n) h h0 (Int.pow_nonneg (by omega))
theorem ab_big {x B : Int} {r n : Nat} (h : Bz.Ab x (Bz.top B r)) (h1 : 1 ≤ B) (hB : B ≤ 2 ^ 450 ∨ (n ≤ 8 ∧ B ≤ 2 ^ 650)) (hr : r ≤ 12) (hn : r ≤ n) : Big x := by
  have key : Bz.top B r < ((2 ^ 8000 : Nat) : Int) := by
    rcases hB with hB | ⟨h8, hB⟩
    · have e1 : Bz.top B r ≤ (12 * B) ^ 15 := Bz.pow_le h1 (by omega)
      have e2 : (12 * B) ^ 15 ≤ (12 * 2 ^ 450) ^ 15 := pow_mono (by omega) (by omega) 15
      have e3 : ((12 * 2 ^ 450) ^ 15 : Int) < ((2 ^ 8000 : Nat) : Int) := by decide
      omega
    · have e1 : Bz.top B r ≤ (12 * B) ^ 11 := Bz.pow_le h1 (by omega)
      have e2 : (12 * B) ^ 11 ≤ (12 * 2 ^ 650) ^ 11 := pow_mono (by omega) (by omega) 11
      have e3 : ((12 * 2 ^ 650) ^ 11 : Int) < ((2 ^ 8000 : Nat) : Int) := by decide
      omega
  have : (x.natAbs : Int) < ((2 ^ 8000 : Nat) : Int) := by
    obtain ⟨a, b⟩ := h
    omega
  exact Int.ofNat_lt.mp this
section
variable {A : Nat → Bz.Row} {n col : Nat} {ρ cols : List Nat} {qq : Nat → Nat} {d : Int} {W : Nat → Bz.Row}
theorem line_big {m : Nat} {B : Int} (t : Bz.Turn A n col ρ cols qq d W) (b : Bz.Bd A n m B) (hB : B ≤ 2 ^ 450 ∨ (n ≤ 8 ∧ B ≤ 2 ^ 650)) (hm : col ≤ m) (hr : ρ.length ≤ 12) : (∀ i, i < n → ∀ x ∈ Bz.lineL A n m (W i), Big x) ∧ Big d := by
  obtain ⟨a1, a2, a3⟩ := t.st.abs b (fun c hc => Nat.lt_of_lt_of_le (t.cl c hc) hm) hr
  refine ⟨fun i hi x hx => ?_, ab_big a3 b.b1 hB hr t.st.rn⟩
  unfold Bz.lineL at hx
  rcases List.mem_append.mp hx with z | z
  · obtain ⟨y, hy, rfl⟩ := List.mem_map.mp z
    exact ab_big (a2 i y hi (List.mem_range.mp hy)) b.b1 hB hr t.st.rn
  · obtain ⟨y, hy, rfl⟩ := List.mem_map.mp z
    exact ab_big (a1 i y hi) b.b1 hB hr t.st.rn
end
abbrev Fr := Int × Int
def frD (p : Fr) : Dt := .tup [.int p.1, .int p.2]
def ntD (n : Nat) : Dt := .int n
theorem nats_un {n : Nat} : ∀ (l : List Nat), Dt.underL n (l.map ntD)
  | [] => trivial
  | _ :: l => ⟨trivial, nats_un l⟩
theorem mem_lines {A : Nat → Bz.Row} {n m : Nat} {W : Nat → Bz.Row} {l : List Int} (h : l ∈ Bz.linesL A n m W) : ∃ i, i < n ∧ l = Bz.lineL A n m (W i) := by
  unfold Bz.linesL at h
  obtain ⟨i, hi, e⟩ := List.mem_map.mp h
  exact ⟨i, List.mem_range.mp hi, e.symm⟩
theorem rep_flat {α : Type} (a : α) : ∀ u : Nat, (List.replicate u [a]).flatten = List.replicate u a
  | 0 => rfl
  | u + 1 => by rw [List.replicate_succ, List.flatten_cons, rep_flat a u]; rfl
structure RowsOk (rows : List (List Int)) (u : Nat) (B : Int) : Prop where
  n1 : 1 ≤ rows.length
  n12 : rows.length ≤ 12
  u12 : u ≤ 12
  ml : ∀ r ∈ rows, r.length = u + 1
  bd : Bz.Bd (Bz.arr rows) rows.length (u + 1) B
  b450 : B ≤ 2 ^ 450 ∨ (rows.length ≤ 8 ∧ B ≤ 2 ^ 650)
section
variable {P : Program} {w : World} {K : PySem.W.Frag} {mg : Str → Option Value} {base : Heap} {CN Ca Cb Cc : Addr}
def TCleared : DF := fun as M q _ => ∃ (rows : List (List Int)) (u : Nat) (B : Int), as = [mlD rows, .int (u : Int)] ∧ RowsOk rows u B ∧
  ∀ ρ cols qq d W, Bz.Turn (Bz.arr rows) rows.length u ρ cols qq d W → q (.tup [mlD (Bz.linesL (Bz.arr rows) rows.length (u + 1) W), .loc M.length]) (M ++ [.lst (cols.map ntD)])
theorem scCleared : FnScope ["rows", "unknowns", "lines", "columns", "divisor", "column", "rank", "number", "head", "above", "below"] ["rows", "unknowns"] (defScope sCleared) := ⟨rfl, rfl, rfl, by decide +kernel, rfl, by decide +kernel, by decide +kernel⟩
theorem ok_Cleared {f : Addr} {fd : FuncData} (F : Fun K "cleared" "cleared" sCleared f fd) (E : Ev K mg CN Ca Cb Cc) {fWithWeights : Addr} {dWithWeights : FuncData} (c_WithWeights : CalD P w K mg base 1 "with_weights" ["rows"] TWith fWithWeights dWithWeights) {fNumberOfHead : Addr} {dNumberOfHead : FuncData} (c_NumberOfHead : CalD P w K mg base 1 "number_of_head" ["lines", "first", "column"] TNoh fNumberOfHead dNumberOfHead) {fMovedAhead : Addr} {dMovedAhead : FuncData} (c_MovedAhead : CalD P w K mg base 1 "moved_ahead" ["lines", "first", "number"] TMoved fMovedAhead dMovedAhead) {fClearedLine : Addr} {dClearedLine : FuncData} (c_ClearedLine : CalD P w K mg base 1 "cleared_line" ["line", "head", "column", "divisor"] TClear fClearedLine dClearedLine) : FnOk P w K mg base (CX1 P w) 2 f fd ["rows", "unknowns"] (spD K TCleared) := by
  refine F.okD scCleared (fun ds M q x h => ?_) (fun cdv A outer s H E' hr => ⟨_, (jss_cons (js_set (i := 2) scCleared.nd rfl (Or.inl rfl) (je_fz (j_fn c_WithWeights hr passes1 (ja_cons (jv 0) ja_nil (hs := starN)))))
      (jss_cons (js_set (i := 3) scCleared.nd rfl (Or.inl rfl) (j_lstM ja_nil))
      (jss_cons (js_set (i := 4) scCleared.nd rfl (Or.inr rfl) jint)
      (jss_cons (js_for (ji_range E.n_range (ja_cons (jv 1) ja_nil (hs := starN))) (pg_name (i := 5) scCleared.nd rfl (Or.inr rfl)) gd_name (jss_cons (js_set (i := 6) scCleared.nd rfl (Or.inl rfl) (j_len E.n_len (ja_cons (jv 3) ja_nil (hs := starN))))
      (jss_cons (js_set (i := 7) scCleared.nd rfl (Or.inl rfl) (j_fn c_NumberOfHead hr passes1 (ja_cons (jv 2) (ja_cons (jv 6) (ja_cons (jv 5) ja_nil (hs := starN)) (hs := starN)) (hs := starN))))
      (jss_cons (js_if (jt_isN (jv 7) jnon) (jss_one js_continue) jss_nil)
      (jss_cons (js_set (i := 2) scCleared.nd rfl (Or.inl rfl) (j_fn c_MovedAhead hr passes1 (ja_cons (jv 2) (ja_cons (jv 6) (ja_cons (jv 7) ja_nil (hs := starN)) (hs := starN)) (hs := starN))))
      (jss_cons (js_set (i := 8) scCleared.nd rfl (Or.inr rfl) (j_ix (jv 2) (jv 6)))
      (jss_cons (js_setcompK (i := 9) scCleared.nd rfl (Or.inl rfl) (ys := ["head", "column", "divisor"]) (caps := [8, 5, 4]) ⟨rfl, by decide +kernel, by decide +kernel, rfl, (by show ∀ p : Str × NameKind, p ∈ _ → p.2 = NameKind.free → List.lookup p.1 (defScope sCleared).names = some .cell; decide +kernel), by decide +kernel, (by show ∀ q : Str × Nat, q ∈ _ → (["rows", "unknowns", "lines", "columns", "divisor", "column", "rank", "number", "head", "above", "below"] : List Str)[q.2]? = some q.1 ∧ List.lookup q.1 (defScope sCleared).names = some .cell ∧ _; decide +kernel), rfl⟩ (jk_seq (je_fz (j_slToL (jv 2) (jv 6)))) (fun C s H fp => (j_fn c_ClearedLine hr (passesN (P := P) (w := w)) (ja_cons (jv 0) (ja_cons (jv 1) (ja_cons (jv 2) (ja_cons (jv 3) ja_nil (hs := starN)) (hs := starN)) (hs := starN)) (hs := starN)))))
      (jss_cons (js_setcompK (i := 10) scCleared.nd rfl (Or.inl rfl) (ys := ["head", "column", "divisor"]) (caps := [8, 5, 4]) ⟨rfl, by decide +kernel, by decide +kernel, rfl, (by show ∀ p : Str × NameKind, p ∈ _ → p.2 = NameKind.free → List.lookup p.1 (defScope sCleared).names = some .cell; decide +kernel), by decide +kernel, (by show ∀ q : Str × Nat, q ∈ _ → (["rows", "unknowns", "lines", "columns", "divisor", "column", "rank", "number", "head", "above", "below"] : List Str)[q.2]? = some q.1 ∧ List.lookup q.1 (defScope sCleared).names = some .cell ∧ _; decide +kernel), rfl⟩ (jk_seq (je_fz (j_slFromL (jv 2) (j_add (jv 6) jint)))) (fun C s H fp => (j_fn c_ClearedLine hr (passesN (P := P) (w := w)) (ja_cons (jv 0) (ja_cons (jv 1) (ja_cons (jv 2) (ja_cons (jv 3) ja_nil (hs := starN)) (hs := starN)) (hs := starN)) (hs := starN)))))
      (jss_cons (js_set (i := 2) scCleared.nd rfl (Or.inl rfl) (j_catL (j_catL (jv 9) (j_lst (ja_cons (jv 8) ja_nil (hs := starN)))) (jv 10)))
      (jss_cons (js_set (i := 4) scCleared.nd rfl (Or.inr rfl) (j_ix (jv 8) (jv 5)))
      (jss_one (js_expr (j_append (jv 3) (ja_cons (jv 5) ja_nil (hs := starN)))))))))))))))
      (jss_one (js_ret (j_tup (ja_cons (jv 2) (ja_cons (jv 3) ja_nil (hs := starN)) (hs := starN))))))))), fun ds M q x h => ?_⟩)
  · obtain ⟨rows, u, B, rfl, _⟩ := h; rfl
  · obtain ⟨rows, u, B, rfl, ro, h⟩ := h
    have n1 := ro.n1
    have n12 := ro.n12
    have u12 := ro.u12
    refine ⟨rows, rfl, n12, fun r hr' => by rw [ro.ml r hr']; omega, fun E0' => ?_⟩
    rw [Bz.lines_start ro.ml]
    refine fz_new (d' := mlD (Bz.linesL (Bz.arr rows) rows.length (u + 1) fun i => Bz.ind i)) (.newL (Nat.le_refl _) (by simp) (FrzL.old (mls_un _))) ?_
    generalize hA : Bz.arr rows = A at *
    generalize hn : rows.length = n at *
    refine ⟨by decide, ?_⟩
    walk_at "vc"
    refine ⟨⟨by omega, by omega⟩, ?_⟩
    refine forD_map (fun zs ρ' M' => ∃ (c k : Nat) (ρ cols : List Nat) (qq : Nat → Nat) (d : Int) (W : Nat → Bz.Row) (o1 o2 o3 o4 o5 o6 : Option Dt), zs = rngD k c ∧ k + c = u ∧ Bz.Turn A n k ρ cols qq d W ∧ M' = M ++ [MO.lst (cols.map ntD)] ∧ ρ' = [some (mlD rows), some (.int (u : Int)), some (mlD (Bz.linesL A n (u + 1) W)), some (.loc M.length), some (.int d), o1, o2, o3, o4, o5, o6]) (fun x zs ρ' M' hj nxt => ?_) (fun ρ' M' hj => ?_) _ _ _ ⟨u, 0, [], [], id, 1, _, none, none, none, none, none, none, by simp, by simp, Bz.Turn.start, rfl, rfl⟩
    · obtain ⟨c, k, ρ, cols, qq, d, W, o1, o2, o3, o4, o5, o6, ex, hkc, t, rfl, rfl⟩ := hj
      obtain ⟨m, rfl, rfl, rfl⟩ := rngD_cons ex
      have lc : cols.length = ρ.length := t.st.lc
      have rn : ρ.length ≤ n := t.st.rn
      have hs1 : seqD (M ++ [MO.lst (cols.map ntD)]) (.loc M.length) = some (cols.map ntD) := lstR_seq (lstR_at at_new)
      walk_at "vc"
      refine (fLen_seq (d := .loc M.length) hs1 ?_ : fLen [.loc M.length] _ _)
      rw [List.length_map, lc]
      refine ⟨Bz.linesL A n (u + 1) W, ρ.length, k, rfl, by rw [Bz.lines_len]; exact rn, by rw [Bz.lines_len]; exact n12, fun l hl => ?_, fun hz => ?_, fun k' h1 h2 h0 => ?_⟩
      · obtain ⟨i, _, rfl⟩ := mem_lines hl
        rw [Bz.line_len]; omega
      · refine ⟨fun _ => ?_, fun z => (nomatch z)⟩
        refine nxt _ _ ⟨m, k + 1, ρ, cols, qq, d, W, _, _, _, _, _, _, by simp, by omega, t.skip fun i a b => ?_, rfl, rfl⟩
        have := hz i a (by rw [Bz.lines_len]; exact b)
        rw [Bz.lines_at b, Bz.line_at (by omega)] at this
        exact this
      · rw [Bz.lines_len] at h2
        rw [Bz.lines_at h2, Bz.line_at (show k < u + 1 by omega)] at h0
        refine ⟨fun z => (nomatch z), fun _ => ?_⟩
        refine ⟨Bz.linesL A n (u + 1) W, ρ.length, k', rfl, h1, by rw [Bz.lines_len]; exact h2, by rw [Bz.lines_len]; exact n12, ?_⟩
        rw [show movedL (Bz.linesL A n (u + 1) W) ρ.length k' = _ from Bz.lines_moved h1 h2]
        have t1 := t.move h1 h2
        have hrn : ρ.length < n := by omega
        have h0' : Bz.rv A n (W (Bz.rot ρ.length k' ρ.length)) k ≠ 0 := by
          have : Bz.rot ρ.length k' ρ.length = k' := by unfold Bz.rot; rw [if_neg (Nat.lt_irrefl _), if_pos rfl]
          rw [this]; exact h0
        clear h0 h1 h2 t
        generalize hW1 : (fun i => W (Bz.rot ρ.length k' i)) = W1 at *
        generalize hq1 : (fun i => qq (Bz.rot ρ.length k' i)) = q1 at *
        have e1 : W (Bz.rot ρ.length k' ρ.length) = W1 ρ.length := by rw [← hW1]
        rw [e1] at h0'
        obtain ⟨bl, bd⟩ := line_big t1 (m := u + 1) (by subst hA hn; exact ro.bd) (by subst hA hn; exact ro.b450) (by omega) (by omega)
        obtain ⟨W', t2, el⟩ := t1.step (m := u + 1) hrn (by omega) h0'
        have llen : (Bz.linesL A n (u + 1) W1).length = n := Bz.lines_len
        have hdg : (Bz.linesL A n (u + 1) W1)[ρ.length]'(by rw [llen]; exact hrn) = Bz.lineL A n (u + 1) (W1 ρ.length) := by
          have := Bz.lines_at (A := A) (m := u + 1) (W := W1) hrn
          rw [List.getD_eq_getElem?_getD, List.getElem?_eq_getElem (by rw [llen]; exact hrn)] at this
          exact this
        have clr : ∀ l ∈ Bz.linesL A n (u + 1) W1, ∀ q' : DQ, q' (ilD (clearL l (Bz.lineL A n (u + 1) (W1 ρ.length)) k d)) (M ++ [MO.lst (cols.map ntD)]) → TClear [ilD l, ilD (Bz.lineL A n (u + 1) (W1 ρ.length)), .int (k : Int), .int d] (M ++ [MO.lst (cols.map ntD)]) q' (fun C fs M' => noX [] C fs M') := fun l hl q' hq' => by
          obtain ⟨i, hi, rfl⟩ := mem_lines hl
          exact ⟨_, _, k, d, rfl, by rw [Bz.line_len, Bz.line_len], by rw [Bz.line_len]; omega, by rw [Bz.line_len]; omega, bl i hi, bl _ hrn, t1.d0, bd, hq'⟩
        walk_at "vc"
        refine (fIx_seq (d := mlD (Bz.linesL A n (u + 1) W1)) rfl (ml_at (by rw [llen]; exact hrn)) ?_ : fIx (mlD (Bz.linesL A n (u + 1) W1)) (.int (ρ.length : Int)) _ _)
        rw [hdg]
        have sz : ∀ {z : Nat}, z ≤ 40 → z ≤ sizeLine := fun h => Nat.le_trans h (by decide)
        refine ⟨(Bz.linesL A n (u + 1) W1).map ilD, ρ.length, rfl, rfl, ?_⟩
        rw [← List.map_take]
        refine fz_loc (mls_un _) ⟨sz (by rw [List.length_map, List.length_take]; omega), ?_⟩
        refine compK_pair (F := fun x a => x = ilD a ∧ a ∈ Bz.linesL A n (u + 1) W1) (f := fun l => ilD (clearL l (Bz.lineL A n (u + 1) (W1 ρ.length)) k d)) trivial (fun x a ha q' hq' => by obtain ⟨rfl, ha⟩ := ha; exact clr a ha q' hq') (prd_self ilD _ _ fun _ h => List.mem_of_mem_take h) ?_
        rw [List.nil_append]
        refine ⟨(Bz.linesL A n (u + 1) W1).map ilD, ρ.length + 1, rfl, rfl, ?_⟩
        rw [← List.map_drop]
        refine fz_loc (mls_un _) ⟨sz (by rw [List.length_map, List.length_drop]; omega), ?_⟩
        refine compK_pair (F := fun x a => x = ilD a ∧ a ∈ Bz.linesL A n (u + 1) W1) (f := fun l => ilD (clearL l (Bz.lineL A n (u + 1) (W1 ρ.length)) k d)) trivial (fun x a ha q' hq' => by obtain ⟨rfl, ha⟩ := ha; exact clr a ha q' hq') (prd_self ilD _ _ fun _ h => List.mem_of_mem_drop h) ?_
        rw [List.nil_append]
        refine ⟨by show 1 ≤ sizeLine; decide, _, _, rfl, rfl, sz (by simp; omega), _, _, rfl, rfl, sz (by simp; omega), ?_⟩
        have ek : k < (Bz.lineL A n (u + 1) (W1 ρ.length)).length := by rw [Bz.line_len]; omega
        have ev : (Bz.lineL A n (u + 1) (W1 ρ.length))[k] = Bz.rv A n (W1 ρ.length) k := by
          have := Bz.line_at (A := A) (n := n) (m := u + 1) (x := k) (w := W1 ρ.length) (by omega)
          rw [List.getD_eq_getElem?_getD, List.getElem?_eq_getElem ek] at this
          exact this
        refine fIx_seq (d := ilD (Bz.lineL A n (u + 1) (W1 ρ.length))) rfl (int_at ek) ?_
        rw [ev]
        refine ⟨⟨M.length, _, rfl, at_new⟩, M.length, _, _, rfl, rfl, at_new, ?_, ?_⟩
        · rw [List.length_map, lc]; exact Nat.lt_of_le_of_lt (show _ ≤ 12 by omega) (by decide)
        rw [set_new]
        have ee := congrArg (List.map ilD) el
        rw [List.map_append, List.map_append, List.map_map, List.map_map] at ee
        refine nxt _ _ ⟨m, k + 1, ρ ++ [q1 ρ.length], cols ++ [k], q1, _, W', some (.int (k : Int)), some (.int (ρ.length : Int)), some (.int (k' : Int)), some (ilD (Bz.lineL A n (u + 1) (W1 ρ.length))), some (.lst (((Bz.linesL A n (u + 1) W1).take ρ.length).map fun l => ilD (clearL l (Bz.lineL A n (u + 1) (W1 ρ.length)) k d))), some (.lst (((Bz.linesL A n (u + 1) W1).drop (ρ.length + 1)).map fun l => ilD (clearL l (Bz.lineL A n (u + 1) (W1 ρ.length)) k d))), by simp, by omega, t2, by simp [ntD], ?_⟩
        show _ = [some (mlD rows), some (Dt.int (u : Int)), some (Dt.lst ((Bz.linesL A n (u + 1) W').map ilD)), some (Dt.loc M.length), some (Dt.int _), _, _, _, _, _, _]
        rw [← ee]
        rfl
    · obtain ⟨c, k, ρ, cols, qq, d, W, o1, o2, o3, o4, o5, o6, ex, hkc, t, rfl, rfl⟩ := hj
      have hn0 : c = 0 := by
        have := congrArg List.length ex
        unfold rngD at this
        simpa using this.symm
      have : k = u := by omega
      subst this
      exact ⟨by show 2 ≤ sizeLine; decide, h _ _ _ _ _ t⟩
end
end Pg
set_option maxRecDepth 100000
set_option maxHeartbeats 4000000
namespace Pg
open PySem L2 Fr0 Tx
def quoK (A : Nat → Bz.Row) (n : Nat) (W : Nat → Bz.Row) (d : Int) (cols : List Nat) (s u : Nat) : Nat → List Fr
  | 0 => List.replicate u (0, 1)
  | k + 1 => (quoK A n W d cols s u k).set (cols.getD k 0) (frac (Bz.rv A n (W k) s) d)
theorem quo_len {A : Nat → Bz.Row} {n : Nat} {W : Nat → Bz.Row} {d : Int} {cols : List Nat} {s u : Nat} : ∀ k, (quoK A n W d cols s u k).length = u
  | 0 => by simp [quoK]
  | k + 1 => by rw [quoK, List.length_set]; exact quo_len k
def quoL (A : Nat → Bz.Row) (n : Nat) (W : Nat → Bz.Row) (d : Int) (cols : List Nat) (s u : Nat) : List Fr := quoK A n W d cols s u cols.length
theorem flat_nats : ∀ gs : List Nat, flatDs (gs.map ntD) = some (gs.map fun g : Nat => V.int (g : Int))
  | [] => rfl
  | g :: gs => by
    show (match flatD (ntD g), flatDs (gs.map ntD) with | some v, some vs => some (v :: vs) | _, _ => none) = _
    rw [flat_nats gs]; rfl
theorem in_nats (p : Nat) : ∀ gs : List Nat, inV (.int (p : Int)) (gs.map fun g : Nat => V.int (g : Int)) = decide (p ∈ gs)
  | [] => rfl
  | g :: gs => by
    show (((g : Int) == (p : Int)) || inV (.int (p : Int)) (gs.map fun g : Nat => V.int (g : Int))) = _
    rw [in_nats p gs]
    by_cases h : g = p
    · subst h; simp
    · have h1 : ((g : Int) == (p : Int)) = false := by simpa using fun z : (g : Int) = p => h (by omega)
      rw [h1, Bool.false_or]
      have : (p ∈ g :: gs) ↔ p ∈ gs := ⟨fun z => (List.mem_cons.mp z).resolve_left (fun e => h e.symm), List.mem_cons_of_mem _⟩
      simp [this]
section
variable {P : Program} {w : World} {K : PySem.W.Frag} {mg : Str → Option Value} {base : Heap} {CN Ca Cb Cc : Addr}
def TQuo : DF := fun as M q _ => ∃ (rows : List (List Int)) (u s : Nat) (B : Int) (ρ cols : List Nat) (qq : Nat → Nat) (d : Int) (W : Nat → Bz.Row), as = [mlD (Bz.linesL (Bz.arr rows) rows.length (u + 1) W), .lst (cols.map ntD), .int (u : Int), .int (s : Int)] ∧ s ≤ u ∧ RowsOk rows u B ∧ Bz.Turn (Bz.arr rows) rows.length u ρ cols qq d W ∧
  q (.loc M.length) (M ++ [.lst ((quoL (Bz.arr rows) rows.length W d cols s u).map frD)])
theorem scQuotients : FnScope ["lines", "columns", "unknowns", "source", "told", "line", "column"] ["lines", "columns", "unknowns", "source"] (defScope sQuotients) := ⟨rfl, rfl, rfl, by decide +kernel, rfl, by decide +kernel, by decide +kernel⟩
theorem ok_Quotients {f : Addr} {fd : FuncData} (F : Fun K "quotients" "quotients" sQuotients f fd) (E : Ev K mg CN Ca Cb Cc) {fFraction : Addr} {dFraction : FuncData} (c_Fraction : CalD P w K mg base 2 "fraction" ["top", "bottom"] (TFrac CN) fFraction dFraction) : FnOk P w K mg base (CX1 P w) 3 f fd ["lines", "columns", "unknowns", "source"] (spD K TQuo) := by
  refine F.okD scQuotients (fun ds M q x h => ?_) (fun cdv A outer s H E' hr => ⟨_, (jss_cons (js_set (i := 4) scQuotients.nd rfl (Or.inl rfl) (j_repM (j_const 3 (d := .lst [.tup [.int 0, .int 1]]) (by rfl)) (jv 2)))
      (jss_cons (js_forK (jk_zip E.n_zip (ja_cons (jv 0) (ja_cons (jv 1) ja_nil (hs := starN)) (hs := starN))) (pg_tup rfl (pgs_cons (pg_name (i := 5) scQuotients.nd rfl (Or.inl rfl)) (pgs_cons (pg_name (i := 6) scQuotients.nd rfl (Or.inl rfl)) pgs_nil))) gd_two (jss_one (js_setix (jv 4) (jv 6) (j_fn c_Fraction hr passes1 (ja_cons (j_ix (jv 5) (jv 3)) (ja_cons (j_ix (jv 5) (jv 6)) ja_nil (hs := starX)) (hs := starX))))))
      (jss_one (js_ret (jv 4))))), fun ds M q x h => ?_⟩)
  · obtain ⟨rows, u, s, B, ρ, cols, qq, d, W, rfl, _⟩ := h; rfl
  · obtain ⟨rows, u, sc, B, ρ, cols, qq, d, W, rfl, su, ro, t, h⟩ := h
    have u12 := ro.u12
    have n12 := ro.n12
    have lc := t.st.lc
    have rn := t.st.rn
    obtain ⟨bl, bd⟩ := line_big t (m := u + 1) ro.bd ro.b450 (by omega) (by omega)
    have d0 := t.d0
    have cu : ∀ i, i < cols.length → cols.getD i 0 < u := fun i hi => t.cl _ (by rw [List.getD_eq_getElem?_getD, List.getElem?_eq_getElem hi]; exact List.getElem_mem hi)
    have one : ∀ i, i < cols.length → Bz.rv (Bz.arr rows) rows.length (W i) (cols.getD i 0) = d := fun i hi => by
      have := t.st.one i i (by omega) (by omega)
      rwa [if_pos rfl] at this
    generalize hA : Bz.arr rows = A at *
    generalize hn : rows.length = n at *
    refine ⟨[frD (0, 1)], u, rfl, rfl, by omega, by omega, ?_, ?_⟩
    · show 1 * ((u : Int)).toNat ≤ sizeLine
      exact Nat.le_trans (show _ ≤ 12 by omega) (by decide)
    rw [show ((u : Int)).toNat = u by omega, rep_flat, show List.replicate u (frD (0, 1)) = (quoK A n W d cols sc u 0).map frD by rw [quoK, List.map_replicate]]
    refine ⟨mlD (Bz.linesL A n (u + 1) W), .lst (cols.map ntD), _, _, fun _ => True, fun _ => True, rfl, rfl, rfl, ?_⟩
    have ez : zipD ((Bz.linesL A n (u + 1) W).map ilD) (cols.map ntD) = (List.range cols.length).map fun i => .tup [ilD (Bz.lineL A n (u + 1) (W i)), ntD (cols.getD i 0)] := by
      unfold zipD Bz.linesL
      apply List.ext_getElem
      · simp; omega
      · intro j h1 h2
        have hj : j < cols.length := by simpa using h2
        simp [List.getD_eq_getElem?_getD, List.getElem?_eq_getElem hj]
    rw [ez]
    refine forK_map (fun zs ρ' M' => ∃ (k : Nat) (o1 o2 : Option Dt), k ≤ cols.length ∧ zs = ((List.range cols.length).drop k).map (fun i => .tup [ilD (Bz.lineL A n (u + 1) (W i)), ntD (cols.getD i 0)]) ∧ M' = M ++ [MO.lst ((quoK A n W d cols sc u k).map frD)] ∧ ρ' = [some (mlD (Bz.linesL A n (u + 1) W)), some (.lst (cols.map ntD)), some (.int (u : Int)), some (.int (sc : Int)), some (.loc M.length), o1, o2]) (fun zs ρ' M' hj => ⟨trivial, trivial⟩) (fun x zs ρ' M' hj nxt => ?_) (fun ρ' M' hj => ?_) _ _ _ ⟨0, none, none, Nat.zero_le _, rfl, rfl, rfl⟩
    · obtain ⟨k, o1, o2, hk, ex, rfl, rfl⟩ := hj
      have hk' : k < cols.length := by
        rcases Nat.lt_or_ge k cols.length with z | z
        · exact z
        · rw [List.drop_of_length_le (by simpa using z)] at ex; cases ex
      rw [List.drop_eq_getElem_cons (by simpa using hk'), List.map_cons, List.getElem_range] at ex
      cases ex
      have ck := cu k hk'
      have ek : cols.getD k 0 < (Bz.lineL A n (u + 1) (W k)).length := by rw [Bz.line_len]; omega
      have eu : sc < (Bz.lineL A n (u + 1) (W k)).length := by rw [Bz.line_len]; omega
      have v1 : (Bz.lineL A n (u + 1) (W k))[cols.getD k 0] = d := by
        have := Bz.line_at (A := A) (n := n) (m := u + 1) (x := cols.getD k 0) (w := W k) (by omega)
        rw [List.getD_eq_getElem?_getD (l := Bz.lineL A n (u + 1) (W k)), List.getElem?_eq_getElem ek] at this
        rw [← one k hk']; exact this
      have v2 : (Bz.lineL A n (u + 1) (W k))[sc] = Bz.rv A n (W k) sc := by
        have := Bz.line_at (A := A) (n := n) (m := u + 1) (x := sc) (w := W k) (by omega)
        rw [List.getD_eq_getElem?_getD, List.getElem?_eq_getElem eu] at this
        exact this
      dsimp only [g2, sSetIx]
      walk_at "vc"
      refine fIx_seq (d := ilD (Bz.lineL A n (u + 1) (W k))) rfl (int_at eu) ?_
      refine fIx_seq (d := ilD (Bz.lineL A n (u + 1) (W k))) rfl (int_at ek) ?_
      rw [v1, v2]
      refine ⟨bd, fun z => absurd z d0, fun _ => ?_⟩
      refine ⟨M.length, (cols.getD k 0 : Nat), _, cols.getD k 0, rfl, rfl, at_new, ?_, ?_⟩
      · rw [List.length_map, quo_len]; exact ix_nat ck
      rw [set_new]
      refine nxt _ _ ⟨k + 1, _, _, hk', rfl, ?_, rfl⟩
      rw [quoK, List.map_set]; rfl
    · obtain ⟨k, o1, o2, hk, ex, rfl, rfl⟩ := hj
      have : k = cols.length := by
        have := congrArg List.length ex
        simp at this; omega
      subst this
      exact h
def TStill : DF := fun as M q _ => ∃ (rows : List (List Int)) (u : Nat) (B : Int) (ρ cols : List Nat) (qq : Nat → Nat) (d : Int) (W : Nat → Bz.Row), as = [mlD (Bz.linesL (Bz.arr rows) rows.length (u + 1) W), .lst (cols.map ntD), .int (u : Int)] ∧ RowsOk rows u B ∧ Bz.Turn (Bz.arr rows) rows.length u ρ cols qq d W ∧ cols.length < u ∧
  ∀ f, f < u → f ∉ cols → q (.loc M.length) (M ++ [.lst (((quoL (Bz.arr rows) rows.length W d cols f u).set f (-1, 1)).map frD)])
theorem scStillOf : FnScope ["lines", "columns", "unknowns", "free", "still"] ["lines", "columns", "unknowns"] (defScope sStillOf) := ⟨rfl, rfl, rfl, by decide +kernel, rfl, by decide +kernel, by decide +kernel⟩
theorem ok_StillOf {f : Addr} {fd : FuncData} (F : Fun K "still_of" "still_of" sStillOf f fd) (E : Ev K mg CN Ca Cb Cc) {fQuotients : Addr} {dQuotients : FuncData} (c_Quotients : CalD P w K mg base 3 "quotients" ["lines", "columns", "unknowns", "source"] TQuo fQuotients dQuotients) : FnOk P w K mg base (CX1 P w) 4 f fd ["lines", "columns", "unknowns"] (spD K TStill) := by
  refine F.okD scStillOf (fun ds M q x h => ?_) (fun cdv A outer s H E' hr => ⟨_, (jss_cons (js_setcompT1 (i := 3) scStillOf.nd rfl (Or.inl rfl) (ys := ["columns"]) (caps := [1]) ⟨rfl, by decide +kernel, by decide +kernel, (by show ∀ x : Str, x ∈ (["column"] : List Str) → _; decide +kernel), (by show ∀ p : Str × NameKind, p ∈ _ → p.2 = NameKind.free → List.lookup p.1 (defScope sStillOf).names = some .cell; decide +kernel), by decide +kernel, (by show ∀ q : Str × Nat, q ∈ _ → (["lines", "columns", "unknowns", "free", "still"] : List Str)[q.2]? = some q.1 ∧ List.lookup q.1 (defScope sStillOf).names = some .cell ∧ _; decide +kernel), rfl⟩ (jk_of (ji_range E.n_range (ja_cons (jv 2) ja_nil (hs := starN)))) (fun C s H fp => (jt_notinQ (jv 0) (jv 1))) (fun C s H fp => (jv 0)))
      (jss_cons (js_set (i := 4) scStillOf.nd rfl (Or.inl rfl) (j_fn c_Quotients hr passes1 (ja_cons (jv 0) (ja_cons (jv 1) (ja_cons (jv 2) (ja_cons (j_ix (jv 3) jint) ja_nil (hs := starX)) (hs := starN)) (hs := starN)) (hs := starN))))
      (jss_cons (js_setix (jv 4) (j_ix (jv 3) jint) (j_tup (ja_cons (j_neg jint) (ja_cons jint ja_nil (hs := starC)) (hs := starU))))
      (jss_one (js_ret (jv 4)))))), fun ds M q x h => ?_⟩)
  · obtain ⟨rows, u, B, ρ, cols, qq, d, W, rfl, _⟩ := h; rfl
  · obtain ⟨rows, u, B, ρ, cols, qq, d, W, rfl, ro, t, cl, h⟩ := h
    have u12 := ro.u12
    refine ⟨⟨by omega, by omega⟩, by rw [rngD_len]; exact Nat.le_trans (show _ ≤ 12 by omega) (by decide), ?_⟩
    refine compT_filter trivial (fun x => match x with | .int j => !decide (j.toNat ∈ cols) | _ => false) (fun x => x) _ _ (fun x hx q' p' h1 h2 => ?_) ?_
    · obtain ⟨j, hj', rfl⟩ := rngD_mem hx
      rw [Int.zero_add] at h1 h2 ⊢
      have h1 : (!decide ((j : Int).toNat ∈ cols)) = true → q' (.int (j : Int)) M := h1
      have h2 : (!decide ((j : Int).toNat ∈ cols)) = false → p' M := h2
      rw [Int.toNat_natCast] at h1 h2
      refine ⟨.int (j : Int), cols.map ntD, cols.map fun g : Nat => V.int (g : Int), rfl, rfl, flat_nats cols, ?_⟩
      rw [in_nats]
      cases hb : decide (j ∈ cols) with
      | true => rw [hb] at h2; exact h2 rfl
      | false => rw [hb] at h1; exact h1 rfl
    rw [List.nil_append, show ((u : Int)).toNat = u by omega]
    obtain ⟨fr, hfr⟩ : ∃ fr : List Nat, fr = (List.range u).filter fun j => !decide (j ∈ cols) := ⟨_, rfl⟩
    have ef : ((rngD 0 u).filter fun x => match x with | .int j => !decide (j.toNat ∈ cols) | _ => false).map (fun x => x) = fr.map ntD := by
      rw [List.map_id', hfr]
      unfold rngD
      rw [List.filter_map]
      have e1 : (fun k : Nat => Dt.int (0 + (k : Int))) = ntD := by funext k; show Dt.int (0 + (k : Int)) = Dt.int k; rw [Int.zero_add]
      rw [e1]
      congr 1
    rw [ef]
    have ne : fr ≠ [] := fun z => by
      have all : ∀ j, j < u → j ∈ cols := fun j hj => by
        have : j ∉ fr := by rw [z]; simp
        rw [hfr, List.mem_filter] at this
        by_cases hm : j ∈ cols
        · exact hm
        · exact absurd ⟨List.mem_range.mpr hj, by simp [hm]⟩ this
      have := (List.nodup_range (n := u)).length_le_of_subset (l₂ := cols) fun j hj => all j (List.mem_range.mp hj)
      rw [List.length_range] at this
      omega
    cases fr with
    | nil => exact absurd rfl ne
    | cons f rest =>
      have hf : f ∈ (List.range u).filter fun j => !decide (j ∈ cols) := by rw [← hfr]; exact List.mem_cons_self
      obtain ⟨f1, f2⟩ := List.mem_filter.mp hf
      have f1 := List.mem_range.mp f1
      have f2 : f ∉ cols := by simpa using f2
      have rd : ∀ (M' : Ms) (q : DQ), q (.int (f : Int)) M' → fIx (.lst ((f :: rest).map ntD)) (.int 0) M' q := fun M' q hq => fIx_seq (d := .lst ((f :: rest).map ntD)) rfl atI_zero hq
      walk_at "vc"
      refine rd _ _ ?_
      refine ⟨rows, u, f, B, ρ, cols, qq, d, W, rfl, by omega, ro, t, ?_⟩
      dsimp only [sSetIx]
      walk_at "vc"
      refine ⟨by show 2 ≤ sizeLine; decide, ?_⟩
      refine rd _ _ ?_
      refine ⟨M.length, (f : Nat), _, f, rfl, rfl, at_new, by rw [List.length_map, quoL, quo_len]; exact ix_nat f1, ?_⟩
      rw [set_new]
      have := h f f1 f2
      rw [List.map_set] at this
      exact this
def TNoA : DIF := fun ds M q => ∃ d xs, ds = [d] ∧ seqD M d = some xs ∧ q [("weights", .loc M.length)] (M ++ [.lst xs])
theorem scNoanswerInit : FnScope ["self", "weights"] ["self", "weights"] (defScope sNoanswerInit) := ⟨rfl, rfl, rfl, by decide +kernel, rfl, by decide +kernel, by decide +kernel⟩
theorem ok_NoanswerInit {f : Addr} {fd : FuncData} (F : Fun K "__init__" "NoAnswer.__init__" sNoanswerInit f fd) (E : Ev K mg CN Ca Cb Cc) (cI : ExcClsI K Cb VB "ValueError.__new__" f) : FnOk P w K mg base (CX1 P w) 1 f fd ["self", "weights"] (spI K Cb TNoA) := by
  refine F.okI scNoanswerInit (fun ds M q h => ?_) (fun cdv A outer s H E' hr => ⟨_, (jx_cons (jx_init PySem.F.excBase_ValueError cI E.iDuelError E.mDuelError jstr) (jx_one (jx_fld cI E.k_NoAnswer_weights (j_list E.n_list (ja_cons (jv 1) ja_nil (hs := starN)))))), fun ds M q h => ?_⟩)
  · obtain ⟨d, xs, rfl, _⟩ := h; rfl
  · obtain ⟨d, xs, rfl, hs, h⟩ := h
    refine ⟨by decide, by decide, ?_⟩
    have key : fList [d] M (fun d1 M' => q [("weights", d1)] M') := by
      unfold fList
      dsimp only
      rw [hs]
      exact h
    exact key
def TMany : DIF := fun ds M q => ∃ d1 d2 xs ys, ds = [d1, d2] ∧ seqD M d1 = some xs ∧ seqD (M ++ [.lst xs]) d2 = some ys ∧ q [("answer", .loc M.length), ("still", .loc (M.length + 1))] (M ++ [.lst xs, .lst ys])
theorem scManyanswersInit : FnScope ["self", "answer", "still"] ["self", "answer", "still"] (defScope sManyanswersInit) := ⟨rfl, rfl, rfl, by decide +kernel, rfl, by decide +kernel, by decide +kernel⟩
theorem ok_ManyanswersInit {f : Addr} {fd : FuncData} (F : Fun K "__init__" "ManyAnswers.__init__" sManyanswersInit f fd) (E : Ev K mg CN Ca Cb Cc) (cI : ExcClsI K Cc VB "ValueError.__new__" f) : FnOk P w K mg base (CX1 P w) 1 f fd ["self", "answer", "still"] (spI K Cc TMany) := by
  refine F.okI scManyanswersInit (fun ds M q h => ?_) (fun cdv A outer s H E' hr => ⟨_, (jx_cons (jx_init PySem.F.excBase_ValueError cI E.iDuelError E.mDuelError jstr) (jx_cons (jx_fld cI E.k_ManyAnswers_answer (j_list E.n_list (ja_cons (jv 1) ja_nil (hs := starN)))) (jx_one (jx_fld cI E.k_ManyAnswers_still (j_list E.n_list (ja_cons (jv 2) ja_nil (hs := starN))))))), fun ds M q h => ?_⟩)
  · obtain ⟨d1, d2, xs, ys, rfl, _⟩ := h; rfl
  · obtain ⟨d1, d2, xs, ys, rfl, hs, hs2, h⟩ := h
    refine ⟨by decide, by decide, ?_⟩
    have key : fList [d1] M (fun e1 M' => (("still" : Str) ∉ [("answer" : Str)] ∧ 1 < 900 ∧ fList [d2] M' (fun e2 M'' => q [("answer", e1), ("still", e2)] M''))) := by
      unfold fList
      dsimp only
      rw [hs]
      refine ⟨by decide, by decide, ?_⟩
      rw [hs2]
      dsimp only
      rw [List.length_append, List.length_singleton, List.append_assoc]
      exact h
    exact key
end
end Pg
set_option maxRecDepth 100000
set_option maxHeartbeats 4000000
namespace Pg
open PySem L2 Fr0 Tx
theorem drop_line {A : Nat → Bz.Row} {n m : Nat} {w : Bz.Row} : (Bz.lineL A n m w).drop m = (List.range n).map w := by
  unfold Bz.lineL
  rw [List.drop_left' (by simp)]
theorem cols_nodup {A : Nat → Bz.Row} {n u : Nat} {ρ cols : List Nat} {qq : Nat → Nat} {d : Int} {W : Nat → Bz.Row} (t : Bz.Turn A n u ρ cols qq d W) : cols.Nodup := by
  refine List.pairwise_iff_getElem.mpr fun i j hi hj hij e => ?_
  have lc := t.st.lc
  have e1 := t.st.one i i (by omega) (by omega)
  have e2 := t.st.one i j (by omega) (by omega)
  rw [if_pos rfl, List.getD_eq_getElem?_getD, List.getElem?_eq_getElem hi] at e1
  rw [if_neg (by omega), List.getD_eq_getElem?_getD, List.getElem?_eq_getElem hj] at e2
  have e1 : Bz.rv A n (W i) cols[i] = d := e1
  have e2 : Bz.rv A n (W i) cols[j] = 0 := e2
  rw [e, e2] at e1
  exact t.d0 e1.symm
theorem cols_le {A : Nat → Bz.Row} {n u : Nat} {ρ cols : List Nat} {qq : Nat → Nat} {d : Int} {W : Nat → Bz.Row} (t : Bz.Turn A n u ρ cols qq d W) : cols.length ≤ u := by
  have := (cols_nodup t).length_le_of_subset (l₂ := List.range u) fun c hc => List.mem_range.mpr (t.cl c hc)
  rwa [List.length_range] at this
theorem seq_at {M : Ms} {k : Nat} {xs : List Dt} (h : M[k]? = some (MO.lst xs)) : seqD M (.loc k) = some xs := by
  show (match M[k]? with | some (MO.lst xs) => some xs | _ => none) = some xs
  rw [h]
section
variable {P : Program} {w : World} {K : PySem.W.Frag} {mg : Str → Option Value} {base : Heap} {CN Ca Cb Cc : Addr}
def TAns (CA CM : Addr) : DF := fun as M q x => ∃ (rows : List (List Int)) (u : Nat) (B : Int), as = [mlD rows] ∧ RowsOk rows u B ∧ 1 ≤ u ∧ ∀ ρ cols qq d W, Bz.Turn (Bz.arr rows) rows.length u ρ cols qq d W →
  (∀ i, ρ.length ≤ i → i < rows.length → Bz.rv (Bz.arr rows) rows.length (W i) u ≠ 0 → x CA [("weights", .loc M.length)] (M ++ [.lst (((List.range rows.length).map (W i)).map Dt.int)])) ∧
  ((∀ i, ρ.length ≤ i → i < rows.length → Bz.rv (Bz.arr rows) rows.length (W i) u = 0) →
    (cols.length = u → q (.loc M.length) (M ++ [.lst ((quoL (Bz.arr rows) rows.length W d cols u u).map frD)])) ∧
    (cols.length < u → ∀ f, f < u → f ∉ cols → ∀ E : Ms, E.length = 2 → x CM [("answer", .loc (M.length + 2)), ("still", .loc (M.length + 3))] (M ++ E ++ [.lst ((quoL (Bz.arr rows) rows.length W d cols u u).map frD), .lst (((quoL (Bz.arr rows) rows.length W d cols f u).set f (-1, 1)).map frD)])))
theorem scAnswerOf : FnScope ["rows", "unknowns", "found", "lines", "columns", "line", "answer"] ["rows"] (defScope sAnswerOf) := ⟨rfl, rfl, rfl, by decide +kernel, rfl, by decide +kernel, by decide +kernel⟩
theorem ok_AnswerOf {f : Addr} {fd : FuncData} (F : Fun K "answer_of" "answer_of" sAnswerOf f fd) (E : Ev K mg CN Ca Cb Cc) {fCleared : Addr} {dCleared : FuncData} (c_Cleared : CalD P w K mg base 2 "cleared" ["rows", "unknowns"] TCleared fCleared dCleared) {fNoanswerInit : Addr} {dNoanswerInit : FuncData} (c_NoanswerInit : XcD P w K mg base 1 "NoAnswer" Cb VB "ValueError.__new__" ["self", "weights"] TNoA fNoanswerInit dNoanswerInit) {fQuotients : Addr} {dQuotients : FuncData} (c_Quotients : CalD P w K mg base 3 "quotients" ["lines", "columns", "unknowns", "source"] TQuo fQuotients dQuotients) {fManyanswersInit : Addr} {dManyanswersInit : FuncData} (c_ManyanswersInit : XcD P w K mg base 1 "ManyAnswers" Cc VB "ValueError.__new__" ["self", "answer", "still"] TMany fManyanswersInit dManyanswersInit) {fStillOf : Addr} {dStillOf : FuncData} (c_StillOf : CalD P w K mg base 4 "still_of" ["lines", "columns", "unknowns"] TStill fStillOf dStillOf) : FnOk P w K mg base (CX1 P w) 5 f fd ["rows"] (spD K (TAns Cb Cc)) := by
  refine F.okD scAnswerOf (fun ds M q x h => ?_) (fun cdv A outer s H E' hr => ⟨_, (jss_cons (js_set (i := 1) scAnswerOf.nd rfl (Or.inl rfl) (j_sub (j_len E.n_len (ja_cons (j_ix (jv 0) jint) ja_nil (hs := starX))) jint))
      (jss_cons (js_set (i := 2) scAnswerOf.nd rfl (Or.inl rfl) (je_fz (j_fn c_Cleared hr passes1 (ja_cons (jv 0) (ja_cons (jv 1) ja_nil (hs := starN)) (hs := starN)))))
      (jss_cons (js_set (i := 3) scAnswerOf.nd rfl (Or.inl rfl) (j_ix (jv 2) jint))
      (jss_cons (js_set (i := 4) scAnswerOf.nd rfl (Or.inl rfl) (j_ix (jv 2) jint))
      (jss_cons (js_forK (jk_seq (je_fz (j_slFromL (jv 3) (j_len E.n_len (ja_cons (jv 4) ja_nil (hs := starN)))))) (pg_name (i := 5) scAnswerOf.nd rfl (Or.inl rfl)) gd_name (jss_one (js_if (jt_ne hr (j_ix (jv 5) (jv 1)) jint) (jss_one (js_raiseI c_NoanswerInit hr raises1 PySem.F.excBase_ValueError (ja_cons (je_fz (j_slFromL (jv 5) (j_add (jv 1) jint))) ja_nil (hs := starX)))) jss_nil)))
      (jss_cons (js_set (i := 6) scAnswerOf.nd rfl (Or.inl rfl) (j_fn c_Quotients hr passes1 (ja_cons (jv 3) (ja_cons (jv 4) (ja_cons (jv 1) (ja_cons (jv 1) ja_nil (hs := starN)) (hs := starN)) (hs := starN)) (hs := starN))))
      (jss_cons (js_if (jt_lt (j_len E.n_len (ja_cons (jv 4) ja_nil (hs := starN))) (jv 1)) (jss_one (js_raiseI c_ManyanswersInit hr raises1 PySem.F.excBase_ValueError (ja_cons (jv 6) (ja_cons (j_fn c_StillOf hr passes1 (ja_cons (jv 3) (ja_cons (jv 4) (ja_cons (jv 1) ja_nil (hs := starN)) (hs := starN)) (hs := starN))) ja_nil (hs := starF)) (hs := starN)))) jss_nil)
      (jss_one (js_ret (jv 6)))))))))), fun ds M q x h => ?_⟩)
  · obtain ⟨rows, u, B, rfl, _⟩ := h; rfl
  · obtain ⟨rows, u, B, rfl, ro, u1, h⟩ := h
    have n1 := ro.n1
    have n12 := ro.n12
    have u12 := ro.u12
    have r0 : 0 < rows.length := by omega
    have m0 : rows[0].length = u + 1 := ro.ml _ (List.getElem_mem r0)
    walk_at "vc"
    refine (fIx_seq (d := mlD rows) rfl (ml_at r0) ?_ : fIx (mlD rows) (.int 0) _ _)
    refine (fLen_seq (d := ilD rows[0]) (xs := rows[0].map Dt.int) rfl ?_ : fLen [ilD rows[0]] _ _)
    rw [List.length_map, m0]
    dsimp only [fSub]
    rw [show (((u + 1 : Nat) : Int) - 1) = (u : Int) by omega]
    refine ⟨rows, u, B, rfl, ro, fun ρ cols qq d W t => ?_⟩
    obtain ⟨hA, hB⟩ := h ρ cols qq d W t
    have lc := t.st.lc
    have rn := t.st.rn
    refine fz_new (d' := .tup [mlD (Bz.linesL (Bz.arr rows) rows.length (u + 1) W), .lst (cols.map ntD)]) (.tup (.cons (.old (mls_un _)) (.cons (.newL (Nat.le_refl _) (by simp) (FrzL.old (nats_un _))) .nil))) ?_
    refine (fIx_seq (d := .tup [mlD (Bz.linesL (Bz.arr rows) rows.length (u + 1) W), .lst (cols.map ntD)]) rfl atI_zero ?_ : fIx (.tup [mlD (Bz.linesL (Bz.arr rows) rows.length (u + 1) W), .lst (cols.map ntD)]) (.int 0) _ _)
    refine (fIx_seq (d := .tup [mlD (Bz.linesL (Bz.arr rows) rows.length (u + 1) W), .lst (cols.map ntD)]) rfl (atI_nat (j := 1) rfl) ?_ : fIx (.tup [mlD (Bz.linesL (Bz.arr rows) rows.length (u + 1) W), .lst (cols.map ntD)]) (.int 1) _ _)
    dsimp only [sForK, iSeqK, dFz, dSlL]
    walk_at "vc"
    refine (fLen_seq (d := .lst (cols.map ntD)) (xs := cols.map ntD) rfl ?_ : fLen [.lst (cols.map ntD)] _ _)
    refine ⟨(Bz.linesL (Bz.arr rows) rows.length (u + 1) W).map ilD, (cols.map ntD).length, rfl, rfl, ?_⟩
    rw [List.length_map, lc, ← List.map_drop]
    refine fz_loc (mls_un _) ?_
    refine forK_map (fun zs ρ' M' => M = M' ∧ ∃ (k : Nat) (o : Option Dt), ρ.length + k ≤ rows.length ∧ zs = (((Bz.linesL (Bz.arr rows) rows.length (u + 1) W).drop (ρ.length + k)).map ilD) ∧ (∀ i, ρ.length ≤ i → i < ρ.length + k → Bz.rv (Bz.arr rows) rows.length (W i) u = 0) ∧ ρ' = [some (mlD rows), some (.int (u : Int)), some (.tup [mlD (Bz.linesL (Bz.arr rows) rows.length (u + 1) W), .lst (cols.map ntD)]), some (mlD (Bz.linesL (Bz.arr rows) rows.length (u + 1) W)), some (.lst (cols.map ntD)), o, none]) (fun zs ρ' M' hj => trivial) (fun x zs ρ' M' hj nxt => ?_) (fun ρ' M' hj => ?_) _ _ _ ⟨rfl, 0, none, by omega, rfl, fun i h1 h2 => absurd h2 (by omega), rfl⟩
    · obtain ⟨rfl, k, o, hk, ex, hz, rfl⟩ := hj
      have hk' : ρ.length + k < rows.length := by
        rcases Nat.lt_or_ge (ρ.length + k) rows.length with z | z
        · exact z
        · rw [List.drop_of_length_le (by rw [Bz.lines_len]; exact z)] at ex; cases ex
      have hlk : ρ.length + k < (Bz.linesL (Bz.arr rows) rows.length (u + 1) W).length := by rw [Bz.lines_len]; exact hk'
      rw [List.drop_eq_getElem_cons hlk, List.map_cons] at ex
      have el : (Bz.linesL (Bz.arr rows) rows.length (u + 1) W)[ρ.length + k] = Bz.lineL (Bz.arr rows) rows.length (u + 1) (W (ρ.length + k)) := by
        have := Bz.lines_at (A := Bz.arr rows) (m := u + 1) (W := W) hk'
        rw [List.getD_eq_getElem?_getD, List.getElem?_eq_getElem hlk] at this
        exact this
      rw [el] at ex
      cases ex
      have eu : u < (Bz.lineL (Bz.arr rows) rows.length (u + 1) (W (ρ.length + k))).length := by rw [Bz.line_len]; omega
      have v2 : (Bz.lineL (Bz.arr rows) rows.length (u + 1) (W (ρ.length + k)))[u] = Bz.rv (Bz.arr rows) rows.length (W (ρ.length + k)) u := by
        have := Bz.line_at (A := Bz.arr rows) (n := rows.length) (m := u + 1) (x := u) (w := W (ρ.length + k)) (by omega)
        rw [List.getD_eq_getElem?_getD, List.getElem?_eq_getElem eu] at this
        exact this
      walk_at "vc"
      refine (fIx_seq (d := ilD (Bz.lineL (Bz.arr rows) rows.length (u + 1) (W (ρ.length + k)))) rfl (int_at eu) ?_ : fIx (ilD (Bz.lineL (Bz.arr rows) rows.length (u + 1) (W (ρ.length + k)))) (.int (u : Int)) _ _)
      rw [v2]
      refine ⟨fun z => ?_, fun z => ?_⟩
      · have z : (!decide (Bz.rv (Bz.arr rows) rows.length (W (ρ.length + k)) u = 0)) = true := z
        have z : Bz.rv (Bz.arr rows) rows.length (W (ρ.length + k)) u ≠ 0 := by simpa using z
        dsimp only [sRaiseI]
        walk_at "vc"
        dsimp only [dSlL]
        walk_at "vc"
        refine ⟨(Bz.lineL (Bz.arr rows) rows.length (u + 1) (W (ρ.length + k))).map Dt.int, u + 1, rfl, by rw [Int.natCast_add]; rfl, ?_⟩
        rw [← List.map_drop, drop_line]
        exact fz_loc (ints_un _) ⟨by decide, _, _, rfl, rfl, by simp, hA (ρ.length + k) (by omega) hk' z⟩
      · have z : (!decide (Bz.rv (Bz.arr rows) rows.length (W (ρ.length + k)) u = 0)) = false := z
        have z : Bz.rv (Bz.arr rows) rows.length (W (ρ.length + k)) u = 0 := by simpa using z
        refine nxt _ _ ⟨rfl, k + 1, _, by omega, rfl, fun i h1 h2 => ?_, rfl⟩
        by_cases e : i = ρ.length + k
        · rw [e]; exact z
        · exact hz i h1 (by omega)
    · obtain ⟨rfl, k, o, hk, ex, hz, rfl⟩ := hj
      have hke : ρ.length + k = rows.length := by
        have := congrArg List.length ex
        rw [List.length_map, List.length_drop, Bz.lines_len] at this
        simp at this; omega
      have hz : ∀ i, ρ.length ≤ i → i < rows.length → Bz.rv (Bz.arr rows) rows.length (W i) u = 0 := fun i h1 h2 => hz i h1 (by omega)
      obtain ⟨hq, hm⟩ := hB hz
      refine ⟨rows, u, u, B, ρ, cols, qq, d, W, rfl, Nat.le_refl _, ro, t, ?_⟩
      walk_at "vc"
      refine (fLen_seq (d := .lst (cols.map ntD)) (xs := cols.map ntD) rfl ?_ : fLen [.lst (cols.map ntD)] _ _)
      rw [List.length_map]
      refine ⟨fun z => ?_, fun z => ?_⟩
      · have z : (cols.length : Int) < u := of_decide_eq_true z
        dsimp only [sRaiseI]
        walk_at "vc"
        refine ⟨rows, u, B, ρ, cols, qq, d, W, rfl, ro, t, by omega, fun f f1 f2 => ⟨by show 2 ≤ sizeLine; decide, ?_⟩⟩
        have a1 : ∀ a b : MO, (M ++ [a] ++ [b])[M.length]? = some a := fun a b => by simp
        have a2 : ∀ a b c : MO, (M ++ [a] ++ [b] ++ [c])[(M ++ [a]).length]? = some b := fun a b c => by simp
        refine ⟨.loc M.length, .loc (M ++ [MO.lst ((quoL (Bz.arr rows) rows.length W d cols u u).map frD)]).length, _, _, rfl, seq_at (a1 _ _), seq_at (a2 _ _ _), by simp, ?_⟩
        have := hm (by omega) f f1 f2 [.lst ((quoL (Bz.arr rows) rows.length W d cols u u).map frD), .lst (((quoL (Bz.arr rows) rows.length W d cols f u).set f (-1, 1)).map frD)] rfl
        simpa [List.append_assoc] using this
      · have z : ¬ (cols.length : Int) < u := of_decide_eq_false z
        have cu : cols.length = u := by
          have := cols_le t
          omega
        exact hq cu
end
end Pg
set_option maxRecDepth 100000
set_option maxHeartbeats 4000000
namespace Pg
open PySem L2 Fr0 Tx
def nth (ns : List Int) (k : Int) : Int := ns.getD k.toNat 0
theorem nth_at {ns : List Int} {k : Int} (h0 : 0 ≤ k) (h2 : k < ns.length) : atI (ns.map Dt.int) k = some (.int (nth ns k)) := by
  have e : (ns.map Dt.int)[k.toNat]? = some (.int (nth ns k)) := by
    rw [List.getElem?_map, List.getElem?_eq_getElem (show k.toNat < ns.length by omega)]
    unfold nth
    rw [List.getD_eq_getElem?_getD, List.getElem?_eq_getElem (show k.toNat < ns.length by omega)]
    rfl
  have := atI_nat e
  rwa [show ((k.toNat : Nat) : Int) = k by omega] at this
def Nm (n : Int) : Prop := 0 ≤ n ∧ n < 10 ^ 40
theorem p40 : CPow 10 40 := ⟨by decide, by decide, by decide⟩
theorem p12 : CPow 10 12 := ⟨by decide, by decide, by decide⟩
theorem nm_big {n : Int} (h : Nm n) : Big n := bg (k := 140) (by unfold Nm at h; omega)
section
variable {P : Program} {w : World} {K : PySem.W.Frag} {mg : Str → Option Value} {base : Heap} {CN Ca Cb Cc : Addr}
def TAt : DF := fun as M q _ => ∃ (ns : List Int) (k : Int), as = [.scr ns, .int k] ∧ ns.length ≤ 63 ∧ 0 ≤ k ∧ k ≤ 200 ∧ ∀ n, Nm n → q (.int n) M
theorem scLawAt : FnScope ["_law_script", "_law_k", "_law_mixed", "_law_cell"] ["_law_script", "_law_k"] (defScope sLawAt) := ⟨rfl, rfl, rfl, by decide +kernel, rfl, by decide +kernel, by decide +kernel⟩
theorem ok_LawAt {f : Addr} {fd : FuncData} (F : Fun K "_law_at" "_law_at" sLawAt f fd) (E : Ev K mg CN Ca Cb Cc)  : FnOk P w K mg base (CX1 P w) 1 f fd ["_law_script", "_law_k"] (spD K TAt) := by
  refine F.okD scLawAt (fun ds M q x h => ?_) (fun cdv A outer s H E' hr => ⟨_, (jss_cons (js_if (jt_lt (jv 1) (j_len E.n_len (ja_cons (jv 0) ja_nil (hs := starN)))) (jss_one (js_ret (j_mod (j_ix (jv 0) (jv 1)) (j_pow jint jint)))) jss_nil)
      (jss_cons (js_set (i := 2) scLawAt.nd rfl (Or.inl rfl) (j_add jint (j_mul jint (j_len E.n_len (ja_cons (jv 0) ja_nil (hs := starN))))))
      (jss_cons (js_forK (jk_seq (je_fz (j_slToL (jv 0) jint))) (pg_name (i := 3) scLawAt.nd rfl (Or.inl rfl)) gd_name (jss_one (js_set (i := 2) scLawAt.nd rfl (Or.inl rfl) (j_mod (j_add (j_mul (jv 2) jint) (j_mod (jv 3) (j_pow jint jint))) jint))))
      (jss_one (js_ret (j_mod (j_mul (j_add (jv 2) jint) (j_add (j_mul (jv 1) (jv 1)) jint)) jint)))))), fun ds M q x h => ?_⟩)
  · obtain ⟨ns, k, rfl, _⟩ := h; rfl
  · obtain ⟨ns, k, rfl, nl, hk, k2, h⟩ := h
    have bk : Big k := bg (k := 40) (by omega)
    have bl : Big (ns.length : Int) := bg (k := 40) (by omega)
    walk_at "vc"
    refine (fLen_seq (d := .scr ns) (xs := ns.map .int) rfl ?_ : fLen [.scr ns] M _)
    rw [List.length_map]
    refine ⟨fun h1 => ?_, fun h1 => ?_⟩
    · have h1' : k < ns.length := of_decide_eq_true h1
      refine (fIx_seq (d := .scr ns) rfl (nth_at hk h1') ?_ : fIx (.scr ns) (.int k) M _)
      exact ⟨p40, by decide, h _ ⟨Int.emod_nonneg _ (by decide), Int.emod_lt_of_pos _ (by decide)⟩⟩
    · refine (fLen_seq (d := .scr ns) (xs := ns.map .int) rfl ?_ : fLen [.scr ns] M _)
      rw [List.length_map]
      refine ⟨⟨bg (k := 40) (by decide), bl⟩, ?_⟩
      dsimp only [sForK, iSeqK, dFz, dSlToL]
      walk_at "vc"
      refine ⟨ns.map .int, 6, rfl, rfl, ?_⟩
      rw [← List.map_take]
      refine fz_loc (ints_un _) ?_
      refine forK_map (fun zs ρ' M' => M' = M ∧ ∃ (rest : List Int) (m : Int) (o : Option Dt), zs = rest.map Dt.int ∧ 0 ≤ m ∧ m < 2147483647 ∧ ρ' = [some (.scr ns), some (.int k), some (.int m), o]) (fun zs ρ' M' hj => trivial) (fun x zs ρ' M' hj nxt => ?_) (fun ρ' M' hj => ?_) _ _ _ ⟨rfl, _, _, none, rfl, by omega, by omega, rfl⟩
      · obtain ⟨rfl, rest, m, o, ex, m0, m1, rfl⟩ := hj
        cases rest with
        | nil => cases ex
        | cons c rest =>
          cases ex
          exact ⟨⟨bg (k := 40) (by omega), bg (k := 40) (by decide)⟩, p12, by decide, by decide, nxt _ _ ⟨rfl, rest, _, _, rfl, Int.emod_nonneg _ (by decide), Int.emod_lt_of_pos _ (by decide), rfl⟩⟩
      · obtain ⟨rfl, rest, m, o, ex, m0, m1, rfl⟩ := hj
        have kk : 0 ≤ k * k ∧ k * k ≤ 200 * 200 := ⟨Int.mul_nonneg hk hk, Int.mul_le_mul k2 k2 hk (by decide)⟩
        refine ⟨⟨bk, bk⟩, ⟨bg (k := 40) (by omega), bg (k := 40) (by omega)⟩, by decide, h _ ⟨Int.emod_nonneg _ (by decide), Int.lt_trans (Int.emod_lt_of_pos _ (by decide)) (by decide)⟩⟩
def TLow : DF := fun as M q _ => ∃ t b : Int, as = [.int t, .int b] ∧ 0 < b ∧ Big b ∧ q (frD (frac t b)) M
theorem scLawLowest : FnScope ["_law_top", "_law_bottom", "_law_one", "_law_two"] ["_law_top", "_law_bottom"] (defScope sLawLowest) := ⟨rfl, rfl, rfl, by decide +kernel, rfl, by decide +kernel, by decide +kernel⟩
theorem ok_LawLowest {f : Addr} {fd : FuncData} (F : Fun K "_law_lowest" "_law_lowest" sLawLowest f fd) (E : Ev K mg CN Ca Cb Cc)  : FnOk P w K mg base (CX1 P w) 1 f fd ["_law_top", "_law_bottom"] (spD K TLow) := by
  refine F.okD scLawLowest (fun ds M q x h => ?_) (fun cdv A outer s H E' hr => ⟨_, (jss_cons (js_par (i := 2) (j := 3) scLawLowest.nd rfl rfl (ja_cons (j_abs E.n_abs (ja_cons (jv 0) ja_nil (hs := starN))) (ja_cons (jv 1) ja_nil (hs := starN)) (hs := starF)))
      (jss_cons (js_while (jt_ne hr (jv 3) jint) (jss_one (js_par (i := 2) (j := 3) scLawLowest.nd rfl rfl (ja_cons (jv 3) (ja_cons (j_mod (jv 2) (jv 3)) ja_nil (hs := starB)) (hs := starN)))))
      (jss_one (js_ret (j_tup (ja_cons (j_div (jv 0) (jv 2)) (ja_cons (j_div (jv 1) (jv 2)) ja_nil (hs := starB)) (hs := starB))))))), fun ds M q x h => ?_⟩)
  · obtain ⟨t, b, rfl, _⟩ := h; rfl
  · obtain ⟨t, b, rfl, h0, h1, h⟩ := h
    have ga : g (if t < 0 then -t else t) b = g t b := by
      have := g_abs t b
      rwa [if_neg (show ¬ b < 0 by omega)] at this
    refine ⟨fun m ρ M' => M' = M ∧ ∃ (x y : Int), ρ = [some (.int t), some (.int b), some (.int x), some (.int y)] ∧ 0 ≤ x ∧ 0 ≤ y ∧ g x y = g t b ∧ m = y.toNat, ⟨_, rfl, _, _, rfl, by split <;> omega, by omega, ga, rfl⟩, ?_⟩
    rintro m ρ M' ⟨rfl, x, y, rfl, hx, hy, e, rfl⟩
    refine ⟨fun hb => ?_, fun hb => ?_⟩
    · have hy0 : y ≠ 0 := by simpa using hb
      refine ⟨_, fun ρ' M2 h2 => h2, ?_⟩
      refine ⟨by omega, (x % y).toNat, ?_, rfl, y, x % y, rfl, hy, Int.emod_nonneg _ hy0, ?_, rfl⟩
      · have := Int.emod_lt_of_pos x (show 0 < y by omega)
        have := Int.emod_nonneg x hy0
        omega
      · rw [← Int.fmod_eq_emod_of_nonneg x hy, g_step (by omega)]; exact e
    · have hy0 : y = 0 := by simpa using hb
      subst hy0
      rw [g_zero hx] at e
      subst e
      have hg : 0 < g t b := g_pos (by omega)
      have hle : g t b ≤ b := Int.le_of_dvd h0 (Int.gcd_dvd_right ..)
      have hb : Big (g t b) := Nat.lt_of_le_of_lt (show (g t b).natAbs ≤ b.natAbs by omega) h1
      have e : frac t b = (t / g t b, b / g t b) := by rw [frac_up h0, Int.fdiv_eq_ediv_of_nonneg _ (Int.le_of_lt hg), Int.fdiv_eq_ediv_of_nonneg _ (Int.le_of_lt hg)]
      rw [e] at h
      exact ⟨⟨hg, hb⟩, ⟨hg, hb⟩, (by show 2 ≤ sizeLine; decide), h⟩
end
theorem p64 : CPow 10 64 := ⟨by decide, by decide, by decide⟩
theorem p63 : CPow 10 63 := ⟨by decide, by decide, by decide⟩
theorem p30 : CPow 10 30 := ⟨by decide, by decide, by decide⟩
theorem in_at {l : List Int} {j : Nat} (h : j < l.length) : atI (l.map Dt.int) (j : Int) = some (.int (l.getD j 0)) := by
  rw [int_at h, List.getD_eq_getElem?_getD, List.getElem?_eq_getElem h]; rfl
theorem getD_map {f : Nat → Int} {u x : Nat} (h : x < u) : ((List.range u).map f).getD x 0 = f x := by
  rw [List.getD_eq_getElem?_getD, List.getElem?_map, List.getElem?_range h]; rfl
theorem sum_range (f : Nat → Int) : ∀ u, ((List.range u).map f).sum = Bz.ssum f u
  | 0 => rfl
  | u + 1 => by rw [List.range_succ, List.map_append, List.sum_append, sum_range f u]; simp [Bz.ssum]
theorem at_last {α : Type} {xs : List α} {x : α} (h : xs[xs.length - 1]? = some x) (h1 : 1 ≤ xs.length) : atI xs (-1) = some x := by
  unfold atI ixN
  rw [if_neg (by omega), if_pos (by omega)]
  show xs[(-1 + (xs.length : Int)).toNat]? = _
  rw [show (-1 + (xs.length : Int)).toNat = xs.length - 1 by omega]; exact h
theorem sel3k {a b c k : Int} {M : Ms} {q : DQ} (h0 : 0 ≤ k) (h2 : k < 3) (h : ∀ v : Int, v = a ∨ v = b ∨ v = c → q (.int v) M) : fIx (.lst [.int a, .int b, .int c]) (.int k) M q := by
  have : k = ((0 : Nat) : Int) ∨ k = ((1 : Nat) : Int) ∨ k = ((2 : Nat) : Int) := by omega
  rcases this with e | e | e <;> rw [e]
  · exact fIx_seq (d := .lst [.int a, .int b, .int c]) rfl (atI_nat (j := 0) rfl) (h _ (.inl rfl))
  · exact fIx_seq (d := .lst [.int a, .int b, .int c]) rfl (atI_nat (j := 1) rfl) (h _ (.inr (.inl rfl)))
  · exact fIx_seq (d := .lst [.int a, .int b, .int c]) rfl (atI_nat (j := 2) rfl) (h _ (.inr (.inr rfl)))
theorem ints_of {Pz : Int → Prop} : ∀ ys : List Dt, (∀ y ∈ ys, ∃ n, y = .int n ∧ Pz n) → ∃ r : List Int, ys = r.map Dt.int ∧ ∀ v ∈ r, Pz v
  | [], _ => ⟨[], rfl, fun v hv => nomatch hv⟩
  | y :: ys, h => by
    obtain ⟨r, e, hr⟩ := ints_of ys fun z hz => h z (List.mem_cons_of_mem _ hz)
    obtain ⟨n, e1, hn⟩ := h y List.mem_cons_self
    refine ⟨n :: r, by rw [e1, e]; rfl, fun v hv => ?_⟩
    rcases List.mem_cons.mp hv with z | z
    · rw [z]; exact hn
    · exact hr v z
theorem compD_ex {te : DE} {cs : En} {M : Ms} {k : List Dt → Ms → Prop} (Pz : Dt → Prop) : ∀ (xs acc : List Dt), (∀ x ∈ xs, ∀ q : DQ, (∀ y, Pz y → q y M) → te (some x :: cs) M q noX) → (∀ ys : List Dt, ys.length = xs.length → (∀ y ∈ ys, Pz y) → k (acc ++ ys) M) → compD te cs xs acc M k
  | [], acc, _, h => by have := h [] rfl (fun y hy => nomatch hy); rw [List.append_nil] at this; exact this
  | x :: xs, acc, ht, h => ht x List.mem_cons_self _ fun y hy => compD_ex Pz xs (acc ++ [y]) (fun z hz => ht z (List.mem_cons_of_mem _ hz)) fun ys hl hys => by
    have := h (y :: ys) (by rw [List.length_cons, List.length_cons, hl]) (fun v hv => by
      rcases List.mem_cons.mp hv with e | e
      · rw [e]; exact hy
      · exact hys v e)
    rw [show acc ++ y :: ys = acc ++ [y] ++ ys by simp] at this
    exact this
abbrev BN : Int := 4 * 10 ^ 190
abbrev BM : Int := 24 * 10 ^ 190 + 1
theorem bn_big {n : Int} (h : Bz.Ab n BN) : Big n := bg (k := 640) (by obtain ⟨a, b⟩ := h; unfold BN at a b; omega)
theorem bm_big {n : Int} (h : Bz.Ab n BM) : Big n := bg (k := 640) (by obtain ⟨a, b⟩ := h; unfold BM at a b; omega)
structure Wd (u : Nat) (B : Int) (r : List Int) : Prop where
  len : r.length = u + 1
  ab : ∀ v ∈ r, Bz.Ab v B
theorem Wd.at_ {u : Nat} {B : Int} {r : List Int} (h : Wd u B r) {x : Nat} (hx : x < u + 1) : Bz.Ab (r.getD x 0) B := by
  have : x < r.length := by rw [h.len]; exact hx
  rw [List.getD_eq_getElem?_getD, List.getElem?_eq_getElem this]
  exact h.ab _ (List.getElem_mem _)
theorem Wd.mono {u : Nat} {B C : Int} {r : List Int} (h : Wd u B r) (hc : B ≤ C) : Wd u C r := ⟨h.len, fun v hv => (h.ab v hv).mono hc⟩
section
variable {P : Program} {w : World} {K : PySem.W.Frag} {mg : Str → Option Value} {base : Heap} {CN Ca Cb Cc : Addr}
def TNumber : DF := fun as M q _ => ∃ c k : Int, as = [.int c, .int k] ∧ Nm c ∧ 0 ≤ k ∧ k < 4 ∧ ∀ n, Bz.Ab n BN → q (.int n) M
theorem scLawNumber : FnScope ["_law_cell", "_law_kind", "_law_far"] ["_law_cell", "_law_kind"] (defScope sLawNumber) := ⟨rfl, rfl, rfl, by decide +kernel, rfl, by decide +kernel, by decide +kernel⟩
theorem ok_LawNumber {f : Addr} {fd : FuncData} (F : Fun K "_law_number" "_law_number" sLawNumber f fd) (E : Ev K mg CN Ca Cb Cc)  : FnOk P w K mg base (CX1 P w) 1 f fd ["_law_cell", "_law_kind"] (spD K TNumber) := by
  refine F.okD scLawNumber (fun ds M q x h => ?_) (fun cdv A outer s H E' hr => ⟨_, (jss_cons (js_if (jt_eq hr (jv 1) jint) (jss_one (js_ret (j_add (j_mul (j_mul (j_mul (j_sub (j_mod (jv 0) jint) jint) (j_pow jint jint)) (j_pow jint jint)) (j_pow jint jint)) (j_mod (j_mod (j_mul (jv 0) jint) jint) jint)))) jss_nil)
      (jss_cons (js_set (i := 2) scLawNumber.nd rfl (Or.inl rfl) (j_ix (j_lst (ja_cons jint (ja_cons jint (ja_cons (j_pow jint jint) ja_nil (hs := starB)) (hs := starC)) (hs := starC))) (jv 1)))
      (jss_one (js_ret (j_sub (j_mod (jv 0) (j_add (j_mul jint (jv 2)) jint)) (jv 2)))))), fun ds M q x h => ?_⟩)
  · obtain ⟨c, k, rfl, _⟩ := h; rfl
  · obtain ⟨c, k, rfl, hc, k0, k4, h⟩ := h
    have b7 := Int.emod_nonneg c (show (7 : Int) ≠ 0 by decide)
    have c7 := Int.emod_lt_of_pos c (show (0 : Int) < 7 by decide)
    have b9 := Int.emod_nonneg (c * 48271 % 65521) (show (89 : Int) ≠ 0 by decide)
    have c9 := Int.emod_lt_of_pos (c * 48271 % 65521) (show (0 : Int) < 89 by decide)
    walk_at "vc"
    refine ⟨fun z => ?_, fun z => ?_⟩
    · have t64 : Int.toNat 64 = 64 := rfl
      have t63 : Int.toNat 63 = 63 := rfl
      refine ⟨by decide, p64, ⟨bg (k := 40) (by omega), bg (k := 220) (by decide)⟩, p63, ⟨bg (k := 220) (by rw [t64]; omega), bg (k := 220) (by decide)⟩, p63, ⟨bg (k := 440) (by rw [t64, t63]; omega), bg (k := 220) (by decide)⟩, ⟨nm_big hc, bg (k := 40) (by decide)⟩, by decide, by decide, ?_⟩
      refine h _ ⟨?_, ?_⟩
      · rw [t64, t63]; unfold BN; omega
      · rw [t64, t63]; unfold BN; omega
    · have z : ¬ k = 3 := of_decide_eq_false z
      refine ⟨p30, by show 3 ≤ sizeLine; decide, ?_⟩
      refine sel3k k0 (by omega) fun v hv => ?_
      have v0 : 1 ≤ v ∧ v ≤ 10 ^ 30 := by rcases hv with e | e | e <;> rw [e] <;> decide
      have a0 := Int.emod_nonneg c (show 2 * v + 1 ≠ 0 by omega)
      have a1 := Int.emod_lt_of_pos c (show 0 < 2 * v + 1 by omega)
      refine ⟨⟨bg (k := 40) (by decide), bg (k := 140) (by omega)⟩, by omega, h _ ⟨?_, ?_⟩⟩
      · unfold BN; omega
      · unfold BN; omega
def TRows : DF := fun as M q _ => ∃ (ns : List Int) (u : Nat), as = [.scr ns, .int (u : Int)] ∧ ns.length ≤ 63 ∧ 1 ≤ u ∧ u ≤ 4 ∧ ∀ (E : Ms) (d : Dt) (R : List (List Int)), Frz M.length E d (mlD R) → 1 ≤ R.length → R.length ≤ 6 → (∀ r ∈ R, Wd u BM r) → q d (M ++ E)
theorem scLawRows : FnScope ["_law_script", "_law_wide", "_law_kind", "_law_rows_here", "_law_k", "_law_cell", "_law_one", "_law_two", "_law_row"] ["_law_script", "_law_wide"] (defScope sLawRows) := ⟨rfl, rfl, rfl, by decide +kernel, rfl, by decide +kernel, by decide +kernel⟩
theorem ok_LawRows {f : Addr} {fd : FuncData} (F : Fun K "_law_rows" "_law_rows" sLawRows f fd) (E : Ev K mg CN Ca Cb Cc) {fLawAt : Addr} {dLawAt : FuncData} (c_LawAt : CalD P w K mg base 1 "_law_at" ["_law_script", "_law_k"] TAt fLawAt dLawAt) {fLawNumber : Addr} {dLawNumber : FuncData} (c_LawNumber : CalD P w K mg base 1 "_law_number" ["_law_cell", "_law_kind"] TNumber fLawNumber dLawNumber) : FnOk P w K mg base (CX1 P w) 2 f fd ["_law_script", "_law_wide"] (spD K TRows) := by
  refine F.okD scLawRows (fun ds M q x h => ?_) (fun cdv A outer s H E' hr => ⟨_, (jss_cons (js_set (i := 2) scLawRows.nd rfl (Or.inr rfl) (j_mod (j_fn c_LawAt hr passes1 (ja_cons (jv 0) (ja_cons jint ja_nil (hs := starC)) (hs := starN))) jint))
      (jss_cons (js_set (i := 3) scLawRows.nd rfl (Or.inr rfl) (j_lstM ja_nil))
      (jss_cons (js_for (ji_range E.n_range (ja_cons (j_add jint (j_mod (j_mod (j_mul (j_fn c_LawAt hr passes1 (ja_cons (jv 0) (ja_cons jint ja_nil (hs := starC)) (hs := starN))) jint) jint) jint)) ja_nil (hs := starB))) (pg_name (i := 4) scLawRows.nd rfl (Or.inr rfl)) gd_name (jss_one (js_expr (j_append (jv 3) (ja_cons (j_comp (ys := ["_law_kind", "_law_script", "_law_k"]) (caps := [2, 0, 4]) ⟨rfl, by decide +kernel, by decide +kernel, rfl, (by show ∀ p : Str × NameKind, p ∈ _ → p.2 = NameKind.free → List.lookup p.1 (defScope sLawRows).names = some .cell; decide +kernel), by decide +kernel, (by show ∀ q : Str × Nat, q ∈ _ → (["_law_script", "_law_wide", "_law_kind", "_law_rows_here", "_law_k", "_law_cell", "_law_one", "_law_two", "_law_row"] : List Str)[q.2]? = some q.1 ∧ List.lookup q.1 (defScope sLawRows).names = some .cell ∧ _; decide +kernel), rfl⟩ (ji_range E.n_range (ja_cons (j_add (jv 1) jint) ja_nil (hs := starB))) (fun C s H fp => (j_fn c_LawNumber hr (passesN (P := P) (w := w)) (ja_cons (j_fn c_LawAt hr (passesN (P := P) (w := w)) (ja_cons (jv 2) (ja_cons (j_add (j_add jint (j_mul jint (jv 3))) (jv 0)) ja_nil (hs := starB)) (hs := starN))) (ja_cons (jv 1) ja_nil (hs := starN)) (hs := starF))))) ja_nil)))))
      (jss_cons (js_set (i := 5) scLawRows.nd rfl (Or.inl rfl) (j_fn c_LawAt hr passes1 (ja_cons (jv 0) (ja_cons jint ja_nil (hs := starC)) (hs := starN))))
      (jss_cons (js_cut (js_if (jt_eq hr (j_mod (jv 5) jint) jint) (jss_cons (js_set (i := 6) scLawRows.nd rfl (Or.inr rfl) (j_sub (j_mod (j_mod (j_mul (jv 5) jint) jint) jint) jint))
      (jss_cons (js_set (i := 7) scLawRows.nd rfl (Or.inr rfl) (j_sub (j_mod (j_mod (j_mul (jv 5) jint) jint) jint) jint))
      (jss_cons (js_setcompKM (i := 8) scLawRows.nd rfl (Or.inl rfl) (ys := ["_law_one", "_law_two", "_law_rows_here"]) (caps := [6, 7, 3]) ⟨rfl, by decide +kernel, by decide +kernel, rfl, (by show ∀ p : Str × NameKind, p ∈ _ → p.2 = NameKind.free → List.lookup p.1 (defScope sLawRows).names = some .cell; decide +kernel), by decide +kernel, (by show ∀ q : Str × Nat, q ∈ _ → (["_law_script", "_law_wide", "_law_kind", "_law_rows_here", "_law_k", "_law_cell", "_law_one", "_law_two", "_law_row"] : List Str)[q.2]? = some q.1 ∧ List.lookup q.1 (defScope sLawRows).names = some .cell ∧ _; decide +kernel), rfl⟩ (jk_of (ji_range E.n_range (ja_cons (j_add (jv 1) jint) ja_nil (hs := starB)))) (fun C s H fp => (j_add (j_mul (jv 1) (j_ix (j_ix (jv 3) jint) (jv 0))) (j_mul (jv 2) (j_ix (j_ix (jv 3) (j_neg jint)) (jv 0))))))
      (jss_cons (js_setix (jv 8) (jv 1) (j_add (j_ix (jv 8) (jv 1)) (j_mod (j_div (jv 5) jint) jint)))
      (jss_one (js_expr (j_insert (jv 3) (ja_cons (j_mod (j_div (jv 5) jint) (j_add (j_len E.n_len (ja_cons (jv 3) ja_nil (hs := starN))) jint)) (ja_cons (jv 8) ja_nil (hs := starN)) (hs := starB))))))))) jss_nil))
      (jss_one (js_ret (jv 3)))))))), fun ds M q x h => ?_⟩)
  · obtain ⟨ns, u, rfl, _⟩ := h; rfl
  · obtain ⟨ns, u, rfl, nl, u1, u4, h⟩ := h
    have sz : ∀ {z : Nat}, z ≤ 1000 → z ≤ sizeLine := fun h => Nat.le_trans h (by decide)
    refine ⟨ns, 1, rfl, nl, by decide, by decide, fun c1 h1 => ⟨by decide, ?_⟩⟩
    have k0 := Int.emod_nonneg c1 (show (4 : Int) ≠ 0 by decide)
    have k4 := Int.emod_lt_of_pos c1 (show (0 : Int) < 4 by decide)
    refine ⟨by decide, ?_⟩
    refine ⟨ns, 1, rfl, nl, by decide, by decide, fun c2 h2 => ⟨⟨nm_big h2, bg (k := 40) (by decide)⟩, by decide, by decide, ?_⟩⟩
    have n0 := Int.emod_nonneg (c2 * 48271 % 65521) (show (5 : Int) ≠ 0 by decide)
    have n5 := Int.emod_lt_of_pos (c2 * 48271 % 65521) (show (0 : Int) < 5 by decide)
    generalize c2 * 48271 % 65521 % 5 = n at *
    generalize c1 % 4 = kd at *
    walk_at "vc"
    dsimp only [fAdd]
    refine ⟨by omega, ?_⟩
    refine forD_map (fun xs ρ' M' => ∃ (k m : Nat) (R : List (List Int)) (o4 : Option Dt), xs = rngD (k : Int) m ∧ k + m = (1 + n).toNat ∧ R.length = k ∧ (∀ r ∈ R, Wd u BN r) ∧ M' = M ++ [.lst (R.map ilD)] ∧ ρ' = [some (.scr ns), some (.int (u : Int)), some (.int kd), some (.loc M.length), o4, none, none, none, none]) (fun x xs ρ' M' hj nxt => ?_) (fun ρ' M' hj => ?_) _ _ _ ⟨0, (1 + n).toNat, [], none, rfl, by omega, rfl, fun r hr => (nomatch hr), rfl, rfl⟩
    · obtain ⟨k, m, R, o4, ex, km, Rl, Rw, rfl, rfl⟩ := hj
      obtain ⟨m', rfl, rfl, rfl⟩ := rngD_cons ex
      refine ⟨⟨_, _, rfl, at_new⟩, ?_⟩
      walk_at "vc"
      dsimp only [dComp]
      walk_at "vc"
      dsimp only [fAdd]
      refine ⟨by omega, by rw [rngD_len]; exact sz (by omega), ?_⟩
      refine compD_ex (fun y => ∃ v, y = .int v ∧ Bz.Ab v BN) _ _ (fun x hx qq hq => ?_) fun ys hl hys => ?_
      · obtain ⟨c, hc, rfl⟩ := rngD_mem hx
        refine ⟨⟨bg (k := 40) (by decide), bg (k := 40) (by omega)⟩, ns, _, rfl, nl, by omega, by omega, fun a ha => ⟨a, kd, rfl, ha, k0, k4, fun v hv => hq _ ⟨v, rfl, hv⟩⟩⟩
      · obtain ⟨r, rfl, hr⟩ := ints_of ys hys
        rw [rngD_len, List.length_map] at hl
        rw [List.nil_append]
        refine ⟨M.length, _, _, rfl, rfl, at_new, ?_, ?_⟩
        · rw [List.length_map]; exact Nat.lt_of_le_of_lt (show R.length ≤ 10 by omega) (by decide)
        rw [set_new]
        refine nxt _ _ ⟨k + 1, m', R ++ [r], _, by rw [Int.natCast_add]; rfl, by omega, by rw [List.length_append, Rl]; rfl, fun z hz => ?_, by rw [List.map_append]; rfl, rfl⟩
        rcases List.mem_append.mp hz with y | y
        · exact Rw z y
        · have e : z = r := by simpa using y
          subst e
          exact ⟨by omega, hr⟩
    · obtain ⟨k, m, R, o4, ex, km, Rl, Rw, rfl, rfl⟩ := hj
      have m0 : m = 0 := by
        have := congrArg List.length ex
        rw [rngD_len] at this; exact this.symm
      have R1 : 1 ≤ R.length := by omega
      have R5 : R.length ≤ 5 := by omega
      refine ⟨ns, 27, rfl, nl, by decide, by decide, fun c hc => ?_⟩
      refine ⟨fun ρ' M' => ∃ (E : Ms) (X : List (List Int)) (a b c' : Dt) (o4 o5 o6 o7 o8 : Option Dt), M' = M ++ E ∧ Frz M.length E (.loc M.length) (mlD X) ∧ 1 ≤ X.length ∧ X.length ≤ 6 ∧ (∀ r ∈ X, Wd u BM r) ∧ ρ' = [some a, some b, some c', some (.loc M.length), o4, o5, o6, o7, o8], ⟨by decide, fun z => ?_, fun z => ?_⟩, fun ρ' M' hP => ?_⟩
      · have hdv : 0 ≤ c / 4 := Int.ediv_nonneg hc.1 (by decide)
        have a0 := Int.emod_nonneg (c * 48271 % 65521) (show (7 : Int) ≠ 0 by decide)
        have a1 := Int.emod_lt_of_pos (c * 48271 % 65521) (show (0 : Int) < 7 by decide)
        have b0 := Int.emod_nonneg (c * 69621 % 65537) (show (7 : Int) ≠ 0 by decide)
        have b1 := Int.emod_lt_of_pos (c * 69621 % 65537) (show (0 : Int) < 7 by decide)
        have e0 := Int.emod_nonneg (c / 2) (show (2 : Int) ≠ 0 by decide)
        have e1 := Int.emod_lt_of_pos (c / 2) (show (0 : Int) < 2 by decide)
        refine ⟨⟨nm_big hc, bg (k := 40) (by decide)⟩, by decide, by decide, ⟨nm_big hc, bg (k := 40) (by decide)⟩, by decide, by decide, ?_⟩
        generalize c * 48271 % 65521 % 7 = a at *
        generalize c * 69621 % 65537 % 7 = b at *
        have hl0 : 0 < R.length := by omega
        have hll : R.length - 1 < R.length := by omega
        have w0 := Rw _ (List.getElem_mem hl0)
        have wl := Rw _ (List.getElem_mem hll)
        generalize hr0 : R[0] = r0 at *
        generalize hrl : R[R.length - 1] = rl at *
        dsimp only [dCompKM, kOf]
        walk_at "vc"
        refine ⟨by omega, by rw [rngD_len]; exact sz (by omega), ?_⟩
        have rd0 : ∀ q : DQ, q (ilD r0) (M ++ [MO.lst (R.map ilD)]) → fIx (.loc M.length) (.int 0) (M ++ [MO.lst (R.map ilD)]) q := fun q hq => fIx_seq (d := .loc M.length) (seq_at at_new) (by have := ml_at hl0; rw [hr0] at this; exact this) hq
        have rdl : ∀ q : DQ, q (ilD rl) (M ++ [MO.lst (R.map ilD)]) → fIx (.loc M.length) (.int (-1)) (M ++ [MO.lst (R.map ilD)]) q := fun q hq => fIx_seq (d := .loc M.length) (seq_at at_new) (at_last (by rw [List.length_map, List.getElem?_map, List.getElem?_eq_getElem hll, hrl]; rfl) (by rw [List.length_map]; exact R1)) hq
        refine compK_map (f := fun d => match d with | .int c => .int ((a - 3) * r0.getD c.toNat 0 + (b - 3) * rl.getD c.toNat 0) | d => d) trivial (fun x hx qq hq => ?_) ?_
        · obtain ⟨x, hx, rfl⟩ := rngD_mem hx
          have hx : x < u + 1 := by omega
          rw [Int.zero_add] at hq ⊢
          have hq : qq (.int ((a - 3) * r0.getD x 0 + (b - 3) * rl.getD x 0)) _ := hq
          have l0 := w0.len
          have ll := wl.len
          walk_at "vc"
          refine rd0 _ ?_
          refine (fIx_seq (d := ilD r0) rfl (in_at (by omega)) ?_ : fIx (ilD r0) (.int (x : Int)) _ _)
          refine ⟨⟨bg (k := 40) (by omega), bn_big (w0.at_ hx)⟩, ?_⟩
          walk_at "vc"
          dsimp only [fNeg]
          refine rdl _ ?_
          refine (fIx_seq (d := ilD rl) rfl (in_at (by omega)) ?_ : fIx (ilD rl) (.int (x : Int)) _ _)
          exact ⟨⟨bg (k := 40) (by omega), bn_big (wl.at_ hx)⟩, hq⟩
        rw [List.nil_append]
        obtain ⟨row, hrow⟩ : ∃ row : List Int, row = (List.range (u + 1)).map fun c => (a - 3) * r0.getD c 0 + (b - 3) * rl.getD c 0 := ⟨_, rfl⟩
        have er : ∀ g : Dt → Dt, (∀ c : Nat, g (.int (0 + (c : Int))) = .int ((a - 3) * r0.getD c 0 + (b - 3) * rl.getD c 0)) → (rngD 0 ((u : Int) + 1).toNat).map g = row.map Dt.int := fun g hg => by
          rw [show ((u : Int) + 1).toNat = u + 1 by omega, hrow]
          unfold rngD
          rw [List.map_map, List.map_map]
          exact List.map_congr_left fun c hc => hg c
        rw [er _ fun c => by show Dt.int ((a - 3) * r0.getD (0 + (c : Int)).toNat 0 + (b - 3) * rl.getD (0 + (c : Int)).toNat 0) = _; rw [show (0 + (c : Int)).toNat = c by omega]]
        have rlen : row.length = u + 1 := by rw [hrow]; simp
        have rab : ∀ v ∈ row, Bz.Ab v (24 * 10 ^ 190) := fun v hv => by
          rw [hrow] at hv
          obtain ⟨x, hx, rfl⟩ := List.mem_map.mp hv
          have hx := List.mem_range.mp hx
          have m1 := Bz.Ab.mul (show Bz.Ab (a - 3) 3 from ⟨by omega, by omega⟩) (w0.at_ hx)
          have m2 := Bz.Ab.mul (show Bz.Ab (b - 3) 3 from ⟨by omega, by omega⟩) (wl.at_ hx)
          exact (m1.add m2).mono (by decide)
        clear er hrow
        have at0 : ∀ o : MO, (M ++ [MO.lst (R.map ilD)] ++ [o])[M.length]? = some (MO.lst (R.map ilD)) := fun o => by simp
        have l1 : (M ++ [MO.lst (R.map ilD)]).length = M.length + 1 := by simp
        have at1 : ∀ o o' : MO, (M ++ [o'] ++ [o])[M.length + 1]? = some o := fun o o' => by simp
        have st1 : ∀ o o' o2 : MO, (M ++ [o'] ++ [o]).set (M.length + 1) o2 = M ++ [o'] ++ [o2] := fun o o' o2 => by simp [List.set_append]
        have st0 : ∀ o o' o2 : MO, (M ++ [o'] ++ [o]).set M.length o2 = M ++ [o2] ++ [o] := fun o o' o2 => by simp [List.set_append]
        rw [l1]
        dsimp only [sSetIx]
        walk_at "vc"
        refine (fIx_seq (d := .loc (M.length + 1)) (seq_at (at1 _ _)) (in_at (l := row) (j := u) (by omega)) ?_ : fIx (.loc (M.length + 1)) (.int (u : Int)) _ _)
        refine ⟨⟨by decide, bg (k := 40) (by decide)⟩, by decide, ?_⟩
        dsimp only [fAdd]
        refine ⟨M.length + 1, (u : Int), _, u, rfl, rfl, at1 _ _, by rw [List.length_map]; exact ix_nat (by omega), ?_⟩
        rw [st1, ← List.map_set]
        generalize hv : row.getD u 0 + c / 2 % 2 = v
        have vab : Bz.Ab v BM := by
          have : Bz.Ab (row.getD u 0) (24 * 10 ^ 190) := by
            rw [List.getD_eq_getElem?_getD, List.getElem?_eq_getElem (by omega)]
            exact rab _ (List.getElem_mem _)
          obtain ⟨x1, x2⟩ := this
          rw [← hv]
          exact ⟨by unfold BM; omega, by unfold BM; omega⟩
        have wrow : Wd u BM (row.set u v) := ⟨by rw [List.length_set]; exact rlen, fun y hy => by
          rcases List.mem_or_eq_of_mem_set hy with z | z
          · exact (rab y z).mono (by decide)
          · rw [z]; exact vab⟩
        generalize row.set u v = row' at *
        dsimp only [dIns]
        walk_at "vc"
        refine ⟨⟨_, _, rfl, at0 _⟩, ⟨by decide, bg (k := 40) (by decide)⟩, ?_⟩
        refine (fLen_seq (d := .loc M.length) (seq_at (at0 _)) ?_ : fLen [.loc M.length] _ _)
        rw [List.length_map]
        dsimp only [fAdd]
        have i0 := Int.emod_nonneg (c / 4) (show (R.length : Int) + 1 ≠ 0 by omega)
        have i1 := Int.emod_lt_of_pos (c / 4) (show (0 : Int) < (R.length : Int) + 1 by omega)
        refine ⟨by omega, M.length, R.map ilD, .loc (M.length + 1), (c / 4 % ((R.length : Int) + 1)).toNat, rfl, by rw [Int.toNat_of_nonneg i0], at0 _, ?_, ?_, ?_⟩
        · rw [List.length_map]; exact Nat.lt_of_le_of_lt (show R.length ≤ 10 by omega) (by decide)
        · rw [List.length_map]; omega
        rw [st0]
        generalize hi : (c / 4 % ((R.length : Int) + 1)).toNat = i at *
        have il : i ≤ R.length := by omega
        refine ⟨[MO.lst ((R.map ilD).take i ++ .loc (M.length + 1) :: (R.map ilD).drop i), MO.lst (row'.map Dt.int)], R.take i ++ row' :: R.drop i, _, _, _, _, _, _, _, _, by rw [List.append_assoc]; rfl, ?_, ?_, ?_, fun r hr => ?_, rfl⟩
        · refine .newL (Nat.le_refl _) (by rw [Nat.sub_self]; rfl) ?_
          rw [List.map_append, List.map_cons, ← List.map_take, ← List.map_drop]
          refine (FrzL.old (mls_un _)).app (.cons ?_ (FrzL.old (mls_un _)))
          exact .newL (Nat.le_succ _) (by rw [show M.length + 1 - M.length = 1 by omega]; rfl) (FrzL.old (ints_un _))
        · rw [List.length_append, List.length_cons]; omega
        · rw [List.length_append, List.length_cons, List.length_take, List.length_drop]; omega
        · rcases List.mem_append.mp hr with y | y
          · exact (Rw r (List.mem_of_mem_take y)).mono (by decide)
          · rcases List.mem_cons.mp y with e | y
            · rw [e]; exact wrow
            · exact (Rw r (List.mem_of_mem_drop y)).mono (by decide)
      · exact ⟨_, R, _, _, _, _, _, _, _, _, rfl, .newL (Nat.le_refl _) (by rw [Nat.sub_self]; rfl) (FrzL.old (mls_un _)), R1, by omega, fun r hr => (Rw r hr).mono (by decide), rfl⟩
      · obtain ⟨E, X, a, b, c', o4, o5, o6, o7, o8, rfl, hf, X1, X6, Xw, rfl⟩ := hP
        exact h E _ X hf X1 X6 Xw
end
end Pg
set_option maxRecDepth 100000
set_option maxHeartbeats 4000000
namespace Pg
open PySem L2 Fr0 Tx
theorem iterK_at {M : Ms} {k : Nat} {xs : List Dt} (h : M[k]? = some (MO.lst xs)) : iterK M (.loc k) = some (xs, fun M' : Ms => M'[k]? = some (MO.lst xs)) := by
  show (match M[k]? with | some (MO.lst xs) => some (xs, fun M' : Ms => M'[k]? = some (MO.lst xs)) | _ => none) = _
  rw [h]
theorem eqV_int (i : Int) : eqV (V.int i) (V.int i) = true := by unfold eqV; simp
theorem all_true {l : List Nat} {f : Nat → Bool} (h : ∀ j, f j = true) : l.all f = true := List.all_eq_true.mpr fun j _ => h j
theorem eqM_int {M : Ms} {n : Nat} (i : Int) : EqM M n (.int i) (.int i) true := by
  have := EqM.flat (M := M) (n := n) (d := .int i) (e := .int i) rfl rfl
  rwa [eqV_int] at this
theorem eqM_lst {M : Ms} {n : Nat} {d e : Dt} {ds : List Dt} (h1 : lstQ M d = some ds) (h2 : lstQ M e = some ds) (h : ∀ d ∈ ds, EqM M n d d true) : EqM M (n + 1) d e true := by
  have := EqM.lst (M := M) (n := n) (d := d) (e := e) (f := fun _ => true) h1 h2 rfl fun j d e h1 h2 => by
    rw [h1] at h2; cases h2; exact h d (List.mem_of_getElem? h1)
  rwa [all_true fun _ => rfl] at this
theorem eqM_ml {M : Ms} (rows : List (List Int)) : EqM M 2 (mlD rows) (mlD rows) true := eqM_lst rfl rfl fun d hd => by
  obtain ⟨r, _, rfl⟩ := List.mem_map.mp hd
  exact eqM_lst rfl rfl fun d hd => by
    obtain ⟨i, _, rfl⟩ := List.mem_map.mp hd
    exact eqM_int i
abbrev BG : Int := 2 ^ 1400
def rowsL (xs : List Bz.Row) (cs : List Nat) : List (List Int) := xs.map fun x => cs.map x
theorem sgn : ∀ k : Nat, (1 : Int) - 2 * ((k : Int) % 2) = (-1) ^ k
  | 0 => rfl
  | k + 1 => by
    have := sgn k
    rw [Int.pow_succ, ← this]
    omega
theorem d_big {xs : List Bz.Row} {cs : List Nat} (h : ∀ x ∈ xs, ∀ c ∈ cs, Bz.Ab (x c) BG) (h1 : xs.length ≤ 3) (h2 : cs.length ≤ 3) : Big (Bz.D xs cs) := by
  have a := Bz.Ab.det (B := BG) (by decide) xs cs h (by omega)
  have e := Bz.pow_le (B := BG) (a := xs.length) (b := 3) (by decide) h1
  have e3 : ((12 * BG) ^ 3 : Int) < ((2 ^ 8000 : Nat) : Int) := by decide
  have : ((Bz.D xs cs).natAbs : Int) < ((2 ^ 8000 : Nat) : Int) := by
    obtain ⟨a, b⟩ := a
    omega
  exact Int.ofNat_lt.mp this
theorem bg_big {n : Int} (h : Bz.Ab n BG) : Big n := bg (k := 1410) (by obtain ⟨a, b⟩ := h; unfold BG at a b; omega)
theorem rows_erase {xs : List Bz.Row} {cs : List Nat} {k : Nat} : (rowsL xs cs).map (fun r => r.eraseIdx k) = rowsL xs (cs.eraseIdx k) := by
  unfold rowsL
  rw [List.map_map]
  refine List.map_congr_left fun x _ => ?_
  show (cs.map x).eraseIdx k = (cs.eraseIdx k).map x
  rw [List.eraseIdx_eq_take_drop_succ, List.eraseIdx_eq_take_drop_succ, List.map_append, List.map_take, List.map_drop]
section
variable {P : Program} {w : World} {K : PySem.W.Frag} {mg : Str → Option Value} {base : Heap} {CN Ca Cb Cc : Addr}
def TDet (n : Nat) : DF := fun as M q _ => ∃ (d : Dt) (xs : List Bz.Row) (cs : List Nat), as = [d] ∧ lstR M d = some ((rowsL xs cs).map ilD) ∧ xs.length = cs.length ∧ xs.length ≤ n ∧ xs.length ≤ 4 ∧ (∀ x ∈ xs, ∀ c ∈ cs, Bz.Ab (x c) BG) ∧ q (.int (Bz.D xs cs)) M
theorem scLawDet : FnScope ["_law_rows_here", "_law_total", "_law_k", "_law_rest"] ["_law_rows_here"] (defScope sLawDet) := ⟨rfl, rfl, rfl, by decide +kernel, rfl, by decide +kernel, by decide +kernel⟩
theorem det_step {n : Nat} {f : Addr} {fd : FuncData} (F : Fun K "_law_det" "_law_det" sLawDet f fd) (E : Ev K mg CN Ca Cb Cc) (c_LawDet : CalD P w K mg base (n + 1) "_law_det" ["_law_rows_here"] (TDet n) f fd) : FnOk P w K mg base (CX1 P w) (n + 2) f fd ["_law_rows_here"] (spD K (TDet (n + 1))) := by
  refine F.okD scLawDet (fun ds M q x h => ?_) (fun cdv A outer s H E' hr => ⟨_, (jss_cons (js_if (jt_eqM 1 hr (jv 0) (j_lst ja_nil)) (jss_one (js_ret jint)) jss_nil)
      (jss_cons (js_set (i := 1) scLawDet.nd rfl (Or.inl rfl) jint)
      (jss_cons (js_for (ji_range E.n_range (ja_cons (j_len E.n_len (ja_cons (jv 0) ja_nil (hs := starN))) ja_nil (hs := starF))) (pg_name (i := 2) scLawDet.nd rfl (Or.inr rfl)) gd_name (jss_cons (js_setcompK (i := 3) scLawDet.nd rfl (Or.inl rfl) (ys := ["_law_k"]) (caps := [2]) ⟨rfl, by decide +kernel, by decide +kernel, rfl, (by show ∀ p : Str × NameKind, p ∈ _ → p.2 = NameKind.free → List.lookup p.1 (defScope sLawDet).names = some .cell; decide +kernel), by decide +kernel, (by show ∀ q : Str × Nat, q ∈ _ → (["_law_rows_here", "_law_total", "_law_k", "_law_rest"] : List Str)[q.2]? = some q.1 ∧ List.lookup q.1 (defScope sLawDet).names = some .cell ∧ _; decide +kernel), rfl⟩ (jk_seq (je_fz (j_slFromL (jv 0) jint))) (fun C s H fp => (j_catL (je_fz (j_slToL (jv 0) (jv 1))) (je_fz (j_slFromL (jv 0) (j_add (jv 1) jint))))))
      (jss_one (js_set (i := 1) scLawDet.nd rfl (Or.inl rfl) (j_add (jv 1) (j_mul (j_mul (j_sub jint (j_mul jint (j_mod (jv 2) jint))) (j_ix (j_ix (jv 0) jint) (jv 2))) (j_fn c_LawDet hr passes1 (ja_cons (jv 3) ja_nil (hs := starN)) (hk := Nat.le_refl _))))))))
      (jss_one (js_ret (jv 1)))))), fun ds M q x h => ?_⟩)
  · obtain ⟨d, xs, cs, rfl, _⟩ := h; rfl
  · obtain ⟨d, xs, cs, rfl, hd, hl, hn, h4, hb, h⟩ := h
    have hQ := lstR_Q hd
    have hS := lstR_seq hd
    have sz : ∀ {z : Nat}, z ≤ 1000 → z ≤ sizeLine := fun h => Nat.le_trans h (by decide)
    cases xs with
    | nil =>
      have ce : cs = [] := List.eq_nil_of_length_eq_zero hl.symm
      subst ce
      exact ⟨by decide, true, .inr ⟨_, hQ⟩, .inr ⟨_, rfl⟩, eqM_lst (ds := []) hQ rfl (fun d hd => nomatch hd), fun _ => h, fun z => (nomatch z)⟩
    | cons x0 xs =>
      rw [List.length_cons] at hl hn h4
      have hql : ((rowsL (x0 :: xs) cs).map ilD).length = cs.length := by rw [List.length_map]; unfold rowsL; rw [List.length_map, List.length_cons]; exact hl
      refine ⟨by decide, false, .inr ⟨_, hQ⟩, .inr ⟨_, rfl⟩, EqM.len hQ rfl (by rw [hql]; show cs.length ≠ 0; omega), fun z => (nomatch z), fun _ => ?_⟩
      walk_at "vc"
      refine (fLen_seq (d := d) hS ?_ : fLen [d] _ _)
      rw [hql]
      refine ⟨by omega, ?_⟩
      rw [show ((cs.length : Int)).toNat = cs.length by omega]
      have r0 : atI ((rowsL (x0 :: xs) cs).map ilD) 0 = some (ilD (cs.map x0)) := atI_zero
      refine forD_map (fun zs ρ' M' => M = M' ∧ ∃ (k m : Nat) (o2 o3 : Option Dt), zs = rngD (k : Int) m ∧ k + m = cs.length ∧ ρ' = [some d, some (.int (Bz.ssum (fun p => (-1) ^ p * (x0 (cs.getD p 0) * Bz.D xs (cs.eraseIdx p))) k)), o2, o3]) (fun x zs ρ' M' hj nxt => ?_) (fun ρ' M' hj => ?_) _ _ _ ⟨rfl, 0, cs.length, none, none, rfl, by omega, rfl⟩
      · obtain ⟨rfl, k, m, o2, o3, ex, km, rfl⟩ := hj
        obtain ⟨m', rfl, rfl, rfl⟩ := rngD_cons ex
        have kl : k < cs.length := by omega
        have gk : (cs.map x0).getD k 0 = x0 (cs.getD k 0) := by
          rw [List.getD_eq_getElem?_getD, List.getElem?_map, List.getElem?_eq_getElem kl, List.getD_eq_getElem?_getD, List.getElem?_eq_getElem kl]; rfl
        have ck : cs.getD k 0 ∈ cs := by rw [List.getD_eq_getElem?_getD, List.getElem?_eq_getElem kl]; exact List.getElem_mem _
        dsimp only [dCompK, iSeqK, dFz, dSlL]
        walk_at "vc"
        refine ⟨_, 1, hQ, rfl, ?_⟩
        rw [← List.map_drop, show (rowsL (x0 :: xs) cs).drop 1 = rowsL xs cs from rfl]
        refine fz_loc (mls_un _) ?_
        dsimp only
        refine ⟨by rw [List.length_map]; unfold rowsL; rw [List.length_map]; exact sz (by omega), ?_⟩
        refine compK_pair (F := fun x r => x = ilD r ∧ r ∈ rowsL xs cs) (f := fun r => ilD (r.eraseIdx k)) (as := rowsL xs cs) trivial (fun x r hx qq hq => ?_) (prd_self ilD _ _ fun x hx => hx) ?_
        · obtain ⟨rfl, hr⟩ := hx
          have rl : r.length = cs.length := by
            unfold rowsL at hr
            obtain ⟨y, _, rfl⟩ := List.mem_map.mp hr
            rw [List.length_map]
          walk_at "vc"
          refine ⟨r.map Dt.int, k, rfl, rfl, ?_⟩
          rw [← List.map_take]
          refine fz_loc (ints_un _) ?_
          refine ⟨r.map Dt.int, k + 1, rfl, by rw [Int.natCast_add]; rfl, ?_⟩
          rw [← List.map_drop]
          refine fz_loc (ints_un _) ?_
          refine ⟨_, _, rfl, rfl, by rw [List.length_map, List.length_map, List.length_take, List.length_drop]; exact sz (by omega), ?_⟩
          rw [← List.map_append, ← List.eraseIdx_eq_take_drop_succ]
          exact hq
        rw [List.nil_append, show ((rowsL xs cs).map fun r => ilD (r.eraseIdx k)) = (rowsL xs (cs.eraseIdx k)).map ilD by rw [← rows_erase, List.map_map]; rfl]
        have el : (cs.eraseIdx k).length = cs.length - 1 := List.length_eraseIdx_of_lt kl
        have hb' : ∀ x ∈ xs, ∀ c ∈ cs.eraseIdx k, Bz.Ab (x c) BG := fun x hx c hc => hb x (List.mem_cons_of_mem _ hx) c (List.mem_of_mem_eraseIdx hc)
        have b0 := hb x0 List.mem_cons_self _ ck
        have nxt := fun o2 o3 => nxt _ M ⟨rfl, k + 1, m', o2, o3, by rw [Int.natCast_add]; rfl, by omega, rfl⟩
        have es : Bz.ssum (fun p => (-1) ^ p * (x0 (cs.getD p 0) * Bz.D xs (cs.eraseIdx p))) (k + 1) = Bz.ssum (fun p => (-1) ^ p * (x0 (cs.getD p 0) * Bz.D xs (cs.eraseIdx p))) k + (1 - 2 * ((k : Int) % 2)) * x0 (cs.getD k 0) * Bz.D xs (cs.eraseIdx k) := by
          rw [sgn, Int.mul_assoc]; rfl
        rw [es] at nxt
        have p0 := Int.emod_nonneg (k : Int) (show (2 : Int) ≠ 0 by decide)
        have p1 := Int.emod_lt_of_pos (k : Int) (show (0 : Int) < 2 by decide)
        have bs : Big ((1 - 2 * ((k : Int) % 2)) * x0 (cs.getD k 0)) := by
          have : Bz.Ab ((1 - 2 * ((k : Int) % 2)) * x0 (cs.getD k 0)) BG := by rw [sgn]; exact b0.pow
          exact bg_big this
        refine ⟨by decide, ⟨bg (k := 40) (by decide), bg (k := 40) (by omega)⟩, ?_⟩
        walk_at "vc"
        dsimp only [fSub]
        refine (fIx_seq (d := d) hS r0 ?_ : fIx d (.int 0) _ _)
        refine (fIx_seq (d := ilD (cs.map x0)) rfl (in_at (by rw [List.length_map]; exact kl)) ?_ : fIx (ilD (cs.map x0)) (.int (k : Int)) _ _)
        rw [gk]
        refine ⟨⟨bg (k := 40) (by omega), bg_big b0⟩, ?_⟩
        exact ⟨_, xs, cs.eraseIdx k, rfl, rfl, by omega, by omega, by omega, hb', ⟨bs, d_big hb' (by omega) (by omega)⟩, nxt _ _⟩
      · obtain ⟨rfl, k, m, o2, o3, ex, km, rfl⟩ := hj
        have m0 : m = 0 := by
          have := congrArg List.length ex
          rw [rngD_len] at this; exact this.symm
        have kc : k = cs.length := by omega
        subst kc
        have e : Bz.D (x0 :: xs) cs = Bz.ssum (fun p => (-1) ^ p * (x0 (cs.getD p 0) * Bz.D xs (cs.eraseIdx p))) cs.length := Bz.Lx_sum x0 cs (Bz.D xs)
        rw [e] at h
        exact h
theorem det_zero {f : Addr} {fd : FuncData} (F : Fun K "_law_det" "_law_det" sLawDet f fd) (E : Ev K mg CN Ca Cb Cc) : FnOk P w K mg base (CX1 P w) 1 f fd ["_law_rows_here"] (spD K (TDet 0)) := by
  refine F.okD scLawDet (fun ds M q x h => ?_) (fun cdv A outer s H E' hr => ⟨_, (jss_cons (js_if (jt_eqM 1 hr (jv 0) (j_lst ja_nil)) (jss_one (js_ret jint)) jss_nil)
      (jss_cons (js_set (i := 1) scLawDet.nd rfl (Or.inl rfl) jint)
      (jss_cons js_never
      (jss_one (js_ret (jv 1)))))), fun ds M q x h => ?_⟩)
  · obtain ⟨d, xs, cs, rfl, _⟩ := h; rfl
  · obtain ⟨d, xs, cs, rfl, hd, hl, hn, h4, hb, h⟩ := h
    have hQ := lstR_Q hd
    have xe : xs = [] := List.eq_nil_of_length_eq_zero (by omega)
    subst xe
    have ce : cs = [] := List.eq_nil_of_length_eq_zero hl.symm
    subst ce
    exact ⟨by decide, true, .inr ⟨_, hQ⟩, .inr ⟨_, rfl⟩, eqM_lst (ds := []) hQ rfl (fun d hd => nomatch hd), fun _ => h, fun z => (nomatch z)⟩
theorem ok_LawDet {f : Addr} {fd : FuncData} (F : Fun K "_law_det" "_law_det" sLawDet f fd) (E : Ev K mg CN Ca Cb Cc) (b : Binds K fd ["_law_rows_here"] []) (hm : mg "_law_det" = some (.ref f)) (hk : PySem.W.keepIn K (.ref f) = true) : ∀ n, FnOk P w K mg base (CX1 P w) (n + 1) f fd ["_law_rows_here"] (spD K (TDet n))
  | 0 => det_zero F E
  | n + 1 => det_step F E ⟨ok_LawDet F E b hm hk n, b, hm, hk⟩
end
theorem sum_rows (f : List Int → Int) (R : List (List Int)) : (R.map f).sum = Bz.ssum (fun i => f (R.getD i [])) R.length := by
  have : R.map f = (List.range R.length).map fun i => f (R.getD i []) := by
    apply List.ext_getElem
    · simp
    · intro i h1 h2
      have h1 : i < R.length := by simpa using h1
      rw [List.getElem_map, List.getElem_map, List.getElem_range, List.getD_eq_getElem?_getD, List.getElem?_eq_getElem h1]; rfl
  rw [this, sum_range]
theorem G_ab {R : List (List Int)} {u k j : Nat} (Rw : ∀ r ∈ R, Wd u BM r) (R6 : R.length ≤ 6) (hk : k < u) (hj : j < u) : Bz.Ab (Bz.G (Bz.arr R) R.length k j) BG := by
  unfold Bz.G
  have a : ∀ i, i < R.length → ∀ c, c < u → Bz.Ab (Bz.arr R i c) BM := fun i hi c hc => by
    unfold Bz.arr
    rw [List.getD_eq_getElem?_getD (l := R), List.getElem?_eq_getElem hi]
    exact (Rw _ (List.getElem_mem _)).at_ (by omega)
  refine (Bz.Ab.sum fun i hi => (a i hi k hk).mul (a i hi j hj)).mono ?_
  have : (R.length : Int) * (BM * BM) ≤ 6 * (BM * BM) := Int.mul_le_mul_of_nonneg_right (by omega) (by decide)
  exact Int.le_trans this (by decide)
section
variable {P : Program} {w : World} {K : PySem.W.Frag} {mg : Str → Option Value} {base : Heap} {CN Ca Cb Cc : Addr}
def TJust : DF := fun as M q _ => ∃ (R : List (List Int)) (u : Nat), as = [mlD R, .int (u : Int)] ∧ R.length ≤ 6 ∧ u ≤ 4 ∧ (∀ r ∈ R, Wd u BM r) ∧ Bz.D ((List.range u).map (Bz.G (Bz.arr R) R.length)) (List.range u) ≠ 0 ∧ ∀ E, q (.bl true) (M ++ E)
theorem scLawJustOne : FnScope ["_law_rows_here", "_law_wide", "_law_squares", "_law_k"] ["_law_rows_here", "_law_wide"] (defScope sLawJustOne) := ⟨rfl, rfl, rfl, by decide +kernel, rfl, by decide +kernel, by decide +kernel⟩
theorem ok_LawJustOne {f : Addr} {fd : FuncData} (F : Fun K "_law_just_one" "_law_just_one" sLawJustOne f fd) (E : Ev K mg CN Ca Cb Cc) {fLawDet : Addr} {dLawDet : FuncData} (c_LawDet : CalD P w K mg base 5 "_law_det" ["_law_rows_here"] (TDet 4) fLawDet dLawDet) : FnOk P w K mg base (CX1 P w) 6 f fd ["_law_rows_here", "_law_wide"] (spD K TJust) := by
  refine F.okD scLawJustOne (fun ds M q x h => ?_) (fun cdv A outer s H E' hr => ⟨_, (jss_cons (js_set (i := 2) scLawJustOne.nd rfl (Or.inl rfl) (j_lstM ja_nil))
      (jss_cons (js_for (ji_range E.n_range (ja_cons (jv 1) ja_nil (hs := starN))) (pg_name (i := 3) scLawJustOne.nd rfl (Or.inr rfl)) gd_name (jss_one (js_expr (j_append (jv 2) (ja_cons (j_compC (ys := ["_law_rows_here", "_law_k"]) (caps := [0, 3]) ⟨rfl, by decide +kernel, by decide +kernel, rfl, (by show ∀ p : Str × NameKind, p ∈ _ → p.2 = NameKind.free → List.lookup p.1 (defScope sLawJustOne).names = some .cell; decide +kernel), by decide +kernel, (by show ∀ q : Str × Nat, q ∈ _ → (["_law_rows_here", "_law_wide", "_law_squares", "_law_k"] : List Str)[q.2]? = some q.1 ∧ List.lookup q.1 (defScope sLawJustOne).names = some .cell ∧ _; decide +kernel), rfl⟩ (ji_range E.n_range (ja_cons (jv 1) ja_nil (hs := starN))) (fun S C s H fp => (j_sum E.n_sum (ja_cons (j_compK (ys := ["_law_k", "_law_j"]) (caps := [2, 0]) (CompScope.inner S rfl rfl (by decide +kernel) (by decide +kernel) rfl (by decide +kernel) (by decide +kernel) (by decide +kernel) rfl) (jk_seq (jv 1)) (fun C s H fp => (j_mul (j_ix (jv 0) (jv 1)) (j_ix (jv 0) (jv 2))))) ja_nil)))) ja_nil)))))
      (jss_one (js_ret (j_ne hr (j_fn c_LawDet hr passes1 (ja_cons (jv 2) ja_nil (hs := starN))) jint))))), fun ds M q x h => ?_⟩)
  · obtain ⟨R, u, rfl, _⟩ := h; rfl
  · obtain ⟨R, u, rfl, R6, u4, Rw, nz, h⟩ := h
    have sz : ∀ {z : Nat}, z ≤ 1000 → z ≤ sizeLine := fun h => Nat.le_trans h (by decide)
    refine ⟨by decide, ?_⟩
    walk_at "vc"
    refine ⟨by omega, ?_⟩
    rw [show ((u : Int)).toNat = u by omega]
    refine forD_map (fun zs ρ' M' => ∃ (k m : Nat) (o3 : Option Dt), zs = rngD (k : Int) m ∧ k + m = u ∧ M' = M ++ [MO.lst ((rowsL ((List.range k).map (Bz.G (Bz.arr R) R.length)) (List.range u)).map ilD)] ∧ ρ' = [some (mlD R), some (.int (u : Int)), some (.loc M.length), o3]) (fun x zs ρ' M' hj nxt => ?_) (fun ρ' M' hj => ?_) _ _ _ ⟨0, u, none, rfl, by omega, rfl, rfl⟩
    · obtain ⟨k, m, o3, ex, km, rfl, rfl⟩ := hj
      obtain ⟨m', rfl, rfl, rfl⟩ := rngD_cons ex
      refine ⟨⟨_, _, rfl, at_new⟩, ?_⟩
      walk_at "vc"
      dsimp only [dComp]
      walk_at "vc"
      refine ⟨by omega, by rw [rngD_len]; exact sz (by omega), ?_⟩
      refine compD_map (f := fun d => match d with | .int j => .int (Bz.G (Bz.arr R) R.length k j.toNat) | d => d) _ _ (fun x hx qq hq => ?_) ?_
      · obtain ⟨j, hj, rfl⟩ := rngD_mem hx
        have hj : j < u := by omega
        rw [Int.zero_add] at hq ⊢
        have hq : qq (.int (Bz.G (Bz.arr R) R.length k j)) _ := hq
        walk_at "vc"
        refine ⟨by rw [List.length_map]; exact sz (by omega), ?_⟩
        refine compK_pair (F := fun x r => x = ilD r ∧ r ∈ R) (f := fun r => .int (r.getD k 0 * r.getD j 0)) (as := R) trivial (fun x r hx q2 hq2 => ?_) (prd_self ilD R R fun x hx => hx) ?_
        · obtain ⟨rfl, hr⟩ := hx
          have wr := Rw r hr
          have rl := wr.len
          walk_at "vc"
          refine (fIx_seq (d := ilD r) rfl (in_at (by omega)) ?_ : fIx (ilD r) (.int (k : Int)) _ _)
          refine (fIx_seq (d := ilD r) rfl (in_at (by omega)) ?_ : fIx (ilD r) (.int (j : Int)) _ _)
          exact ⟨⟨bm_big (wr.at_ (by omega)), bm_big (wr.at_ (by omega))⟩, hq2⟩
        rw [List.nil_append]
        refine ⟨R.map fun r => r.getD k 0 * r.getD j 0, by rw [List.map_map]; rfl, ⟨_, _, rfl⟩, ?_⟩
        rw [sum_rows]
        exact hq
      · have er : ∀ g : Dt → Dt, (∀ c : Nat, g (.int (0 + (c : Int))) = .int (Bz.G (Bz.arr R) R.length k c)) → (rngD 0 ((u : Int)).toNat).map g = ((List.range u).map (Bz.G (Bz.arr R) R.length k)).map Dt.int := fun g hg => by
          rw [show ((u : Int)).toNat = u by omega]
          unfold rngD
          rw [List.map_map, List.map_map]
          exact List.map_congr_left fun c hc => hg c
        rw [List.nil_append, er _ fun c => by show Dt.int (Bz.G (Bz.arr R) R.length k (0 + (c : Int)).toNat) = _; rw [show (0 + (c : Int)).toNat = c by omega]]
        refine ⟨M.length, _, _, rfl, rfl, at_new, ?_, ?_⟩
        · rw [List.length_map]; unfold rowsL; rw [List.length_map, List.length_map, List.length_range]; exact Nat.lt_of_le_of_lt (show k ≤ 10 by omega) (by decide)
        rw [set_new]
        refine nxt _ _ ⟨k + 1, m', _, by rw [Int.natCast_add]; rfl, by omega, ?_, rfl⟩
        unfold rowsL
        rw [List.range_succ, List.map_append, List.map_append, List.map_append]; rfl
    · obtain ⟨k, m, o3, ex, km, rfl, rfl⟩ := hj
      have m0 : m = 0 := by
        have := congrArg List.length ex
        rw [rngD_len] at this; exact this.symm
      have ku : k = u := by omega
      subst ku
      have h := h [MO.lst ((rowsL ((List.range k).map (Bz.G (Bz.arr R) R.length)) (List.range k)).map ilD)]
      refine ⟨.loc M.length, _, List.range k, rfl, lstR_at at_new, by simp, by simpa using u4, by simpa using u4, fun x hx c hc => ?_, ?_⟩
      · obtain ⟨a, ha, rfl⟩ := List.mem_map.mp hx
        exact G_ab Rw R6 (List.mem_range.mp ha) (List.mem_range.mp hc)
      · have key : (!decide (Bz.D ((List.range k).map (Bz.G (Bz.arr R) R.length)) (List.range k) = 0)) = true := by rw [decide_eq_false nz]; rfl
        rw [← key] at h
        exact h
end
end Pg
set_option maxRecDepth 100000
set_option maxHeartbeats 4000000
namespace Pg
open PySem L2 Fr0 Tx
theorem fr_at {l : List Fr} {j : Nat} (h : j < l.length) : atI (l.map frD) (j : Int) = some (frD (l.getD j (0, 1))) := atI_nat (by rw [List.getElem?_map, List.getElem?_eq_getElem h, List.getD_eq_getElem?_getD, List.getElem?_eq_getElem h]; rfl)
theorem fr_1 {p : Fr} {M : Ms} {q : DQ} (h : q (.int p.2) M) : fIx (frD p) (.int 1) M q := fIx_seq (d := frD p) rfl (atI_nat (j := 1) rfl) h
theorem fr_0 {p : Fr} {M : Ms} {q : DQ} (h : q (.int p.1) M) : fIx (frD p) (.int 0) M q := fIx_seq (d := frD p) rfl atI_zero h
theorem mem_at {l : List Fr} {j : Nat} (h : j < l.length) : l.getD j (0, 1) ∈ l := by
  rw [List.getD_eq_getElem?_getD, List.getElem?_eq_getElem h]; exact List.getElem_mem _
theorem eqFr (p q : Fr) : eqVs [.int p.1, .int p.2] [.int q.1, .int q.2] = decide (p = q) := by
  obtain ⟨a, b⟩ := p
  obtain ⟨c, d⟩ := q
  show ((a == c) && ((b == d) && true)) = _
  rw [Bool.and_true]
  by_cases h1 : a = c
  · by_cases h2 : b = d
    · subst h1 h2; simp
    · simp [h1, h2]
  · simp [h1]
theorem ne_self {p : Fr} {M : Ms} {k : Bool → Ms → Prop} (h : k false M) : fNeF (frD p) (frD p) M (fun d M1 => match d with | .bl b => k b M1 | _ => False) := by
  show k (!eqVs [.int p.1, .int p.2] [.int p.1, .int p.2]) M
  rw [eqFr, decide_eq_true rfl]; exact h
structure Fits (l : List Fr) (u : Nat) (z : Bz.Row) (N : Int) (D T : Nat) : Prop where
  len : l.length = u
  pos : ∀ y, y < u → 0 < (l.getD y (0, 1)).2
  low : ∀ y, y < u → Int.gcd (l.getD y (0, 1)).1 (l.getD y (0, 1)).2 = 1
  eq : ∀ y, y < u → (l.getD y (0, 1)).1 * N = z y * (l.getD y (0, 1)).2
  bot : ∀ y, y < u → (l.getD y (0, 1)).2.natAbs ≤ D
  top : ∀ y, y < u → (l.getD y (0, 1)).1.natAbs ≤ T
def botK (l : List Fr) : Nat → Int
  | 0 => 1
  | k + 1 => botK l k * (l.getD k (0, 1)).2
def topK (r : List Int) (l : List Fr) : Nat → Int
  | 0 => 0
  | k + 1 => topK r l k * (l.getD k (0, 1)).2 + r.getD k 0 * (l.getD k (0, 1)).1 * botK l k
section
variable {l : List Fr} {u : Nat} {z : Bz.Row} {N : Int} {D T : Nat} {r : List Int}
theorem Fits.topK (h : Fits l u z N D T) : ∀ k, k ≤ u → topK r l k * N = botK l k * Bz.ssum (fun x => r.getD x 0 * z x) k
  | 0, _ => by show 0 * N = 1 * 0; simp
  | k + 1, hk => by
    have i := h.topK k (by omega)
    have e := h.eq k (by omega)
    show (Pg.topK r l k * (l.getD k (0, 1)).2 + r.getD k 0 * (l.getD k (0, 1)).1 * botK l k) * N = botK l k * (l.getD k (0, 1)).2 * (Bz.ssum (fun x => r.getD x 0 * z x) k + r.getD k 0 * z k)
    generalize (l.getD k (0, 1)).1 = p at *
    generalize (l.getD k (0, 1)).2 = q at *
    generalize Bz.ssum (fun x => r.getD x 0 * z x) k = s at *
    generalize Pg.topK r l k = t at *
    generalize botK l k = b at *
    generalize r.getD k 0 = c at *
    have e1 : (t * q + c * p * b) * N = (t * N) * q + c * b * (p * N) := by grind
    rw [e1, i, e]; grind
theorem Fits.comes (h : Fits l u z N D T) (hN : N ≠ 0) {due : Int} (hs : Bz.ssum (fun x => r.getD x 0 * z x) u = N * due) : Pg.topK r l u = due * botK l u := by
  have := h.topK (r := r) u (Nat.le_refl _)
  rw [hs] at this
  refine Int.eq_of_mul_eq_mul_right hN ?_
  rw [this]; grind
theorem Fits.botle (h : Fits l u z N D T) (hD : 1 ≤ D) : ∀ k, k ≤ u → (botK l k).natAbs ≤ D ^ k
  | 0, _ => by show (1 : Int).natAbs ≤ 1; decide
  | k + 1, hk => by
    show (botK l k * (l.getD k (0, 1)).2).natAbs ≤ D ^ (k + 1)
    rw [Int.natAbs_mul, Nat.pow_succ]
    exact Nat.mul_le_mul (h.botle hD k (by omega)) (h.bot k (by omega))
theorem Fits.tople (h : Fits l u z N D T) (hD : 1 ≤ D) {C : Nat} (hr : ∀ x, x < u → (r.getD x 0).natAbs ≤ C) : ∀ k, k ≤ u → (Pg.topK r l k).natAbs ≤ k * (C * T * D ^ k)
  | 0, _ => by show (0 : Int).natAbs ≤ _; exact Nat.zero_le _
  | k + 1, hk => by
    have i := h.tople hD hr k (by omega)
    have b := h.botle hD k (by omega)
    have a1 := h.bot k (by omega)
    have a2 := h.top k (by omega)
    have a3 := hr k (by omega)
    show (Pg.topK r l k * (l.getD k (0, 1)).2 + r.getD k 0 * (l.getD k (0, 1)).1 * botK l k).natAbs ≤ _
    refine Nat.le_trans (Int.natAbs_add_le _ _) ?_
    rw [Int.natAbs_mul, Int.natAbs_mul, Int.natAbs_mul]
    have m1 : (Pg.topK r l k).natAbs * (l.getD k (0, 1)).2.natAbs ≤ k * (C * T * D ^ k) * D := Nat.mul_le_mul i a1
    have m2 : (r.getD k 0).natAbs * (l.getD k (0, 1)).1.natAbs * (botK l k).natAbs ≤ C * T * D ^ k := Nat.mul_le_mul (Nat.mul_le_mul a3 a2) b
    have m3 : C * T * D ^ k ≤ C * T * D ^ k * D := Nat.le_mul_of_pos_right _ (by omega)
    have e : (k + 1) * (C * T * D ^ (k + 1)) = k * (C * T * D ^ k) * D + C * T * D ^ k * D := by
      rw [Nat.pow_succ, Nat.add_mul, Nat.one_mul]
      grind
    rw [e]
    omega
end
structure SzH (u C T D : Nat) : Prop where
  d1 : 1 ≤ D
  all : 12 * (C * T * D ^ u) < 2 ^ 29000
  c : C < 2 ^ 29000
  t : T < 2 ^ 7900
  d : D < 2 ^ 7900
  ct : C * T < 2 ^ 29000
  du : D ^ u < 2 ^ 29000
theorem bgn {n : Int} {m : Nat} (h : n.natAbs ≤ m) (hm : m < 2 ^ 7900) : Big n := bg (k := 7900) (Nat.lt_of_le_of_lt h hm)
theorem hgn {n : Int} {m : Nat} (h : n.natAbs ≤ m) (hm : m < 2 ^ 29000) : Hug n := Nat.lt_of_lt_of_le (Nat.lt_of_le_of_lt h hm) (Nat.pow_le_pow_right (by decide) (by decide))
theorem big_hug {n : Int} (h : Big n) : Hug n := Nat.lt_of_lt_of_le h (Nat.pow_le_pow_right (by decide) (by decide))
section
variable {P : Program} {w : World} {K : PySem.W.Frag} {mg : Str → Option Value} {base : Heap} {CN Ca Cb Cc : Addr}
def TWhole : DF := fun as M q _ => ∃ n : Int, as = [.int n] ∧ q (.bl true) M
theorem scLawWhole : FnScope ["_law_number_here"] ["_law_number_here"] (defScope sLawWhole) := ⟨rfl, rfl, rfl, by decide +kernel, rfl, by decide +kernel, by decide +kernel⟩
theorem ok_LawWhole {f : Addr} {fd : FuncData} (F : Fun K "_law_whole" "_law_whole" sLawWhole f fd) (E : Ev K mg CN Ca Cb Cc)  : FnOk P w K mg base (CX1 P w) 1 f fd ["_law_number_here"] (spD K TWhole) := by
  refine F.okD scLawWhole (fun ds M q x h => ?_) (fun cdv A outer s H E' hr => ⟨_, (jss_one (js_ret (je_and (j_isiM K E.n_isinstance (ja_cons (jv 0) (ja_cons (j_ty E.n_int boot_int') ja_nil (hs := starN)) (hs := starN))) (je_one (je_not (j_isiM K E.n_isinstance (ja_cons (jv 0) (ja_cons (j_ty E.n_bool boot_bool') ja_nil (hs := starN)) (hs := starN)))))))), fun ds M q x h => ?_⟩)
  · obtain ⟨n, rfl, _⟩ := h; rfl
  · obtain ⟨n, rfl, h⟩ := h
    exact ⟨_, _, _, _, true, rfl, rfl, rfl, k_self, fun _ => ⟨_, _, _, _, false, rfl, rfl, rfl, E.ib, h⟩, fun z => (nomatch z)⟩
def TFrs : DF := fun as M q _ => ∃ (k : Nat) (l : List Fr) (u : Nat) (z : Bz.Row) (N : Int) (D T : Nat), as = [.loc k, .int (u : Int)] ∧ M[k]? = some (.lst (l.map frD)) ∧ Fits l u z N D T ∧ T < 2 ^ 7900 ∧ D < 2 ^ 7900 ∧ q (.bl true) M
theorem scLawFractions : FnScope ["_law_some", "_law_wide", "_law_one"] ["_law_some", "_law_wide"] (defScope sLawFractions) := ⟨rfl, rfl, rfl, by decide +kernel, rfl, by decide +kernel, by decide +kernel⟩
theorem ok_LawFractions {f : Addr} {fd : FuncData} (F : Fun K "_law_fractions" "_law_fractions" sLawFractions f fd) (E : Ev K mg CN Ca Cb Cc) {fLawWhole : Addr} {dLawWhole : FuncData} (c_LawWhole : CalD P w K mg base 1 "_law_whole" ["_law_number_here"] TWhole fLawWhole dLawWhole) {fLawLowest : Addr} {dLawLowest : FuncData} (c_LawLowest : CalD P w K mg base 1 "_law_lowest" ["_law_top", "_law_bottom"] TLow fLawLowest dLawLowest) : FnOk P w K mg base (CX1 P w) 2 f fd ["_law_some", "_law_wide"] (spD K TFrs) := by
  refine F.okD scLawFractions (fun ds M q x h => ?_) (fun cdv A outer s H E' hr => ⟨_, (jss_cons (js_if (JW.jt (jw_or (jt_not (jt_val (j_isiM K E.n_isinstance (ja_cons (jv 0) (ja_cons (j_ty E.n_list boot_list') ja_nil (hs := starN)) (hs := starN))))) (jw_or1 (jt_ne hr (j_len E.n_len (ja_cons (jv 0) ja_nil (hs := starN))) (jv 1))))) (jss_one (js_ret jbl)) jss_nil)
      (jss_cons (js_forK (jk_seq (jv 0)) (pg_name (i := 2) scLawFractions.nd rfl (Or.inl rfl)) gd_name (jss_cons (js_if (JW.jt (jw_or (jt_not (jt_val (j_isiM K E.n_isinstance (ja_cons (jv 2) (ja_cons (j_ty E.n_tuple boot_tuple') ja_nil (hs := starN)) (hs := starN))))) (jw_or (jt_ne hr (j_len E.n_len (ja_cons (jv 2) ja_nil (hs := starN))) jint) (jw_or (jt_not (jt_val (j_fn c_LawWhole hr passes1 (ja_cons (j_ix (jv 2) jint) ja_nil (hs := starX))))) (jw_or1 (jt_not (jt_val (j_fn c_LawWhole hr passes1 (ja_cons (j_ix (jv 2) jint) ja_nil (hs := starX)))))))))) (jss_one (js_ret jbl)) jss_nil)
      (jss_one (js_if (JW.jt (jw_or (jt_lt (j_ix (jv 2) jint) jint) (jw_or1 (jt_ne hr (j_fn c_LawLowest hr passes1 (ja_cons (j_ix (jv 2) jint) (ja_cons (j_ix (jv 2) jint) ja_nil (hs := starX)) (hs := starX))) (jv 2))))) (jss_one (js_ret jbl)) jss_nil))))
      (jss_one (js_ret jbl)))), fun ds M q x h => ?_⟩)
  · obtain ⟨k, l, u, z, N, D, T, rfl, _⟩ := h; rfl
  · obtain ⟨k, l, u, z, N, D, T, rfl, hk, ft, hT, hD, h⟩ := h
    have hkind : kindM M (.loc k) = some (.type "list") := lstR_kind (lstR_at hk)
    walk_at "vc"
    refine ⟨_, _, _, _, true, rfl, hkind, rfl, k_self, fun z => (nomatch z), fun _ => ?_⟩
    refine (fLen_seq (d := .loc k) (seq_at hk) ?_ : fLen [.loc k] _ _)
    rw [List.length_map, ft.len]
    refine ⟨fun z => ?_, fun _ => ?_⟩
    · have z : (!decide ((u : Int) = (u : Int))) = true := z
      rw [decide_eq_true rfl] at z; exact nomatch z
    dsimp only [sForK, iSeqK]
    walk_at "vc"
    rw [show (List.map some [Dt.loc k, Dt.int (u : Int)] ++ [none])[0]? = some (some (Dt.loc k)) from rfl]
    dsimp only
    rw [iterK_at hk]
    refine forK_map (fun zs ρ' M' => M = M' ∧ ∃ (i : Nat) (o2 : Option Dt), i ≤ u ∧ zs = (l.drop i).map frD ∧ ρ' = [some (.loc k), some (.int (u : Int)), o2]) (fun zs ρ' M' hj => by obtain ⟨rfl, _⟩ := hj; exact hk) (fun x zs ρ' M' hj nxt => ?_) (fun ρ' M' hj => ?_) _ _ _ ⟨rfl, 0, none, by omega, rfl, rfl⟩
    · obtain ⟨rfl, i, o2, iu, ex, rfl⟩ := hj
      have il : i < l.length := by
        rcases Nat.lt_or_ge i l.length with y | y
        · exact y
        · rw [List.drop_of_length_le y] at ex; cases ex
      have iu' : i < u := by rw [← ft.len]; exact il
      rw [List.drop_eq_getElem_cons il, List.map_cons] at ex
      have gi : l.getD i (0, 1) = l[i] := by rw [List.getD_eq_getElem?_getD, List.getElem?_eq_getElem il]; rfl
      have h1 := ft.pos i iu'
      have h2 := ft.low i iu'
      have h3 := bgn (ft.bot i iu') hD
      have h4 := bgn (ft.top i iu') hT
      rw [gi] at h1 h2 h3 h4
      cases ex
      generalize l[i] = p at *
      walk_at "vc"
      refine ⟨_, _, _, _, true, rfl, rfl, rfl, k_self, fun z => (nomatch z), fun _ => ?_⟩
      refine (fLen_seq (d := frD p) (xs := [.int p.1, .int p.2]) rfl ?_ : fLen [frD p] _ _)
      refine ⟨fun z => (nomatch z), fun _ => ?_⟩
      refine (fr_0 ?_ : fIx (frD p) (.int 0) _ _)
      refine ⟨p.1, rfl, fun z => (nomatch z), fun _ => ?_⟩
      refine (fr_1 ?_ : fIx (frD p) (.int 1) _ _)
      refine ⟨p.2, rfl, fun z => (nomatch z), fun _ => ?_⟩
      refine (fr_1 ?_ : fIx (frD p) (.int 1) _ _)
      refine ⟨fun z => ?_, fun _ => ?_⟩
      · have z : p.2 < 1 := of_decide_eq_true z
        omega
      refine (fr_0 ?_ : fIx (frD p) (.int 0) _ _)
      refine (fr_1 ?_ : fIx (frD p) (.int 1) _ _)
      refine ⟨p.1, p.2, rfl, h1, h3, ?_⟩
      rw [frac_self h1 h2]
      refine ne_self ?_
      exact ⟨fun z => (nomatch z), fun _ => nxt _ _ ⟨rfl, i + 1, _, by omega, rfl, rfl⟩⟩
    · obtain ⟨rfl, i, o2, iu, ex, rfl⟩ := hj
      exact h
def TComes : DF := fun as M q _ => ∃ (rows : List (List Int)) (k : Nat) (l : List Fr) (u : Nat) (z : Bz.Row) (N e : Int) (C D T : Nat), as = [mlD rows, .loc k, .int e] ∧ M[k]? = some (.lst (l.map frD)) ∧ Fits l u z N D T ∧ u ≤ 12 ∧ N ≠ 0 ∧ SzH u C T D ∧ e.natAbs ≤ 1 ∧ (∀ r ∈ rows, r.length = u + 1 ∧ (∀ x, x < u + 1 → (r.getD x 0).natAbs ≤ C) ∧ Bz.ssum (fun x => r.getD x 0 * z x) u = N * (e * r.getD u 0)) ∧ q (.bl true) M
theorem scLawComes : FnScope ["_law_rows_here", "_law_some", "_law_whole_here", "_law_row", "_law_top", "_law_bottom", "_law_k"] ["_law_rows_here", "_law_some", "_law_whole_here"] (defScope sLawComes) := ⟨rfl, rfl, rfl, by decide +kernel, rfl, by decide +kernel, by decide +kernel⟩
theorem ok_LawComes {f : Addr} {fd : FuncData} (F : Fun K "_law_comes" "_law_comes" sLawComes f fd) (E : Ev K mg CN Ca Cb Cc)  : FnOk P w K mg base (CX1 P w) 1 f fd ["_law_rows_here", "_law_some", "_law_whole_here"] (spD K TComes) := by
  refine F.okD scLawComes (fun ds M q x h => ?_) (fun cdv A outer s H E' hr => ⟨_, (jss_cons (js_forK (jk_seq (jv 0)) (pg_name (i := 3) scLawComes.nd rfl (Or.inl rfl)) gd_name (jss_cons (js_set (i := 4) scLawComes.nd rfl (Or.inl rfl) jint)
      (jss_cons (js_set (i := 5) scLawComes.nd rfl (Or.inl rfl) jint)
      (jss_cons (js_for (ji_range E.n_range (ja_cons (j_len E.n_len (ja_cons (jv 1) ja_nil (hs := starN))) ja_nil (hs := starF))) (pg_name (i := 6) scLawComes.nd rfl (Or.inl rfl)) gd_name (jss_cons (js_set (i := 4) scLawComes.nd rfl (Or.inl rfl) (j_add (j_mulH (jv 4) (j_ix (j_ix (jv 1) (jv 6)) jint)) (j_mulH (j_mulH (j_ix (jv 3) (jv 6)) (j_ix (j_ix (jv 1) (jv 6)) jint)) (jv 5))))
      (jss_one (js_set (i := 5) scLawComes.nd rfl (Or.inl rfl) (j_mulH (jv 5) (j_ix (j_ix (jv 1) (jv 6)) jint))))))
      (jss_one (js_if (jt_ne hr (jv 4) (j_mulH (j_mulH (jv 2) (j_ix (jv 3) (j_len E.n_len (ja_cons (jv 1) ja_nil (hs := starN))))) (jv 5))) (jss_one (js_ret jbl)) jss_nil))))))
      (jss_one (js_ret jbl))), fun ds M q x h => ?_⟩)
  · obtain ⟨rows, k, l, u, z, N, e, C, D, T, rfl, _⟩ := h; rfl
  · obtain ⟨rows, k, l, u, z, N, e, C, D, T, rfl, hk, ft, u12, hN, sz, he, hrows, h⟩ := h
    have ll := ft.len
    have dk : ∀ i, i ≤ u → D ^ i ≤ D ^ u := fun i hi => Nat.pow_le_pow_right sz.d1 hi
    have bb : ∀ i, i ≤ u → Hug (botK l i) := fun i hi => hgn (Nat.le_trans (ft.botle sz.d1 i hi) (dk i hi)) sz.du
    walk_at "vc"
    dsimp only [sForK, iSeqK]
    walk_at "vc"
    refine forK_map (fun zs ρ' M' => M = M' ∧ ∃ (rest : List (List Int)) (o3 o4 o5 o6 : Option Dt), zs = rest.map ilD ∧ (∀ r ∈ rest, r ∈ rows) ∧ ρ' = [some (mlD rows), some (.loc k), some (.int e), o3, o4, o5, o6]) (fun zs ρ' M' hj => trivial) (fun x zs ρ' M' hj nxt => ?_) (fun ρ' M' hj => ?_) _ _ _ ⟨rfl, rows, none, none, none, none, rfl, fun r hr => hr, rfl⟩
    · obtain ⟨rfl, rest, o3, o4, o5, o6, ex, hsub, rfl⟩ := hj
      cases rest with
      | nil => cases ex
      | cons row rest =>
        cases ex
        obtain ⟨rl, hC, hs⟩ := hrows row (hsub row List.mem_cons_self)
        have bt : ∀ i, i ≤ u → Hug (topK row l i) := fun i hi => hgn (Nat.le_trans (ft.tople sz.d1 (fun x hx => hC x (by omega)) i hi) (Nat.mul_le_mul (show i ≤ 12 by omega) (Nat.mul_le_mul_left _ (dk i hi)))) sz.all
        walk_at "vc"
        refine (fLen_seq (d := .loc k) (seq_at hk) ?_ : fLen [.loc k] _ _)
        rw [List.length_map, ft.len]
        refine ⟨by omega, ?_⟩
        rw [show ((u : Int)).toNat = u by omega]
        refine forD_map (fun xs ρ' M' => M = M' ∧ ∃ (i m : Nat) (o6 : Option Dt), xs = rngD (i : Int) m ∧ i + m = u ∧ ρ' = [some (mlD rows), some (.loc k), some (.int e), some (ilD row), some (.int (topK row l i)), some (.int (botK l i)), o6]) (fun x xs ρ' M' hj nxt => ?_) (fun ρ' M' hj => ?_) _ _ _ ⟨rfl, 0, u, o6, rfl, by omega, rfl⟩
        · obtain ⟨rfl, i, m, o6, ex, im, rfl⟩ := hj
          obtain ⟨m', rfl, rfl, rfl⟩ := rngD_cons ex
          have iu : i < u := by omega
          have il : i < l.length := by omega
          have rd : ∀ q : DQ, q (frD (l.getD i (0, 1))) M → fIx (.loc k) (.int (i : Int)) M q := fun q hq => fIx_seq (d := .loc k) (seq_at hk) (fr_at il) hq
          have h3 := big_hug (bgn (ft.bot i iu) sz.d)
          have h4 := big_hug (bgn (ft.top i iu) sz.t)
          have h5 := hgn (hC i (by omega)) sz.c
          have h6 : Hug (row.getD i 0 * (l.getD i (0, 1)).1) := hgn (m := C * T) (by rw [Int.natAbs_mul]; exact Nat.mul_le_mul (hC i (by omega)) (ft.top i iu)) sz.ct
          have et : topK row l (i + 1) = topK row l i * (l.getD i (0, 1)).2 + row.getD i 0 * (l.getD i (0, 1)).1 * botK l i := rfl
          have eb : botK l (i + 1) = botK l i * (l.getD i (0, 1)).2 := rfl
          have nxt := fun o6 => nxt _ M ⟨rfl, i + 1, m', o6, by rw [Int.natCast_add]; rfl, by omega, rfl⟩
          rw [et, eb] at nxt
          have b1 := bb i (by omega)
          have b2 := bt i (by omega)
          generalize l.getD i (0, 1) = p at *
          walk_at "vc"
          refine rd _ ?_
          refine (fr_1 ?_ : fIx (frD p) (.int 1) _ _)
          refine ⟨⟨b2, h3⟩, ?_⟩
          walk_at "vc"
          refine (fIx_seq (d := ilD row) rfl (in_at (by omega)) ?_ : fIx (ilD row) (.int (i : Int)) _ _)
          refine rd _ ?_
          refine (fr_0 ?_ : fIx (frD p) (.int 0) _ _)
          refine ⟨⟨h5, h4⟩, ⟨h6, b1⟩, ?_⟩
          walk_at "vc"
          dsimp only [fAdd]
          refine rd _ ?_
          refine (fr_1 ?_ : fIx (frD p) (.int 1) _ _)
          exact ⟨⟨b1, h3⟩, nxt _⟩
        · obtain ⟨rfl, i, m, o6, ex, im, rfl⟩ := hj
          have m0 : m = 0 := by
            have := congrArg List.length ex
            rw [rngD_len] at this; exact this.symm
          have iu : i = u := by omega
          subst iu
          walk_at "vc"
          refine (fLen_seq (d := .loc k) (seq_at hk) ?_ : fLen [.loc k] _ _)
          rw [List.length_map, ft.len]
          refine (fIx_seq (d := ilD row) rfl (in_at (by omega)) ?_ : fIx (ilD row) (.int (i : Int)) _ _)
          have hru := hC i (by omega)
          have hru2 : (e * row.getD i 0).natAbs ≤ C := by
            rw [Int.natAbs_mul]
            have := Nat.mul_le_mul he hru
            omega
          refine ⟨⟨hgn (m := 1) he (Nat.one_lt_two_pow (by decide)), hgn hru sz.c⟩, ⟨hgn hru2 sz.c, bb i (Nat.le_refl _)⟩, ?_⟩
          have ee := ft.comes hN hs
          refine ⟨fun z => ?_, fun _ => nxt _ _ ⟨rfl, rest, _, _, _, _, rfl, fun x hx => hsub x (List.mem_cons_of_mem _ hx), rfl⟩⟩
          have z : (!decide (topK row l i = e * row.getD i 0 * botK l i)) = true := z
          rw [decide_eq_true ee] at z
          exact nomatch z
    · obtain ⟨rfl, rest, o3, o4, o5, o6, ex, hsub, rfl⟩ := hj
      exact h
end
end Pg
set_option maxRecDepth 100000
set_option maxHeartbeats 4000000
namespace Pg
open PySem L2 Fr0 Tx
section
variable {P : Program} {w : World} {K : PySem.W.Frag} {mg : Str → Option Value} {base : Heap} {CN Ca Cb Cc : Addr}
def TWeighed : DF := fun as M q _ => ∃ (k u : Nat) (ws : List Int) (rows : List (List Int)), as = [.loc k, mlD rows, .int (u : Int)] ∧ M[k]? = some (.lst (ws.map Dt.int)) ∧ rows.length ≤ 12 ∧ u ≤ 12 ∧ (∀ r ∈ rows, Wd u BM r) ∧ ws.length = rows.length ∧ (∀ x ∈ ws, Big x) ∧
  (∀ c, c < u → Bz.ssum (fun i => ws.getD i 0 * Bz.arr rows i c) rows.length = 0) ∧ Bz.ssum (fun i => ws.getD i 0 * Bz.arr rows i u) rows.length ≠ 0 ∧ q (.bl true) M
theorem scLawWeighed : FnScope ["_law_weights", "_law_rows_here", "_law_wide", "_law_sums"] ["_law_weights", "_law_rows_here", "_law_wide"] (defScope sLawWeighed) := ⟨rfl, rfl, rfl, by decide +kernel, rfl, by decide +kernel, by decide +kernel⟩
theorem ok_LawWeighed {f : Addr} {fd : FuncData} (F : Fun K "_law_weighed" "_law_weighed" sLawWeighed f fd) (E : Ev K mg CN Ca Cb Cc) {fLawWhole : Addr} {dLawWhole : FuncData} (c_LawWhole : CalD P w K mg base 1 "_law_whole" ["_law_number_here"] TWhole fLawWhole dLawWhole) : FnOk P w K mg base (CX1 P w) 2 f fd ["_law_weights", "_law_rows_here", "_law_wide"] (spD K TWeighed) := by
  refine F.okD scLawWeighed (fun ds M q x h => ?_) (fun cdv A outer s H E' hr => ⟨_, (jss_cons (js_if (JW.jt (jw_or (jt_not (jt_val (j_isiM K E.n_isinstance (ja_cons (jv 0) (ja_cons (j_ty E.n_list boot_list') ja_nil (hs := starN)) (hs := starN))))) (jw_or1 (jt_ne hr (j_len E.n_len (ja_cons (jv 0) ja_nil (hs := starN))) (j_len E.n_len (ja_cons (jv 1) ja_nil (hs := starN))))))) (jss_one (js_ret jbl)) jss_nil)
      (jss_cons (js_if (jt_not (jt_val (j_all E.n_all (ja_cons (j_compK (ys := []) (caps := []) ⟨rfl, by decide +kernel, by decide +kernel, rfl, (by show ∀ p : Str × NameKind, p ∈ _ → p.2 = NameKind.free → List.lookup p.1 (defScope sLawWeighed).names = some .cell; decide +kernel), by decide +kernel, (by show ∀ q : Str × Nat, q ∈ _ → (["_law_weights", "_law_rows_here", "_law_wide", "_law_sums"] : List Str)[q.2]? = some q.1 ∧ List.lookup q.1 (defScope sLawWeighed).names = some .cell ∧ _; decide +kernel), rfl⟩ (jk_seq (jv 0)) (fun C s H fp => (j_fn c_LawWhole hr (passesN (P := P) (w := w)) (ja_cons (jv 0) ja_nil (hs := starN))))) ja_nil)))) (jss_one (js_ret jbl)) jss_nil)
      (jss_cons (js_setcompC (i := 3) scLawWeighed.nd rfl (Or.inl rfl) (ys := ["_law_weights", "_law_rows_here"]) (caps := [0, 1]) ⟨rfl, by decide +kernel, by decide +kernel, rfl, (by show ∀ p : Str × NameKind, p ∈ _ → p.2 = NameKind.free → List.lookup p.1 (defScope sLawWeighed).names = some .cell; decide +kernel), by decide +kernel, (by show ∀ q : Str × Nat, q ∈ _ → (["_law_weights", "_law_rows_here", "_law_wide", "_law_sums"] : List Str)[q.2]? = some q.1 ∧ List.lookup q.1 (defScope sLawWeighed).names = some .cell ∧ _; decide +kernel), rfl⟩ (ji_range E.n_range (ja_cons (j_add (jv 2) jint) ja_nil (hs := starB))) (fun S C s H fp => (j_sum E.n_sum (ja_cons (j_comp (ys := ["_law_weights", "_law_c", "_law_rows_here"]) (caps := [1, 0, 2]) (CompScope.inner S rfl rfl (by decide +kernel) (by decide +kernel) rfl (by decide +kernel) (by decide +kernel) (by decide +kernel) rfl) (ji_range E.n_range (ja_cons (j_len E.n_len (ja_cons (jv 2) ja_nil (hs := starN))) ja_nil (hs := starF))) (fun C s H fp => (j_mul (j_ix (jv 1) (jv 0)) (j_ix (j_ix (jv 3) (jv 0)) (jv 2))))) ja_nil))))
      (jss_one (js_ret (je_and (j_eqM 1 hr (je_fz (j_slToL (jv 3) (jv 2))) (je_fz (j_repM (j_const 3 (d := .lst [.int 0]) (by rfl)) (jv 2)))) (je_one (j_ne hr (j_ix (jv 3) (jv 2)) jint)))))))), fun ds M q x h => ?_⟩)
  · obtain ⟨k, u, ws, rows, rfl, _⟩ := h; rfl
  · obtain ⟨k, u, ws, rows, rfl, hk, n12, u12, Rw, wl, wb, wz, wn, h⟩ := h
    have sz : ∀ {z : Nat}, z ≤ 1000 → z ≤ sizeLine := fun h => Nat.le_trans h (by decide)
    have hkind : kindM M (.loc k) = some (.type "list") := lstR_kind (lstR_at hk)
    walk_at "vc"
    refine ⟨_, _, _, _, true, rfl, hkind, rfl, k_self, fun z => (nomatch z), fun _ => ?_⟩
    refine (fLen_seq (d := .loc k) (seq_at hk) ?_ : fLen [.loc k] _ _)
    refine (fLen_seq (d := mlD rows) (xs := rows.map ilD) rfl ?_ : fLen [mlD rows] _ _)
    rw [List.length_map, List.length_map, wl]
    refine ⟨fun z => ?_, fun _ => ?_⟩
    · have z : (!decide ((rows.length : Int) = (rows.length : Int))) = true := z
      rw [decide_eq_true rfl] at z; exact nomatch z
    dsimp only [dCompK, iSeqK]
    walk_at "vc"
    rw [show (List.map some [Dt.loc k, mlD rows, Dt.int (u : Int)] ++ [none])[0]? = some (some (Dt.loc k)) from rfl]
    dsimp only
    rw [iterK_at hk]
    dsimp only
    refine ⟨by rw [List.length_map, wl]; exact sz (by omega), ?_⟩
    refine compK_pair (F := fun x v => x = Dt.int v ∧ v ∈ ws) (f := fun _ : Int => .bl true) (as := ws) hk (fun x v hx qq hq => ?_) (prd_self Dt.int ws ws fun x hx => hx) ?_
    · obtain ⟨rfl, _⟩ := hx
      exact ⟨v, rfl, hq⟩
    rw [List.nil_append]
    refine ⟨ws.map fun _ => true, by rw [List.map_map]; rfl, ?_⟩
    have na : (ws.map fun _ : Int => true).all id = true := by simp
    rw [na]
    refine ⟨fun z => (nomatch z), fun _ => ?_⟩
    obtain ⟨f, hf⟩ : ∃ f : Nat → Int, f = fun c => Bz.ssum (fun i => ws.getD i 0 * Bz.arr rows i c) rows.length := ⟨_, rfl⟩
    dsimp only [dComp]
    walk_at "vc"
    dsimp only [fAdd]
    refine ⟨by omega, by rw [rngD_len]; exact sz (by omega), ?_⟩
    refine compD_map (f := fun d => match d with | .int c => .int (f c.toNat) | d => d) _ _ (fun x hx qq hq => ?_) ?_
    · obtain ⟨i, hi, rfl⟩ := rngD_mem hx
      have hi : i < u + 1 := by omega
      rw [Int.zero_add] at hq ⊢
      have hq : qq (.int (f i)) _ := hq
      walk_at "vc"
      dsimp only [dComp]
      walk_at "vc"
      refine (fLen_seq (d := mlD rows) (xs := rows.map ilD) rfl ?_ : fLen [mlD rows] _ _)
      rw [List.length_map]
      refine ⟨by omega, by rw [rngD_len]; exact sz (by omega), ?_⟩
      refine compD_map (f := fun d => match d with | .int c => .int (ws.getD c.toNat 0 * Bz.arr rows c.toNat i) | d => d) _ _ (fun x hx q2 hq2 => ?_) ?_
      · obtain ⟨c, hc, rfl⟩ := rngD_mem hx
        have hc : c < rows.length := by omega
        rw [Int.zero_add] at hq2 ⊢
        have hq2 : q2 (.int (ws.getD c 0 * Bz.arr rows c i)) _ := hq2
        have er : Bz.arr rows c i = rows[c].getD i 0 := by unfold Bz.arr; rw [List.getD_eq_getElem?_getD (l := rows), List.getElem?_eq_getElem hc]; rfl
        have wr := Rw _ (List.getElem_mem hc)
        have ab := wr.at_ hi
        have bw : Big (ws.getD c 0) := wb _ (by rw [List.getD_eq_getElem?_getD, List.getElem?_eq_getElem (by omega)]; exact List.getElem_mem _)
        walk_at "vc"
        refine (fIx_seq (d := .loc k) (seq_at hk) (in_at (by omega)) ?_ : fIx (.loc k) (.int (c : Int)) _ _)
        refine (fIx_seq (d := mlD rows) rfl (ml_at hc) ?_ : fIx (mlD rows) (.int (c : Int)) _ _)
        refine (fIx_seq (d := ilD rows[c]) rfl (in_at (by rw [wr.len]; exact hi)) ?_ : fIx (ilD rows[c]) (.int (i : Int)) _ _)
        rw [← er] at ab ⊢
        exact ⟨⟨bw, bm_big ab⟩, hq2⟩
      · have er : ∀ g : Dt → Dt, (∀ c : Nat, c < rows.length → g (.int (0 + (c : Int))) = .int (ws.getD c 0 * Bz.arr rows c i)) → (rngD 0 ((rows.length : Int)).toNat).map g = ((List.range rows.length).map fun c => ws.getD c 0 * Bz.arr rows c i).map Dt.int := fun g hg => by
          rw [show ((rows.length : Int)).toNat = rows.length by omega]
          unfold rngD
          rw [List.map_map, List.map_map]
          exact List.map_congr_left fun c hc => hg c (List.mem_range.mp hc)
        rw [List.nil_append, er _ (fun c hc => by show Dt.int (ws.getD (0 + (c : Int)).toNat 0 * Bz.arr rows (0 + (c : Int)).toNat i) = _; rw [show (0 + (c : Int)).toNat = c by omega])]
        refine ⟨_, rfl, ⟨_, _, rfl⟩, ?_⟩
        rw [sum_range]
        rw [hf] at hq
        exact hq
    have er : ∀ g : Dt → Dt, (∀ c : Nat, g (.int (0 + (c : Int))) = .int (f c)) → (rngD 0 ((u : Int) + 1).toNat).map g = ((List.range (u + 1)).map f).map Dt.int := fun g hg => by
      rw [show ((u : Int) + 1).toNat = u + 1 by omega]
      unfold rngD
      rw [List.map_map, List.map_map]
      exact List.map_congr_left fun c hc => hg c
    rw [List.nil_append, er _ fun c => by show Dt.int (f (0 + (c : Int)).toNat) = _; rw [show (0 + (c : Int)).toNat = c by omega]]
    dsimp only [dFz, dSlToL]
    walk_at "vc"
    refine ⟨_, u, rfl, rfl, ?_⟩
    have e0 : (((List.range (u + 1)).map f).map Dt.int).take u = (List.replicate u (0 : Int)).map Dt.int := by
      rw [List.range_succ, List.map_append, List.map_append, List.take_left' (by simp)]
      congr 1
      apply List.ext_getElem
      · simp
      · intro x h1 h2
        simp only [List.getElem_map, List.getElem_range, List.getElem_replicate]
        rw [hf]; exact wz x (by simpa using h1)
    rw [e0]
    refine fz_loc (ints_un _) ?_
    refine ⟨[.int 0], u, rfl, rfl, by omega, by omega, ?_, ?_⟩
    · show 1 * ((u : Int)).toNat ≤ sizeLine
      exact sz (by omega)
    rw [show ((u : Int)).toNat = u by omega, rep_flat, show List.replicate u (Dt.int 0) = (List.replicate u (0 : Int)).map Dt.int by rw [List.map_replicate]]
    refine fz_loc (ints_un _) ?_
    refine ⟨true, .inr ⟨_, rfl⟩, .inr ⟨_, rfl⟩, eqM_lst rfl rfl fun d hd => by
      obtain ⟨i, _, rfl⟩ := List.mem_map.mp hd
      exact eqM_int i, ?_⟩
    refine ⟨fun _ => ?_, fun z => (nomatch z)⟩
    refine (fIx_seq (d := .lst (((List.range (u + 1)).map f).map Dt.int)) rfl (in_at (l := (List.range (u + 1)).map f) (j := u) (by simp)) ?_ : fIx (.lst (((List.range (u + 1)).map f).map Dt.int)) (.int (u : Int)) _ _)
    have fu : ((List.range (u + 1)).map f).getD u 0 = f u := getD_map (by omega)
    rw [fu]
    have nz : f u ≠ 0 := by rw [hf]; exact wn
    have key : (!decide (f u = 0)) = true := by rw [decide_eq_false nz]; rfl
    rw [← key] at h
    exact h
end
end Pg
set_option maxRecDepth 100000
set_option maxHeartbeats 4000000
namespace Pg
open PySem L2 Fr0 Tx
theorem fr_set {l : List Fr} {c y : Nat} {v : Fr} (h : y < l.length) : (l.set c v).getD y (0, 1) = if c = y then v else l.getD y (0, 1) := by
  rw [List.getD_eq_getElem?_getD, List.getElem?_set]
  split
  · rename_i e; subst e; rw [if_pos h]; rfl
  · rw [← List.getD_eq_getElem?_getD]
section
variable {A : Nat → Bz.Row} {n u : Nat} {ρ cols : List Nat} {qq : Nat → Nat} {d : Int} {W : Nat → Bz.Row}
theorem kv_out {s k y : Nat} (h : ∀ i, i < k → cols.getD i 0 ≠ y) : Bz.kvk A n W cols s k y = 0 := Bz.ssum_zero fun i hi => by
  have : Bz.ind (cols.getD i 0) y = 0 := by unfold Bz.ind; rw [if_neg (h i hi)]
  rw [this, Int.mul_zero]
theorem quo_fits (t : Bz.Turn A n u ρ cols qq d W) {s T : Nat} (hT : ∀ i, i < cols.length → (Bz.rv A n (W i) s).natAbs ≤ T) : ∀ k, k ≤ cols.length → Fits (quoK A n W d cols s u k) u (Bz.kvk A n W cols s k) d d.natAbs T
  | 0, _ => by
    have d0 := t.d0
    have g : ∀ y, (quoK A n W d cols s u 0).getD y (0, 1) = (0, 1) := fun y => by
      show (List.replicate u ((0, 1) : Fr)).getD y (0, 1) = _
      rw [List.getD_eq_getElem?_getD, List.getElem?_replicate]; split <;> rfl
    refine ⟨quo_len 0, fun y _ => by rw [g]; decide, fun y _ => by rw [g]; decide, fun y _ => ?_, fun y _ => by rw [g]; show (1 : Int).natAbs ≤ _; omega, fun y _ => by rw [g]; exact Nat.zero_le _⟩
    rw [g]
    show 0 * d = 0 * 1
    simp
  | k + 1, hk => by
    have i := quo_fits t hT k (by omega)
    have d0 := t.d0
    have kl : k < cols.length := by omega
    have nd := cols_nodup t
    have inj : ∀ j, j < k → cols.getD j 0 ≠ cols.getD k 0 := fun j hj e => by
      rw [List.getD_eq_getElem?_getD, List.getElem?_eq_getElem (by omega), List.getD_eq_getElem?_getD, List.getElem?_eq_getElem kl] at e
      have := (List.getElem?_inj (l := cols) (show j < cols.length by omega) nd).mp (show cols[j]? = cols[k]? by rw [List.getElem?_eq_getElem (by omega), List.getElem?_eq_getElem kl]; exact congrArg some e)
      omega
    have g : ∀ y, y < u → (quoK A n W d cols s u (k + 1)).getD y (0, 1) = if cols.getD k 0 = y then frac (Bz.rv A n (W k) s) d else (quoK A n W d cols s u k).getD y (0, 1) := fun y hy => by
      rw [quoK, fr_set (by rw [quo_len]; exact hy)]
    have kv : ∀ y, Bz.kvk A n W cols s (k + 1) y = Bz.kvk A n W cols s k y + Bz.rv A n (W k) s * Bz.ind (cols.getD k 0) y := fun y => rfl
    refine ⟨quo_len _, fun y hy => ?_, fun y hy => ?_, fun y hy => ?_, fun y hy => ?_, fun y hy => ?_⟩
    · rw [g y hy]; split
      · exact frac_pos d0
      · exact i.pos y hy
    · rw [g y hy]; split
      · exact frac_low d0
      · exact i.low y hy
    · rw [g y hy, kv]; split
      · rename_i e
        have z0 : Bz.kvk A n W cols s k y = 0 := kv_out fun j hj => by rw [← e]; exact inj j hj
        have o1 : Bz.ind (cols.getD k 0) y = 1 := by unfold Bz.ind; rw [if_pos e]
        rw [z0, o1, Int.zero_add, Int.mul_one, frac_cross d0, Int.mul_comm]
      · rename_i e
        have o1 : Bz.ind (cols.getD k 0) y = 0 := by unfold Bz.ind; rw [if_neg e]
        rw [o1, Int.mul_zero, Int.add_zero]; exact i.eq y hy
    · rw [g y hy]; split
      · exact frac_le2 d0
      · exact i.bot y hy
    · rw [g y hy]; split
      · exact Nat.le_trans (frac_le1 d0) (hT k kl)
      · exact i.top y hy
theorem still_fits (t : Bz.Turn A n u ρ cols qq d W) {f T : Nat} (hf : f < u) (hc : f ∉ cols) (hT : ∀ i, i < cols.length → (Bz.rv A n (W i) f).natAbs ≤ T) (T1 : 1 ≤ T) : Fits ((quoL A n W d cols f u).set f (-1, 1)) u (fun y => Bz.kvk A n W cols f cols.length y - d * Bz.ind f y) d d.natAbs T := by
  have i := quo_fits t hT cols.length (Nat.le_refl _)
  have d0 := t.d0
  have g : ∀ y, y < u → ((quoL A n W d cols f u).set f (-1, 1)).getD y (0, 1) = if f = y then (-1, 1) else (quoL A n W d cols f u).getD y (0, 1) := fun y hy => fr_set (by rw [quoL, quo_len]; exact hy)
  refine ⟨by rw [List.length_set, quoL, quo_len], fun y hy => ?_, fun y hy => ?_, fun y hy => ?_, fun y hy => ?_, fun y hy => ?_⟩
  · rw [g y hy]; split
    · decide
    · exact i.pos y hy
  · rw [g y hy]; split
    · decide
    · exact i.low y hy
  · rw [g y hy]
    show _ = (Bz.kvk A n W cols f cols.length y - d * Bz.ind f y) * _
    split
    · rename_i e
      subst e
      have z0 : Bz.kvk A n W cols f cols.length f = 0 := kv_out fun j hj z => hc (by rw [← z, List.getD_eq_getElem?_getD, List.getElem?_eq_getElem hj]; exact List.getElem_mem _)
      have o1 : Bz.ind f f = 1 := by unfold Bz.ind; rw [if_pos rfl]
      rw [z0, o1]
      show -1 * d = (0 - d * 1) * 1
      omega
    · rename_i e
      have o1 : Bz.ind f y = 0 := by unfold Bz.ind; rw [if_neg e]
      rw [o1, Int.mul_zero, Int.sub_zero]; exact i.eq y hy
  · rw [g y hy]; split
    · show (1 : Int).natAbs ≤ _; omega
    · exact i.bot y hy
  · rw [g y hy]; split
    · exact T1
    · exact i.top y hy
end
theorem ab_nat {x B : Int} (h : Bz.Ab x B) : x.natAbs ≤ B.natAbs := by obtain ⟨a, b⟩ := h; omega
section
variable {u : Nat}
theorem turn_sz {A : Nat → Bz.Row} {n r0 : Nat} {Bs B : Int} (b1 : Bz.Bd A n u Bs) (b2 : Bz.Bd A n (u + 1) B) (hr0 : r0 ≤ 12) {ρ cols : List Nat} {qq : Nat → Nat} {d : Int} {W : Nat → Bz.Row} (t : Bz.Turn A n u ρ cols qq d W) (hr : ρ.length ≤ r0) :
    d.natAbs ≤ ((12 * Bs) ^ r0).natAbs ∧ ∀ i x, i < n → x < u + 1 → (Bz.rv A n (W i) x).natAbs ≤ ((12 * B) ^ (r0 + 3)).natAbs := by
  have a1 := t.st.absd b1 t.cl (by omega)
  have a2 := (t.st.abs b2 (fun c hc => Nat.lt_succ_of_lt (t.cl c hc)) (by omega)).2.1
  have e1 := Bz.pow_le (B := Bs) (a := ρ.length) (b := r0) b1.b1 hr
  have e2 := Bz.pow_le (B := B) (a := ρ.length + 3) (b := r0 + 3) b2.b1 (by omega)
  refine ⟨ab_nat (a1.mono e1), fun i x hi hx => ab_nat ((a2 i x hi hx).mono ?_)⟩
  unfold Bz.top
  exact e2
end
theorem Fits.mono {l : List Fr} {u : Nat} {z : Bz.Row} {N : Int} {D T D' : Nat} (h : Fits l u z N D T) (hD : D ≤ D') : Fits l u z N D' T := ⟨h.len, h.pos, h.low, h.eq, fun y hy => Nat.le_trans (h.bot y hy) hD, h.top⟩
theorem goes_nx {i : Nat} {x : Addr} {d : Dt} {Dn : DEnds} {ρ ρ' : En} {M : Ms} (e : (ρ.set i none).map (rpl x d) = ρ') (h : Dn.nx ρ' M) : (goesX i x d Dn).nx ρ M := by
  show Dn.nx ((ρ.set i none).map (rpl x d)) M
  rw [e]; exact h
theorem cols_full {A : Nat → Bz.Row} {n u : Nat} {ρ cols : List Nat} {qq : Nat → Nat} {d : Int} {W : Nat → Bz.Row} (t : Bz.Turn A n u ρ cols qq d W) (h : cols.length = u) : cols = List.range u := by
  rcases t.all with e | ⟨y, h1, h2⟩
  · exact e
  · have nd : (y :: cols).Nodup := List.nodup_cons.mpr ⟨h2, cols_nodup t⟩
    have := nd.length_le_of_subset (l₂ := List.range u) fun c hc => by
      rcases List.mem_cons.mp hc with e | e
      · rw [e]; exact List.mem_range.mpr h1
      · exact List.mem_range.mpr (t.cl c e)
    rw [List.length_range, List.length_cons] at this
    omega
abbrev CC : Nat := BM.natAbs
abbrev TT0 : Nat := ((12 * BM) ^ 7).natAbs
theorem szH {u : Nat} (h : u ≤ 4) : SzH u CC TT0 TT0 := by
  have d1 : 1 ≤ TT0 := by decide +kernel
  have dv : TT0 ^ u ≤ TT0 ^ 4 := Nat.pow_le_pow_right d1 h
  have c1 : 1 ≤ CC := by decide +kernel
  have big : 12 * (CC * TT0 * TT0 ^ 4) < 2 ^ 29000 := by decide +kernel
  have ct : 1 ≤ CC * TT0 := Nat.mul_pos c1 d1
  have m1 : CC * TT0 * TT0 ^ u ≤ CC * TT0 * TT0 ^ 4 := Nat.mul_le_mul_left _ dv
  have du : TT0 ^ 0 ≤ TT0 ^ 4 := Nat.pow_le_pow_right d1 (Nat.zero_le 4)
  rw [Nat.pow_zero] at du
  have m2 : CC * TT0 ≤ CC * TT0 * TT0 ^ 4 := Nat.le_mul_of_pos_right _ du
  have m3 : TT0 ^ 4 ≤ CC * TT0 * TT0 ^ 4 := Nat.le_mul_of_pos_left _ ct
  have m4 : CC ≤ CC * TT0 := Nat.le_mul_of_pos_right _ d1
  have t1 : TT0 < 2 ^ 7900 := by decide +kernel
  exact ⟨d1, by omega, by omega, t1, t1, by omega, by omega⟩
theorem rows_ok {R : List (List Int)} {u : Nat} (R1 : 1 ≤ R.length) (R6 : R.length ≤ 6) (u4 : u ≤ 4) (Rw : ∀ r ∈ R, Wd u BM r) : RowsOk R u BM where
  n1 := R1
  n12 := by omega
  u12 := by omega
  ml := fun r hr => (Rw r hr).len
  bd := ⟨by decide, fun k x hk hx => by
    unfold Bz.arr
    rw [List.getD_eq_getElem?_getD (l := R), List.getElem?_eq_getElem hk]
    exact (Rw _ (List.getElem_mem _)).at_ hx⟩
  b450 := .inr ⟨by omega, by decide⟩
section
variable {P : Program} {w : World} {K : PySem.W.Frag} {mg : Str → Option Value} {base : Heap} {CN Ca Cb Cc : Addr}
theorem scLaw : FnScope ["_law_script", "_law_wide", "_law_asked", "_law_handed", "_law_found", "_law_caught", "e"] ["_law_script"] (defScope sLaw) := ⟨rfl, rfl, rfl, by decide +kernel, rfl, by decide +kernel, by decide +kernel⟩
theorem ok_Law {f : Addr} {fd : FuncData} (F : Fun K "law" "law" sLaw f fd) (E : Ev K mg CN Ca Cb Cc) {fLawAt : Addr} {dLawAt : FuncData} (c_LawAt : CalD P w K mg base 1 "_law_at" ["_law_script", "_law_k"] TAt fLawAt dLawAt) {fLawRows : Addr} {dLawRows : FuncData} (c_LawRows : CalD P w K mg base 2 "_law_rows" ["_law_script", "_law_wide"] TRows fLawRows dLawRows) {fAnswerOf : Addr} {dAnswerOf : FuncData} (c_AnswerOf : CalD P w K mg base 5 "answer_of" ["rows"] (TAns Cb Cc) fAnswerOf dAnswerOf) {fLawComes : Addr} {dLawComes : FuncData} (c_LawComes : CalD P w K mg base 1 "_law_comes" ["_law_rows_here", "_law_some", "_law_whole_here"] TComes fLawComes dLawComes) {fLawFractions : Addr} {dLawFractions : FuncData} (c_LawFractions : CalD P w K mg base 2 "_law_fractions" ["_law_some", "_law_wide"] TFrs fLawFractions dLawFractions) {fLawJustOne : Addr} {dLawJustOne : FuncData} (c_LawJustOne : CalD P w K mg base 6 "_law_just_one" ["_law_rows_here", "_law_wide"] TJust fLawJustOne dLawJustOne) {fLawWeighed : Addr} {dLawWeighed : FuncData} (c_LawWeighed : CalD P w K mg base 2 "_law_weighed" ["_law_weights", "_law_rows_here", "_law_wide"] TWeighed fLawWeighed dLawWeighed) : FnOk P w K mg base (CX1 P w) 7 f fd ["_law_script"] (spD K TLaw) := by
  refine F.okD scLaw (fun ds M q x h => ?_) (fun cdv A outer s H E' hr => ⟨_, (jss_cons (js_set (i := 1) scLaw.nd rfl (Or.inl rfl) (j_add jint (j_mod (j_fn c_LawAt hr passes1 (ja_cons (jv 0) (ja_cons jint ja_nil (hs := starC)) (hs := starN))) jint)))
      (jss_cons (js_set (i := 2) scLaw.nd rfl (Or.inl rfl) (je_fz (j_fn c_LawRows hr passes1 (ja_cons (jv 0) (ja_cons (jv 1) ja_nil (hs := starN)) (hs := starN)))))
      (jss_cons (js_setcompK (i := 3) scLaw.nd rfl (Or.inl rfl) (ys := []) (caps := []) ⟨rfl, by decide +kernel, by decide +kernel, rfl, (by show ∀ p : Str × NameKind, p ∈ _ → p.2 = NameKind.free → List.lookup p.1 (defScope sLaw).names = some .cell; decide +kernel), by decide +kernel, (by show ∀ q : Str × Nat, q ∈ _ → (["_law_script", "_law_wide", "_law_asked", "_law_handed", "_law_found", "_law_caught", "e"] : List Str)[q.2]? = some q.1 ∧ List.lookup q.1 (defScope sLaw).names = some .cell ∧ _; decide +kernel), rfl⟩ (jk_seq (jv 2)) (fun C s H fp => (je_fz (j_list E.n_list (ja_cons (jv 0) ja_nil (hs := starN))))))
      (jss_cons (js_set (i := 4) scLaw.nd rfl (Or.inl rfl) jnon)
      (jss_cons (js_set (i := 5) scLaw.nd rfl (Or.inl rfl) jnon)
      (jss_cons (js_tryK (i := 6) scLaw.nd rfl E.eDuelError (by decide +kernel) E.mDuelError (fun R pins => (jss_one (js_set (i := 4) scLaw.nd rfl (Or.inl rfl) (j_fn c_AnswerOf hr passesT (ja_cons (jv 3) ja_nil (hs := starN)))))) (fun x pn => (jss_one (js_set (i := 5) scLaw.nd rfl (Or.inl rfl) (jv 6)))))
      (jss_cons (js_if (jt_neM 2 hr (jv 3) (jv 2)) (jss_one (js_ret jbl)) jss_nil)
      (jss_cons (js_if (jt_isW (jv 5) jnon) (jss_cons (js_if (JW.jt (jw_or (jt_not (jt_val (j_fn c_LawFractions hr passes1 (ja_cons (jv 4) (ja_cons (jv 1) ja_nil (hs := starN)) (hs := starN))))) (jw_or1 (jt_not (jt_val (j_fn c_LawComes hr passes1 (ja_cons (jv 2) (ja_cons (jv 4) (ja_cons jint ja_nil (hs := starC)) (hs := starN)) (hs := starN)))))))) (jss_one (js_ret jbl)) jss_nil)
      (jss_one (js_ret (j_fn c_LawJustOne hr passes1 (ja_cons (jv 2) (ja_cons (jv 1) ja_nil (hs := starN)) (hs := starN)))))) jss_nil)
      (jss_cons (js_if (jt_val (j_isX K E.n_isinstance (ja_cons (jv 5) (ja_cons (j_gref E.mNoAnswer) ja_nil (hs := starN)) (hs := starN)))) (jss_one (js_ret (je_and (je_not (j_isX K E.n_isinstance (ja_cons (jv 5) (ja_cons (j_gref E.mManyAnswers) ja_nil (hs := starN)) (hs := starN)))) (je_one (j_fn c_LawWeighed hr passes1 (ja_cons (j_xfld K (jv 5)) (ja_cons (jv 2) (ja_cons (jv 1) ja_nil (hs := starN)) (hs := starN)))))))) jss_nil)
      (jss_cons (js_if (JW.jt (jw_or (jt_not (jt_val (j_isX K E.n_isinstance (ja_cons (jv 5) (ja_cons (j_gref E.mManyAnswers) ja_nil (hs := starN)) (hs := starN))))) (jw_or1 (jt_not (jt_val (j_fn c_LawFractions hr passes1 (ja_cons (j_xfld K (jv 5)) (ja_cons (jv 1) ja_nil (hs := starN))))))))) (jss_one (js_ret jbl)) jss_nil)
      (jss_cons (js_if (JW.jt (jw_or (jt_not (jt_val (j_fn c_LawFractions hr passes1 (ja_cons (j_xfld K (jv 5)) (ja_cons (jv 1) ja_nil (hs := starN)))))) (jw_or1 (jt_val (j_all E.n_all (ja_cons (j_compK (ys := []) (caps := []) ⟨rfl, by decide +kernel, by decide +kernel, rfl, (by show ∀ p : Str × NameKind, p ∈ _ → p.2 = NameKind.free → List.lookup p.1 (defScope sLaw).names = some .cell; decide +kernel), by decide +kernel, (by show ∀ q : Str × Nat, q ∈ _ → (["_law_script", "_law_wide", "_law_asked", "_law_handed", "_law_found", "_law_caught", "e"] : List Str)[q.2]? = some q.1 ∧ List.lookup q.1 (defScope sLaw).names = some .cell ∧ _; decide +kernel), rfl⟩ (jk_seq (j_xfld K (jv 5))) (fun C s H fp => (j_eq hr (j_ix (jv 0) jint) jint))) ja_nil)))))) (jss_one (js_ret jbl)) jss_nil)
      (jss_one (js_ret (je_and (j_fn c_LawComes hr passes1 (ja_cons (jv 2) (ja_cons (j_xfld K (jv 5)) (ja_cons jint ja_nil (hs := starC))) (hs := starN))) (je_one (j_fn c_LawComes hr passes1 (ja_cons (jv 2) (ja_cons (j_xfld K (jv 5)) (ja_cons jint ja_nil (hs := starC))) (hs := starN)))))))))))))))))), fun ds M q x h => ?_⟩)
  · obtain ⟨ns, rfl, _⟩ := h; rfl
  · obtain ⟨ns, rfl, nl, h⟩ := h
    have sz : ∀ {z : Nat}, z ≤ 1000 → z ≤ sizeLine := fun h => Nat.le_trans h (by decide)
    refine ⟨ns, 0, rfl, nl, by decide, by decide, fun c hc => ⟨by decide, ?_⟩⟩
    have c0 := Int.emod_nonneg c (show (4 : Int) ≠ 0 by decide)
    have c4 := Int.emod_lt_of_pos c (show (0 : Int) < 4 by decide)
    walk_at "vc"
    dsimp only [fAdd]
    obtain ⟨u, hu⟩ : ∃ u : Nat, 1 + c % 4 = (u : Int) := ⟨(1 + c % 4).toNat, by omega⟩
    rw [hu]
    have u1 : 1 ≤ u := by omega
    have u4 : u ≤ 4 := by omega
    clear hu c0 c4 hc c
    refine ⟨ns, u, rfl, nl, u1, u4, fun E0 d R hf R1 R6 Rw => fz_new hf ?_⟩
    dsimp only [dCompK, iSeqK]
    walk_at "vc"
    refine ⟨by rw [List.length_map]; exact sz (by omega), ?_⟩
    refine compK_pair (F := fun x r => x = ilD r ∧ r ∈ R) (f := fun r => ilD r) (as := R) trivial (fun x r hx qq hq => ?_) (prd_self ilD R R fun x hx => hx) ?_
    · obtain ⟨rfl, hr⟩ := hx
      exact fz_loc (ints_un _) hq
    rw [List.nil_append]
    have ro := rows_ok R1 R6 u4 Rw
    have szh := szH u4
    have hrow : ∀ r ∈ R, ∃ k, k < R.length ∧ ∀ x, Bz.arr R k x = r.getD x 0 := fun r hr => by
      obtain ⟨k, hk, e⟩ := List.getElem_of_mem hr
      refine ⟨k, hk, fun x => ?_⟩
      unfold Bz.arr
      rw [List.getD_eq_getElem?_getD (l := R), List.getElem?_eq_getElem hk, Option.getD_some, e]
    have hC : ∀ r ∈ R, ∀ x, x < u + 1 → (r.getD x 0).natAbs ≤ CC := fun r hr x hx => ab_nat ((Rw r hr).at_ hx)
    dsimp only [sTryK]
    walk_at "vc"
    refine ⟨R, u, BM, rfl, ro, u1, fun ρ cols q2 d W t => ?_⟩
    have lc := t.st.lc
    have rn := t.st.rn
    have cu := cols_le t
    have d0 := t.d0
    have bd1 : Bz.Bd (Bz.arr R) R.length u BM := ⟨ro.bd.b1, fun k x hk hx => ro.bd.ab k x hk (by omega)⟩
    obtain ⟨s1, s2⟩ := turn_sz (r0 := 4) bd1 ro.bd (by decide) t (by omega)
    have s1 : d.natAbs ≤ TT0 := Nat.le_trans s1 (by decide +kernel)
    have s2 : ∀ i x, i < R.length → x < u + 1 → (Bz.rv (Bz.arr R) R.length (W i) x).natAbs ≤ TT0 := s2
    have T1 : 1 ≤ TT0 := szh.d1
    have sol : (∀ i, ρ.length ≤ i → i < R.length → Bz.rv (Bz.arr R) R.length (W i) u = 0) → Fits (quoL (Bz.arr R) R.length W d cols u u) u (Bz.kvk (Bz.arr R) R.length W cols u cols.length) d TT0 TT0 ∧ ∀ r ∈ R, r.length = u + 1 ∧ (∀ x, x < u + 1 → (r.getD x 0).natAbs ≤ CC) ∧ Bz.ssum (fun x => r.getD x 0 * Bz.kvk (Bz.arr R) R.length W cols u cols.length x) u = d * (1 * r.getD u 0) := fun hz => by
      refine ⟨(quo_fits t (fun i hi => s2 i u (by omega) (by omega)) cols.length (Nat.le_refl _)).mono s1, fun r hr => ?_⟩
      obtain ⟨k, hk, gk⟩ := hrow r hr
      have a1 := t.kvSol hz k hk
      rw [gk] at a1
      refine ⟨(Rw r hr).len, hC r hr, ?_⟩
      rw [Int.one_mul]
      exact (Bz.ssum_congr fun x _ => by rw [gk x]).trans a1
    generalize TT0 = T0 at *
    refine ⟨fun i a b c => ?_, fun hz => ⟨fun hc => ?_, fun hc f f1 f2 Em hE => ?_⟩⟩
    · refine ⟨E.sNoAnswer, fun x => ?_⟩
      show (goesX 6 x _ _).nx [some (.scr ns), some (.int (u : Int)), some (mlD R), some (mlD R), some .non, some (.ref x), some (.ref x)] _
      refine goes_nx (ρ' := [some (.scr ns), some (.int (u : Int)), some (mlD R), some (mlD R), some .non, some (.exc Cb ["weights"] [.loc M.length]), none]) ?_ ?_
      · show [some (.scr ns), some (.int (u : Int)), some (mlD R), some (mlD R), some .non, (if x = x then some (.exc Cb ["weights"] [.loc M.length]) else some (.ref x)), none] = _
        rw [if_pos rfl]
      have bl := (line_big t (m := u + 1) ro.bd ro.b450 (by omega) (by omega)).1
      have g : ∀ c, Bz.ssum (fun j => ((List.range R.length).map (W i)).getD j 0 * Bz.arr R j c) R.length = Bz.rv (Bz.arr R) R.length (W i) c := fun c => by
        unfold Bz.rv
        exact Bz.ssum_congr fun j hj => by rw [getD_map hj]
      refine ⟨true, .inr ⟨_, rfl⟩, .inr ⟨_, rfl⟩, eqM_ml R, fun z => (nomatch z), fun _ => ?_⟩
      refine ⟨rfl, fun z => (nomatch z), fun _ => ?_⟩
      refine Or.inl ⟨Cb, _, _, _, _, true, rfl, E.tNoAnswer, rfl, kit_yes, fun _ => ?_, fun z => (nomatch z)⟩
      refine Or.inl ⟨Cb, _, _, _, _, false, rfl, E.tNoAnswer, rfl, E.kx_NoAnswer_ManyAnswers, fun _ => ?_, fun z => (nomatch z)⟩
      refine ⟨Cb, _, _, _, rfl, E.tNoAnswer, E.x_NoAnswer_weights, rfl, ?_⟩
      refine ⟨M.length, u, (List.range R.length).map (W i), R, rfl, at_new, by omega, by omega, Rw, by simp, fun v hv => ?_, fun c hc => ?_, ?_, h _⟩
      · refine bl i b v ?_
        unfold Bz.lineL
        exact List.mem_append_right _ hv
      · rw [g]; exact t.zero i a b c hc
      · rw [g]; exact c
    · obtain ⟨ft, hr⟩ := sol hz
      refine ⟨true, .inr ⟨_, rfl⟩, .inr ⟨_, rfl⟩, eqM_ml R, fun z => (nomatch z), fun _ => ?_⟩
      refine ⟨rfl, fun _ => ?_, fun z => (nomatch z)⟩
      refine ⟨M.length, _, u, _, d, _, _, rfl, at_new, ft, szh.t, szh.d, fun z => (nomatch z), fun _ => ?_⟩
      refine ⟨R, M.length, _, u, _, d, 1, _, _, _, rfl, at_new, ft, by omega, d0, szh, by decide, hr, fun z => (nomatch z), fun _ => ?_⟩
      exact ⟨R, u, rfl, R6, u4, Rw, Bz.gram_ne t (cols_full t hc), fun E => h _⟩
    · refine ⟨E.sManyAnswers, fun x => ?_⟩
      show (goesX 6 x _ _).nx [some (.scr ns), some (.int (u : Int)), some (mlD R), some (mlD R), some .non, some (.ref x), some (.ref x)] _
      refine goes_nx (ρ' := [some (.scr ns), some (.int (u : Int)), some (mlD R), some (mlD R), some .non, some (.exc Cc ["answer", "still"] [.loc (M.length + 2), .loc (M.length + 3)]), none]) ?_ ?_
      · show [some (.scr ns), some (.int (u : Int)), some (mlD R), some (mlD R), some .non, (if x = x then some (.exc Cc ["answer", "still"] [.loc (M.length + 2), .loc (M.length + 3)]) else some (.ref x)), none] = _
        rw [if_pos rfl]
      obtain ⟨ft, hr⟩ := sol hz
      have ft2 : Fits ((quoL (Bz.arr R) R.length W d cols f u).set f (-1, 1)) u (fun y => Bz.kvk (Bz.arr R) R.length W cols f cols.length y - d * Bz.ind f y) d T0 T0 := (still_fits t f1 f2 (fun i hi => s2 i f (by omega) (by omega)) T1).mono s1
      have hr2 : ∀ r ∈ R, r.length = u + 1 ∧ (∀ x, x < u + 1 → (r.getD x 0).natAbs ≤ CC) ∧ Bz.ssum (fun x => r.getD x 0 * (Bz.kvk (Bz.arr R) R.length W cols f cols.length x - d * Bz.ind f x)) u = d * (0 * r.getD u 0) := fun r hr => by
        obtain ⟨k, hk, gk⟩ := hrow r hr
        have a2 := t.kernelE f1 k hk
        refine ⟨(Rw r hr).len, hC r hr, ?_⟩
        rw [Int.zero_mul, Int.mul_zero]
        exact (Bz.ssum_congr fun x _ => by rw [gk x]).trans a2
      have nz : (((quoL (Bz.arr R) R.length W d cols f u).set f (-1, 1)).getD f (0, 1)).1 ≠ 0 := by rw [fr_set (by rw [quoL, quo_len]; exact f1), if_pos rfl]; decide
      generalize hl1 : quoL (Bz.arr R) R.length W d cols u u = l1 at *
      generalize hl2 : (quoL (Bz.arr R) R.length W d cols f u).set f (-1, 1) = l2 at *
      have g1 : ∀ a b : MO, (M ++ Em ++ [a, b])[M.length + 2]? = some a := fun a b => by
        rw [List.getElem?_append_right (by simp [hE]), List.length_append, hE, Nat.sub_self]; rfl
      have g2 : ∀ a b : MO, (M ++ Em ++ [a, b])[M.length + 3]? = some b := fun a b => by
        rw [List.getElem?_append_right (by simp [hE]), List.length_append, hE, show M.length + 3 - (M.length + 2) = 1 by omega]; rfl
      refine ⟨true, .inr ⟨_, rfl⟩, .inr ⟨_, rfl⟩, eqM_ml R, fun z => (nomatch z), fun _ => ?_⟩
      refine ⟨rfl, fun z => (nomatch z), fun _ => ?_⟩
      refine Or.inl ⟨Cc, _, _, _, _, false, rfl, E.tManyAnswers, rfl, E.kx_ManyAnswers_NoAnswer, fun z => (nomatch z), fun _ => ?_⟩
      refine Or.inl ⟨Cc, _, _, _, _, true, rfl, E.tManyAnswers, rfl, kit_yes, fun z => (nomatch z), fun _ => ?_⟩
      refine ⟨Cc, _, _, _, rfl, E.tManyAnswers, E.x_ManyAnswers_answer, rfl, ?_⟩
      refine ⟨M.length + 2, _, u, _, d, _, _, rfl, g1 _ _, ft, szh.t, szh.d, fun z => (nomatch z), fun _ => ?_⟩
      refine ⟨Cc, _, _, _, rfl, E.tManyAnswers, E.x_ManyAnswers_still, rfl, ?_⟩
      refine ⟨M.length + 3, _, u, _, d, _, _, rfl, g2 _ _, ft2, szh.t, szh.d, fun z => (nomatch z), fun _ => ?_⟩
      dsimp only [dCompK, iSeqK]
      walk_at "vc"
      refine ⟨Cc, _, _, _, rfl, E.tManyAnswers, E.x_ManyAnswers_still, rfl, ?_⟩
      dsimp only
      rw [iterK_at (g2 _ _)]
      dsimp only
      refine ⟨by rw [List.length_map, ft2.len]; exact sz (by omega), ?_⟩
      refine compK_pair (F := fun x p => x = frD p ∧ p ∈ l2) (f := fun p : Fr => .bl (decide (p.1 = 0))) (as := l2) (g2 _ _) (fun x p hx qq hq => ?_) (prd_self frD l2 l2 fun x hx => hx) ?_
      · obtain ⟨rfl, hp⟩ := hx
        walk_at "vc"
        refine (fr_0 ?_ : fIx (frD p) (.int 0) _ _)
        exact hq
      rw [List.nil_append]
      refine ⟨l2.map fun p : Fr => decide (p.1 = 0), by rw [List.map_map]; rfl, ?_⟩
      have na : (l2.map fun p : Fr => decide (p.1 = 0)).all id = false := by
        rw [List.all_eq_false]
        refine ⟨decide ((l2.getD f (0, 1)).1 = 0), List.mem_map.mpr ⟨_, mem_at (by rw [ft2.len]; exact f1), rfl⟩, ?_⟩
        rw [decide_eq_false nz]; decide
      rw [na]
      refine ⟨fun z => (nomatch z), fun _ => ?_⟩
      refine ⟨Cc, _, _, _, rfl, E.tManyAnswers, E.x_ManyAnswers_answer, rfl, ?_⟩
      refine ⟨R, M.length + 2, _, u, _, d, 1, _, _, _, rfl, g1 _ _, ft, by omega, d0, szh, by decide, hr, fun _ => ?_, fun z => (nomatch z)⟩
      refine ⟨Cc, _, _, _, rfl, E.tManyAnswers, E.x_ManyAnswers_still, rfl, ?_⟩
      exact ⟨R, M.length + 3, _, u, _, d, 0, _, _, _, rfl, g2 _ _, ft2, by omega, d0, szh, by decide, hr2, h _⟩
end
end Pg
set_option maxRecDepth 100000
set_option maxHeartbeats 4000000
namespace Pg
open PySem L2 Fr0 Tx
theorem len_1 {P : List Value → Prop} (h : ∀ a0 : Value, P [a0]) : ∀ us : List Value, us.length = 1 → P us
  | [a0], _ => h a0
theorem len_2 {P : List Value → Prop} (h : ∀ a0 a1 : Value, P [a0, a1]) : ∀ us : List Value, us.length = 2 → P us
  | [a0, a1], _ => h a0 a1
theorem len_3 {P : List Value → Prop} (h : ∀ a0 a1 a2 : Value, P [a0, a1, a2]) : ∀ us : List Value, us.length = 3 → P us
  | [a0, a1, a2], _ => h a0 a1 a2
theorem len_4 {P : List Value → Prop} (h : ∀ a0 a1 a2 a3 : Value, P [a0, a1, a2, a3]) : ∀ us : List Value, us.length = 4 → P us
  | [a0, a1, a2, a3], _ => h a0 a1 a2 a3
theorem kit_int_bool {K : PySem.W.Frag} (h : PySem.W.subIn K (.type "int") (.type "bool") = some false) : PySem.W.kitOne K (.type "int") (.type "bool") = some false := by
  unfold PySem.W.kitOne PySem.W.kitCls
  rw [if_neg (by decide +kernel)]
  show (if PySem.W.kitMeta "bool" = true then _ else _) = _
  rw [if_pos (by decide +kernel)]
  exact h
theorem kit_int_str {K : PySem.W.Frag} (h : PySem.W.subIn K (.type "int") (.type "str") = some false) : PySem.W.kitOne K (.type "int") (.type "str") = some false := by
  unfold PySem.W.kitOne PySem.W.kitCls
  rw [if_neg (by decide +kernel)]
  show (if PySem.W.kitMeta "str" = true then _ else _) = _
  rw [if_pos (by decide +kernel)]
  exact h
theorem kit_tuple_str {K : PySem.W.Frag} (h : PySem.W.subIn K (.type "tuple") (.type "str") = some false) : PySem.W.kitOne K (.type "tuple") (.type "str") = some false := by
  unfold PySem.W.kitOne PySem.W.kitCls
  rw [if_neg (by decide +kernel)]
  show (if PySem.W.kitMeta "str" = true then _ else _) = _
  rw [if_pos (by decide +kernel)]
  exact h
theorem kit_tuple_int {K : PySem.W.Frag} (h : PySem.W.subIn K (.type "tuple") (.type "int") = some false) : PySem.W.kitOne K (.type "tuple") (.type "int") = some false := by
  unfold PySem.W.kitOne PySem.W.kitCls
  rw [if_neg (by decide +kernel)]
  show (if PySem.W.kitMeta "int" = true then _ else _) = _
  rw [if_pos (by decide +kernel)]
  exact h
theorem kit_list_str {K : PySem.W.Frag} (h : PySem.W.subIn K (.type "list") (.type "str") = some false) : PySem.W.kitOne K (.type "list") (.type "str") = some false := by
  unfold PySem.W.kitOne PySem.W.kitCls
  rw [if_neg (by decide +kernel)]
  show (if PySem.W.kitMeta "str" = true then _ else _) = _
  rw [if_pos (by decide +kernel)]
  exact h
theorem kit_list_int {K : PySem.W.Frag} (h : PySem.W.subIn K (.type "list") (.type "int") = some false) : PySem.W.kitOne K (.type "list") (.type "int") = some false := by
  unfold PySem.W.kitOne PySem.W.kitCls
  rw [if_neg (by decide +kernel)]
  show (if PySem.W.kitMeta "int" = true then _ else _) = _
  rw [if_pos (by decide +kernel)]
  exact h
theorem kit_tuple_list {K : PySem.W.Frag} (h : PySem.W.subIn K (.type "tuple") (.type "list") = some false) : PySem.W.kitOne K (.type "tuple") (.type "list") = some false := by
  unfold PySem.W.kitOne PySem.W.kitCls
  rw [if_neg (by decide +kernel)]
  show (if PySem.W.kitMeta "list" = true then _ else _) = _
  rw [if_pos (by decide +kernel)]
  exact h
theorem kit_list_tuple {K : PySem.W.Frag} (h : PySem.W.subIn K (.type "list") (.type "tuple") = some false) : PySem.W.kitOne K (.type "list") (.type "tuple") = some false := by
  unfold PySem.W.kitOne PySem.W.kitCls
  rw [if_neg (by decide +kernel)]
  show (if PySem.W.kitMeta "tuple" = true then _ else _) = _
  rw [if_pos (by decide +kernel)]
  exact h
open PySem.W in
theorem all_mk {l : OpenLaw} {w : World} {K : Frag} {h : Heap} {mg : Str → Option Value} {fa Ck Ca Cb Cc f1 f2 f3 f4 f5 f6 f7 f8 f9 f10 f11 f12 f13 f14 f15 f16 f17 f18 f19 f20 f21 f22 f23 : Addr} (X : K.In h) (G : h.Ns mainGlobals mg) (hfa : mg "law" = some (.ref fa))
    {od1 an1 od2 an2 od3 an3 od4 an4 od5 an5 od6 an6 od7 an7 od8 an8 od9 an9 od10 an10 od11 an11 od12 an12 od13 an13 od14 an14 od15 an15 od16 an16 od17 an17 od18 an18 od19 an19 od20 an20 od21 an21 od22 an22 od23 an23 : Option Addr} {sl1 sl2 sl3 sl4 sl5 sl6 sl7 sl8 sl9 sl10 sl11 sl12 sl13 sl14 sl15 sl16 sl17 sl18 sl19 sl20 sl21 sl22 sl23 : Array (Option Value)} {oc1 kV1 dc1 pm1 cd1 ct1 oc2 kV2 dc2 pm2 cd2 ct2 oc3 kV3 dc3 pm3 cd3 ct3 oc4 kV4 dc4 pm4 cd4 ct4 oc5 kV5 dc5 pm5 cd5 ct5 oc6 kV6 dc6 pm6 cd6 ct6 oc7 kV7 dc7 pm7 cd7 ct7 oc8 kV8 dc8 pm8 cd8 ct8 oc9 kV9 dc9 pm9 cd9 ct9 oc10 kV10 dc10 pm10 cd10 ct10 oc11 kV11 dc11 pm11 cd11 ct11 oc12 kV12 dc12 pm12 cd12 ct12 oc13 kV13 dc13 pm13 cd13 ct13 oc14 kV14 dc14 pm14 cd14 ct14 oc15 kV15 dc15 pm15 cd15 ct15 oc16 kV16 dc16 pm16 cd16 ct16 oc17 kV17 dc17 pm17 cd17 ct17 oc18 kV18 dc18 pm18 cd18 ct18 oc19 kV19 dc19 pm19 cd19 ct19 oc20 kV20 dc20 pm20 cd20 ct20 oc21 kV21 dc21 pm21 cd21 ct21 oc22 kV22 dc22 pm22 cd22 ct22 oc23 kV23 dc23 pm23 cd23 ct23 : Value}
    (aENoNumber : nsIn K mainGlobals "NoNumber" = some (some (.ref Ck))) (xENoNumber : excIn K Ck [.type "ValueError", .type "Exception", .type "BaseException", .type "object"] "ValueError.__new__" = true)
    (aEDuelError : nsIn K mainGlobals "DuelError" = some (some (.ref Ca))) (xEDuelError : excIn K Ca [.type "ValueError", .type "Exception", .type "BaseException", .type "object"] "ValueError.__new__" = true)
    (aXNoAnswer : nsIn K mainGlobals "NoAnswer" = some (some (.ref Cb)))
    (aXManyAnswers : nsIn K mainGlobals "ManyAnswers" = some (some (.ref Cc)))
    (ks_int_bool : subIn K (.type "int") (.type "bool") = some false)
    (ks_int_str : subIn K (.type "int") (.type "str") = some false)
    (ks_tuple_str : subIn K (.type "tuple") (.type "str") = some false)
    (ks_tuple_int : subIn K (.type "tuple") (.type "int") = some false)
    (ks_list_str : subIn K (.type "list") (.type "str") = some false)
    (ks_list_int : subIn K (.type "list") (.type "int") = some false)
    (ks_tuple_list : subIn K (.type "tuple") (.type "list") = some false)
    (ks_list_tuple : subIn K (.type "list") (.type "tuple") = some false)
    (a1 : nsIn K mainGlobals "_law_at" = some (some (.ref f1))) (l1 : K.lookup f1 = some ⟨oc1, od1, .func (fnOf "_law_at" "_law_at" (defArgs sLawAt) (defBody sLawAt) (defScope sLawAt) .none kV1 dc1 pm1 an1 cd1 ct1), sl1⟩) (c1 : codeIn K cd1 "_law_at" = true) (k1 : keepIn K (.ref f1) = true)
    (a2 : nsIn K mainGlobals "_law_number" = some (some (.ref f2))) (l2 : K.lookup f2 = some ⟨oc2, od2, .func (fnOf "_law_number" "_law_number" (defArgs sLawNumber) (defBody sLawNumber) (defScope sLawNumber) .none kV2 dc2 pm2 an2 cd2 ct2), sl2⟩) (c2 : codeIn K cd2 "_law_number" = true) (k2 : keepIn K (.ref f2) = true)
    (a3 : nsIn K mainGlobals "_law_rows" = some (some (.ref f3))) (l3 : K.lookup f3 = some ⟨oc3, od3, .func (fnOf "_law_rows" "_law_rows" (defArgs sLawRows) (defBody sLawRows) (defScope sLawRows) .none kV3 dc3 pm3 an3 cd3 ct3), sl3⟩) (c3 : codeIn K cd3 "_law_rows" = true) (k3 : keepIn K (.ref f3) = true)
    (a4 : nsIn K mainGlobals "with_weights" = some (some (.ref f4))) (l4 : K.lookup f4 = some ⟨oc4, od4, .func (fnOf "with_weights" "with_weights" (defArgs sWithWeights) (defBody sWithWeights) (defScope sWithWeights) .none kV4 dc4 pm4 an4 cd4 ct4), sl4⟩) (c4 : codeIn K cd4 "with_weights" = true) (k4 : keepIn K (.ref f4) = true)
    (a5 : nsIn K mainGlobals "number_of_head" = some (some (.ref f5))) (l5 : K.lookup f5 = some ⟨oc5, od5, .func (fnOf "number_of_head" "number_of_head" (defArgs sNumberOfHead) (defBody sNumberOfHead) (defScope sNumberOfHead) .none kV5 dc5 pm5 an5 cd5 ct5), sl5⟩) (c5 : codeIn K cd5 "number_of_head" = true) (k5 : keepIn K (.ref f5) = true)
    (a6 : nsIn K mainGlobals "moved_ahead" = some (some (.ref f6))) (l6 : K.lookup f6 = some ⟨oc6, od6, .func (fnOf "moved_ahead" "moved_ahead" (defArgs sMovedAhead) (defBody sMovedAhead) (defScope sMovedAhead) .none kV6 dc6 pm6 an6 cd6 ct6), sl6⟩) (c6 : codeIn K cd6 "moved_ahead" = true) (k6 : keepIn K (.ref f6) = true)
    (a7 : nsIn K mainGlobals "cleared_line" = some (some (.ref f7))) (l7 : K.lookup f7 = some ⟨oc7, od7, .func (fnOf "cleared_line" "cleared_line" (defArgs sClearedLine) (defBody sClearedLine) (defScope sClearedLine) .none kV7 dc7 pm7 an7 cd7 ct7), sl7⟩) (c7 : codeIn K cd7 "cleared_line" = true) (k7 : keepIn K (.ref f7) = true)
    (a8 : nsIn K mainGlobals "cleared" = some (some (.ref f8))) (l8 : K.lookup f8 = some ⟨oc8, od8, .func (fnOf "cleared" "cleared" (defArgs sCleared) (defBody sCleared) (defScope sCleared) .none kV8 dc8 pm8 an8 cd8 ct8), sl8⟩) (c8 : codeIn K cd8 "cleared" = true) (k8 : keepIn K (.ref f8) = true)
    (a9 : findIn K (.ref Cb) "__init__" = some (some (.ref f9))) (i9 : isFn K (.ref f9) = true) (l9 : K.lookup f9 = some ⟨oc9, od9, .func (fnOf "__init__" "NoAnswer.__init__" (defArgs sNoanswerInit) (defBody sNoanswerInit) (defScope sNoanswerInit) .none kV9 dc9 pm9 an9 cd9 ct9), sl9⟩) (c9 : codeIn K cd9 "NoAnswer.__init__" = true) (k9 : keepIn K (.ref f9) = true)
    (a10 : nsIn K mainGlobals "common_divisor" = some (some (.ref f10))) (l10 : K.lookup f10 = some ⟨oc10, od10, .func (fnOf "common_divisor" "common_divisor" (defArgs sCommonDivisor) (defBody sCommonDivisor) (defScope sCommonDivisor) .none kV10 dc10 pm10 an10 cd10 ct10), sl10⟩) (c10 : codeIn K cd10 "common_divisor" = true) (k10 : keepIn K (.ref f10) = true)
    (a11 : nsIn K mainGlobals "fraction" = some (some (.ref f11))) (l11 : K.lookup f11 = some ⟨oc11, od11, .func (fnOf "fraction" "fraction" (defArgs sFraction) (defBody sFraction) (defScope sFraction) .none kV11 dc11 pm11 an11 cd11 ct11), sl11⟩) (c11 : codeIn K cd11 "fraction" = true) (k11 : keepIn K (.ref f11) = true)
    (a12 : nsIn K mainGlobals "quotients" = some (some (.ref f12))) (l12 : K.lookup f12 = some ⟨oc12, od12, .func (fnOf "quotients" "quotients" (defArgs sQuotients) (defBody sQuotients) (defScope sQuotients) .none kV12 dc12 pm12 an12 cd12 ct12), sl12⟩) (c12 : codeIn K cd12 "quotients" = true) (k12 : keepIn K (.ref f12) = true)
    (a13 : findIn K (.ref Cc) "__init__" = some (some (.ref f13))) (i13 : isFn K (.ref f13) = true) (l13 : K.lookup f13 = some ⟨oc13, od13, .func (fnOf "__init__" "ManyAnswers.__init__" (defArgs sManyanswersInit) (defBody sManyanswersInit) (defScope sManyanswersInit) .none kV13 dc13 pm13 an13 cd13 ct13), sl13⟩) (c13 : codeIn K cd13 "ManyAnswers.__init__" = true) (k13 : keepIn K (.ref f13) = true)
    (a14 : nsIn K mainGlobals "still_of" = some (some (.ref f14))) (l14 : K.lookup f14 = some ⟨oc14, od14, .func (fnOf "still_of" "still_of" (defArgs sStillOf) (defBody sStillOf) (defScope sStillOf) .none kV14 dc14 pm14 an14 cd14 ct14), sl14⟩) (c14 : codeIn K cd14 "still_of" = true) (k14 : keepIn K (.ref f14) = true)
    (a15 : nsIn K mainGlobals "answer_of" = some (some (.ref f15))) (l15 : K.lookup f15 = some ⟨oc15, od15, .func (fnOf "answer_of" "answer_of" (defArgs sAnswerOf) (defBody sAnswerOf) (defScope sAnswerOf) .none kV15 dc15 pm15 an15 cd15 ct15), sl15⟩) (c15 : codeIn K cd15 "answer_of" = true) (k15 : keepIn K (.ref f15) = true)
    (a16 : nsIn K mainGlobals "_law_comes" = some (some (.ref f16))) (l16 : K.lookup f16 = some ⟨oc16, od16, .func (fnOf "_law_comes" "_law_comes" (defArgs sLawComes) (defBody sLawComes) (defScope sLawComes) .none kV16 dc16 pm16 an16 cd16 ct16), sl16⟩) (c16 : codeIn K cd16 "_law_comes" = true) (k16 : keepIn K (.ref f16) = true)
    (a17 : nsIn K mainGlobals "_law_whole" = some (some (.ref f17))) (l17 : K.lookup f17 = some ⟨oc17, od17, .func (fnOf "_law_whole" "_law_whole" (defArgs sLawWhole) (defBody sLawWhole) (defScope sLawWhole) .none kV17 dc17 pm17 an17 cd17 ct17), sl17⟩) (c17 : codeIn K cd17 "_law_whole" = true) (k17 : keepIn K (.ref f17) = true)
    (a18 : nsIn K mainGlobals "_law_lowest" = some (some (.ref f18))) (l18 : K.lookup f18 = some ⟨oc18, od18, .func (fnOf "_law_lowest" "_law_lowest" (defArgs sLawLowest) (defBody sLawLowest) (defScope sLawLowest) .none kV18 dc18 pm18 an18 cd18 ct18), sl18⟩) (c18 : codeIn K cd18 "_law_lowest" = true) (k18 : keepIn K (.ref f18) = true)
    (a19 : nsIn K mainGlobals "_law_fractions" = some (some (.ref f19))) (l19 : K.lookup f19 = some ⟨oc19, od19, .func (fnOf "_law_fractions" "_law_fractions" (defArgs sLawFractions) (defBody sLawFractions) (defScope sLawFractions) .none kV19 dc19 pm19 an19 cd19 ct19), sl19⟩) (c19 : codeIn K cd19 "_law_fractions" = true) (k19 : keepIn K (.ref f19) = true)
    (a20 : nsIn K mainGlobals "_law_det" = some (some (.ref f20))) (l20 : K.lookup f20 = some ⟨oc20, od20, .func (fnOf "_law_det" "_law_det" (defArgs sLawDet) (defBody sLawDet) (defScope sLawDet) .none kV20 dc20 pm20 an20 cd20 ct20), sl20⟩) (c20 : codeIn K cd20 "_law_det" = true) (k20 : keepIn K (.ref f20) = true)
    (a21 : nsIn K mainGlobals "_law_just_one" = some (some (.ref f21))) (l21 : K.lookup f21 = some ⟨oc21, od21, .func (fnOf "_law_just_one" "_law_just_one" (defArgs sLawJustOne) (defBody sLawJustOne) (defScope sLawJustOne) .none kV21 dc21 pm21 an21 cd21 ct21), sl21⟩) (c21 : codeIn K cd21 "_law_just_one" = true) (k21 : keepIn K (.ref f21) = true)
    (a22 : nsIn K mainGlobals "_law_weighed" = some (some (.ref f22))) (l22 : K.lookup f22 = some ⟨oc22, od22, .func (fnOf "_law_weighed" "_law_weighed" (defArgs sLawWeighed) (defBody sLawWeighed) (defScope sLawWeighed) .none kV22 dc22 pm22 an22 cd22 ct22), sl22⟩) (c22 : codeIn K cd22 "_law_weighed" = true) (k22 : keepIn K (.ref f22) = true)
    (a23 : nsIn K mainGlobals "law" = some (some (.ref f23))) (l23 : K.lookup f23 = some ⟨oc23, od23, .func (fnOf "law" "law" (defArgs sLaw) (defBody sLaw) (defScope sLaw) .none kV23 dc23 pm23 an23 cd23 ct23), sl23⟩) (c23 : codeIn K cd23 "law" = true) (k23 : keepIn K (.ref f23) = true)
    (z_len : nsIn K mainGlobals "len" = some none)
    (z_abs : nsIn K mainGlobals "abs" = some none)
    (z_isinstance : nsIn K mainGlobals "isinstance" = some none)
    (z_int : nsIn K mainGlobals "int" = some none)
    (z_bool : nsIn K mainGlobals "bool" = some none)
    (z_str : nsIn K mainGlobals "str" = some none)
    (z_tuple : nsIn K mainGlobals "tuple" = some none)
    (z_list : nsIn K mainGlobals "list" = some none)
    (z_range : nsIn K mainGlobals "range" = some none)
    (z_enumerate : nsIn K mainGlobals "enumerate" = some none)
    (z_any : nsIn K mainGlobals "any" = some none)
    (z_all : nsIn K mainGlobals "all" = some none)
    (z_sum : nsIn K mainGlobals "sum" = some none)
    (z_zip : nsIn K mainGlobals "zip" = some none)
    (z_max : nsIn K mainGlobals "max" = some none)
    (z_min : nsIn K mainGlobals "min" = some none)
    (z_ValueError : nsIn K mainGlobals "ValueError" = some none)
    (iD_sp : specialIn K (.ref Ca) "__getattribute__" = some (some (.builtin "type.__getattribute__")))
    (iD_rd : readsIn K Ca (.type "type") = true)
    (iD_fd : findCls K (.ref Ca) (.type "type") "__init__" = some (.val (.builtin "ValueError.__init__")))
    (tNoAnswer_cls : isClsIn K Cb = true)
    (tNoAnswer_ga : findIn K (.ref Cb) "__getattribute__" = some (some (.builtin "BaseException.__getattribute__")))
    (tNoAnswer_gt : findIn K (.ref Cb) "__getattr__" = some none)
    (tNoAnswer_cl : findIn K (.ref Cb) "__class__" = some (some (.builtin "object.__class__")))
    (tNoAnswer_ob : mroIn K Cb (.type "object") = some true)
    (tNoAnswer_be : subIn K (.ref Cb) (.type "BaseException") = some true)
    (sNoAnswer : subIn K (.ref Cb) (.ref Ca) = some true)
    (kv_NoAnswer : kitOne K (.ref Cb) (.type "ValueError") = some true)
    (hdNoAnswer : hasDictIn K Cb = true)
    (tk_NoAnswer_weights : takerIn K Cb "weights" = some none)
    (nf_NoAnswer_weights : findIn K (.ref Cb) "weights" = some none)
    (kx_NoAnswer_NoNumber : kitOne K (.ref Cb) (.ref Ck) = some false)
    (kx_NoAnswer_ManyAnswers : kitOne K (.ref Cb) (.ref Cc) = some false)
    (oINoAnswer : L2.excInI K Cb [.type "ValueError", .type "Exception", .type "BaseException", .type "object"] "ValueError.__new__" f9 = true)
    (saNoAnswer : findIn K (.ref Cb) "__setattr__" = some (some (.builtin "object.__setattr__")))
    (ovNoAnswer : excOver K Cb = true)
    (tManyAnswers_cls : isClsIn K Cc = true)
    (tManyAnswers_ga : findIn K (.ref Cc) "__getattribute__" = some (some (.builtin "BaseException.__getattribute__")))
    (tManyAnswers_gt : findIn K (.ref Cc) "__getattr__" = some none)
    (tManyAnswers_cl : findIn K (.ref Cc) "__class__" = some (some (.builtin "object.__class__")))
    (tManyAnswers_ob : mroIn K Cc (.type "object") = some true)
    (tManyAnswers_be : subIn K (.ref Cc) (.type "BaseException") = some true)
    (sManyAnswers : subIn K (.ref Cc) (.ref Ca) = some true)
    (kv_ManyAnswers : kitOne K (.ref Cc) (.type "ValueError") = some true)
    (hdManyAnswers : hasDictIn K Cc = true)
    (tk_ManyAnswers_answer : takerIn K Cc "answer" = some none)
    (nf_ManyAnswers_answer : findIn K (.ref Cc) "answer" = some none)
    (tk_ManyAnswers_still : takerIn K Cc "still" = some none)
    (nf_ManyAnswers_still : findIn K (.ref Cc) "still" = some none)
    (kx_ManyAnswers_NoNumber : kitOne K (.ref Cc) (.ref Ck) = some false)
    (kx_ManyAnswers_NoAnswer : kitOne K (.ref Cc) (.ref Cb) = some false)
    (oIManyAnswers : L2.excInI K Cc [.type "ValueError", .type "Exception", .type "BaseException", .type "object"] "ValueError.__new__" f13 = true)
    (saManyAnswers : findIn K (.ref Cc) "__setattr__" = some (some (.builtin "object.__setattr__")))
    (ovManyAnswers : excOver K Cc = true)
    : ∃ fd : FuncData, (∀ (s : Shared) (v : Value), BindsTo s fd ⟨[v], []⟩ [("_law_script", v)]) ∧ ∀ base : Heap, K.In base → base.Ns mainGlobals mg → FnOk l.prog w K mg base CX0 7 fa fd ["_law_script"] (spLaw K) := by
  have e := hfa.symm.trans (mg_of X G a23)
  cases e
  have mENoNumber := mg_of X G aENoNumber
  have ENoNumber : ExcCls K Ck _ _ := ⟨xENoNumber⟩
  have mEDuelError := mg_of X G aEDuelError
  have EDuelError : ExcCls K Ca _ _ := ⟨xEDuelError⟩
  have F1 := fun_mk (st := sLawAt) l1 c1 k1
  have m1 := mg_of X G a1
  have b1 := F1.binds (ps := ["_law_script", "_law_k"]) fun _ _ _ _ _ _ => len_2 fun _ _ => rfl
  have F2 := fun_mk (st := sLawNumber) l2 c2 k2
  have m2 := mg_of X G a2
  have b2 := F2.binds (ps := ["_law_cell", "_law_kind"]) fun _ _ _ _ _ _ => len_2 fun _ _ => rfl
  have F3 := fun_mk (st := sLawRows) l3 c3 k3
  have m3 := mg_of X G a3
  have b3 := F3.binds (ps := ["_law_script", "_law_wide"]) fun _ _ _ _ _ _ => len_2 fun _ _ => rfl
  have F4 := fun_mk (st := sWithWeights) l4 c4 k4
  have m4 := mg_of X G a4
  have b4 := F4.binds (ps := ["rows"]) fun _ _ _ _ _ _ => len_1 fun _ => rfl
  have F5 := fun_mk (st := sNumberOfHead) l5 c5 k5
  have m5 := mg_of X G a5
  have b5 := F5.binds (ps := ["lines", "first", "column"]) fun _ _ _ _ _ _ => len_3 fun _ _ _ => rfl
  have F6 := fun_mk (st := sMovedAhead) l6 c6 k6
  have m6 := mg_of X G a6
  have b6 := F6.binds (ps := ["lines", "first", "number"]) fun _ _ _ _ _ _ => len_3 fun _ _ _ => rfl
  have F7 := fun_mk (st := sClearedLine) l7 c7 k7
  have m7 := mg_of X G a7
  have b7 := F7.binds (ps := ["line", "head", "column", "divisor"]) fun _ _ _ _ _ _ => len_4 fun _ _ _ _ => rfl
  have F8 := fun_mk (st := sCleared) l8 c8 k8
  have m8 := mg_of X G a8
  have b8 := F8.binds (ps := ["rows", "unknowns"]) fun _ _ _ _ _ _ => len_2 fun _ _ => rfl
  have F9 := fun_mk (st := sNoanswerInit) l9 c9 k9
  have b9 := F9.binds (ps := ["self", "weights"]) fun _ _ _ _ _ _ => len_2 fun _ _ => rfl
  have F10 := fun_mk (st := sCommonDivisor) l10 c10 k10
  have m10 := mg_of X G a10
  have b10 := F10.binds (ps := ["one", "other"]) fun _ _ _ _ _ _ => len_2 fun _ _ => rfl
  have F11 := fun_mk (st := sFraction) l11 c11 k11
  have m11 := mg_of X G a11
  have b11 := F11.binds (ps := ["top", "bottom"]) fun _ _ _ _ _ _ => len_2 fun _ _ => rfl
  have F12 := fun_mk (st := sQuotients) l12 c12 k12
  have m12 := mg_of X G a12
  have b12 := F12.binds (ps := ["lines", "columns", "unknowns", "source"]) fun _ _ _ _ _ _ => len_4 fun _ _ _ _ => rfl
  have F13 := fun_mk (st := sManyanswersInit) l13 c13 k13
  have b13 := F13.binds (ps := ["self", "answer", "still"]) fun _ _ _ _ _ _ => len_3 fun _ _ _ => rfl
  have F14 := fun_mk (st := sStillOf) l14 c14 k14
  have m14 := mg_of X G a14
  have b14 := F14.binds (ps := ["lines", "columns", "unknowns"]) fun _ _ _ _ _ _ => len_3 fun _ _ _ => rfl
  have F15 := fun_mk (st := sAnswerOf) l15 c15 k15
  have m15 := mg_of X G a15
  have b15 := F15.binds (ps := ["rows"]) fun _ _ _ _ _ _ => len_1 fun _ => rfl
  have F16 := fun_mk (st := sLawComes) l16 c16 k16
  have m16 := mg_of X G a16
  have b16 := F16.binds (ps := ["_law_rows_here", "_law_some", "_law_whole_here"]) fun _ _ _ _ _ _ => len_3 fun _ _ _ => rfl
  have F17 := fun_mk (st := sLawWhole) l17 c17 k17
  have m17 := mg_of X G a17
  have b17 := F17.binds (ps := ["_law_number_here"]) fun _ _ _ _ _ _ => len_1 fun _ => rfl
  have F18 := fun_mk (st := sLawLowest) l18 c18 k18
  have m18 := mg_of X G a18
  have b18 := F18.binds (ps := ["_law_top", "_law_bottom"]) fun _ _ _ _ _ _ => len_2 fun _ _ => rfl
  have F19 := fun_mk (st := sLawFractions) l19 c19 k19
  have m19 := mg_of X G a19
  have b19 := F19.binds (ps := ["_law_some", "_law_wide"]) fun _ _ _ _ _ _ => len_2 fun _ _ => rfl
  have F20 := fun_mk (st := sLawDet) l20 c20 k20
  have m20 := mg_of X G a20
  have b20 := F20.binds (ps := ["_law_rows_here"]) fun _ _ _ _ _ _ => len_1 fun _ => rfl
  have F21 := fun_mk (st := sLawJustOne) l21 c21 k21
  have m21 := mg_of X G a21
  have b21 := F21.binds (ps := ["_law_rows_here", "_law_wide"]) fun _ _ _ _ _ _ => len_2 fun _ _ => rfl
  have F22 := fun_mk (st := sLawWeighed) l22 c22 k22
  have m22 := mg_of X G a22
  have b22 := F22.binds (ps := ["_law_weights", "_law_rows_here", "_law_wide"]) fun _ _ _ _ _ _ => len_3 fun _ _ _ => rfl
  have F23 := fun_mk (st := sLaw) l23 c23 k23
  have m23 := mg_of X G a23
  have n_len := mg_none_of X G z_len
  have n_abs := mg_none_of X G z_abs
  have n_isinstance := mg_none_of X G z_isinstance
  have n_int := mg_none_of X G z_int
  have n_bool := mg_none_of X G z_bool
  have n_str := mg_none_of X G z_str
  have n_tuple := mg_none_of X G z_tuple
  have n_list := mg_none_of X G z_list
  have n_range := mg_none_of X G z_range
  have n_enumerate := mg_none_of X G z_enumerate
  have n_any := mg_none_of X G z_any
  have n_all := mg_none_of X G z_all
  have n_sum := mg_none_of X G z_sum
  have n_zip := mg_none_of X G z_zip
  have n_max := mg_none_of X G z_max
  have n_min := mg_none_of X G z_min
  have n_ValueError := mg_none_of X G z_ValueError
  have E : Ev K mg Ck Ca Cb Cc := { n_len := n_len, n_abs := n_abs, n_isinstance := n_isinstance, n_int := n_int, n_bool := n_bool, n_str := n_str, n_tuple := n_tuple, n_list := n_list, n_range := n_range, n_enumerate := n_enumerate, n_any := n_any, n_all := n_all, n_sum := n_sum, n_zip := n_zip, n_max := n_max, n_min := n_min, n_ValueError := n_ValueError, ib := kit_int_bool ks_int_bool, kis := kit_int_str ks_int_str, kts := kit_tuple_str ks_tuple_str, kti := kit_tuple_int ks_tuple_int, kls := kit_list_str ks_list_str, kli := kit_list_int ks_list_int, ktl := kit_tuple_list ks_tuple_list, klt := kit_list_tuple ks_list_tuple, mNoNumber := mENoNumber, mDuelError := mEDuelError, mNoAnswer := mg_of X G aXNoAnswer, mManyAnswers := mg_of X G aXManyAnswers, eNoNumber := ENoNumber, eDuelError := EDuelError, iDuelError := ⟨iD_sp, iD_rd, iD_fd, by decide⟩, tNoAnswer := ⟨tNoAnswer_cls, tNoAnswer_ga, tNoAnswer_gt, tNoAnswer_cl, tNoAnswer_ob, tNoAnswer_be⟩, sNoAnswer := sNoAnswer, kv_NoAnswer := kv_NoAnswer, k_NoAnswer_weights := ⟨tk_NoAnswer_weights⟩, x_NoAnswer_weights := ⟨nf_NoAnswer_weights, hdNoAnswer⟩, kx_NoAnswer_NoNumber := kx_NoAnswer_NoNumber, kx_NoAnswer_ManyAnswers := kx_NoAnswer_ManyAnswers, tManyAnswers := ⟨tManyAnswers_cls, tManyAnswers_ga, tManyAnswers_gt, tManyAnswers_cl, tManyAnswers_ob, tManyAnswers_be⟩, sManyAnswers := sManyAnswers, kv_ManyAnswers := kv_ManyAnswers, k_ManyAnswers_answer := ⟨tk_ManyAnswers_answer⟩, x_ManyAnswers_answer := ⟨nf_ManyAnswers_answer, hdManyAnswers⟩, k_ManyAnswers_still := ⟨tk_ManyAnswers_still⟩, x_ManyAnswers_still := ⟨nf_ManyAnswers_still, hdManyAnswers⟩, kx_ManyAnswers_NoNumber := kx_ManyAnswers_NoNumber, kx_ManyAnswers_NoAnswer := kx_ManyAnswers_NoAnswer }
  refine ⟨fnOf "law" "law" (defArgs sLaw) (defBody sLaw) (defScope sLaw) .none kV23 dc23 pm23 an23 cd23 ct23, fun s v => .of_eq rfl, fun base _ _ => ?_⟩
  have c_LawAt : CalD l.prog w K mg base 1 "_law_at" ["_law_script", "_law_k"] TAt _ _ := ⟨ok_LawAt F1 E , b1, m1, k1⟩
  have c_LawNumber : CalD l.prog w K mg base 1 "_law_number" ["_law_cell", "_law_kind"] TNumber _ _ := ⟨ok_LawNumber F2 E , b2, m2, k2⟩
  have c_LawRows : CalD l.prog w K mg base 2 "_law_rows" ["_law_script", "_law_wide"] TRows _ _ := ⟨ok_LawRows F3 E c_LawAt c_LawNumber, b3, m3, k3⟩
  have c_WithWeights : CalD l.prog w K mg base 1 "with_weights" ["rows"] TWith _ _ := ⟨ok_WithWeights F4 E , b4, m4, k4⟩
  have c_NumberOfHead : CalD l.prog w K mg base 1 "number_of_head" ["lines", "first", "column"] TNoh _ _ := ⟨ok_NumberOfHead F5 E , b5, m5, k5⟩
  have c_MovedAhead : CalD l.prog w K mg base 1 "moved_ahead" ["lines", "first", "number"] TMoved _ _ := ⟨ok_MovedAhead F6 E , b6, m6, k6⟩
  have c_ClearedLine : CalD l.prog w K mg base 1 "cleared_line" ["line", "head", "column", "divisor"] TClear _ _ := ⟨ok_ClearedLine F7 E , b7, m7, k7⟩
  have c_Cleared : CalD l.prog w K mg base 2 "cleared" ["rows", "unknowns"] TCleared _ _ := ⟨ok_Cleared F8 E c_WithWeights c_NumberOfHead c_MovedAhead c_ClearedLine, b8, m8, k8⟩
  have c_NoanswerInit : XcD l.prog w K mg base 1 "NoAnswer" Cb VB "ValueError.__new__" ["self", "weights"] TNoA _ _ := ⟨ok_NoanswerInit F9 E ⟨oINoAnswer, i9, saNoAnswer, ovNoAnswer⟩ , b9, ⟨oINoAnswer, i9, saNoAnswer, ovNoAnswer⟩, mg_of X G aXNoAnswer⟩
  have c_CommonDivisor : CalD l.prog w K mg base 1 "common_divisor" ["one", "other"] TGcd _ _ := ⟨ok_CommonDivisor F10 E , b10, m10, k10⟩
  have c_Fraction : CalD l.prog w K mg base 2 "fraction" ["top", "bottom"] (TFrac Ck) _ _ := ⟨ok_Fraction F11 E c_CommonDivisor, b11, m11, k11⟩
  have c_Quotients : CalD l.prog w K mg base 3 "quotients" ["lines", "columns", "unknowns", "source"] TQuo _ _ := ⟨ok_Quotients F12 E c_Fraction, b12, m12, k12⟩
  have c_ManyanswersInit : XcD l.prog w K mg base 1 "ManyAnswers" Cc VB "ValueError.__new__" ["self", "answer", "still"] TMany _ _ := ⟨ok_ManyanswersInit F13 E ⟨oIManyAnswers, i13, saManyAnswers, ovManyAnswers⟩ , b13, ⟨oIManyAnswers, i13, saManyAnswers, ovManyAnswers⟩, mg_of X G aXManyAnswers⟩
  have c_StillOf : CalD l.prog w K mg base 4 "still_of" ["lines", "columns", "unknowns"] TStill _ _ := ⟨ok_StillOf F14 E c_Quotients, b14, m14, k14⟩
  have c_AnswerOf : CalD l.prog w K mg base 5 "answer_of" ["rows"] (TAns Cb Cc) _ _ := ⟨ok_AnswerOf F15 E c_Cleared c_NoanswerInit c_Quotients c_ManyanswersInit c_StillOf, b15, m15, k15⟩
  have c_LawComes : CalD l.prog w K mg base 1 "_law_comes" ["_law_rows_here", "_law_some", "_law_whole_here"] TComes _ _ := ⟨ok_LawComes F16 E , b16, m16, k16⟩
  have c_LawWhole : CalD l.prog w K mg base 1 "_law_whole" ["_law_number_here"] TWhole _ _ := ⟨ok_LawWhole F17 E , b17, m17, k17⟩
  have c_LawLowest : CalD l.prog w K mg base 1 "_law_lowest" ["_law_top", "_law_bottom"] TLow _ _ := ⟨ok_LawLowest F18 E , b18, m18, k18⟩
  have c_LawFractions : CalD l.prog w K mg base 2 "_law_fractions" ["_law_some", "_law_wide"] TFrs _ _ := ⟨ok_LawFractions F19 E c_LawWhole c_LawLowest, b19, m19, k19⟩
  have c_LawDet : CalD l.prog w K mg base 5 "_law_det" ["_law_rows_here"] (TDet 4) _ _ := ⟨ok_LawDet F20 E b20 m20 k20 4, b20, m20, k20⟩
  have c_LawJustOne : CalD l.prog w K mg base 6 "_law_just_one" ["_law_rows_here", "_law_wide"] TJust _ _ := ⟨ok_LawJustOne F21 E c_LawDet, b21, m21, k21⟩
  have c_LawWeighed : CalD l.prog w K mg base 2 "_law_weighed" ["_law_weights", "_law_rows_here", "_law_wide"] TWeighed _ _ := ⟨ok_LawWeighed F22 E c_LawWhole, b22, m22, k22⟩
  exact law_of (ok_Law F23 E c_LawAt c_LawRows c_AnswerOf c_LawComes c_LawFractions c_LawJustOne c_LawWeighed)
theorem walk {l : PySem.W.OpenLaw} {q : Program} {loose : List Str} {XP : (Str → Option Value) → Heap → Prop} {YP : World → Heap → Prop} {d : DefRec} {K : Params → PySem.W.Frag} (hn : l.most = some 63) (hdf : d.params.defaults = [])
    (hY : ∀ (w : World) (h : Heap), YP w h → (K w.params).In h)
    (F : ∀ (w : World) (mg : Str → Option Value) (fa : Addr) (h : Heap), (K w.params).In h → h.Ns mainGlobals mg → mg d.name = some (.ref fa) →
      ∃ fd : FuncData, (∀ (s : Shared) (u : Value), BindsTo s fd ⟨[u], []⟩ [("_law_script", u)]) ∧ ∀ base : Heap, (K w.params).In base → base.Ns mainGlobals mg → FnOk l.prog w (K w.params) mg base CX0 7 fa fd ["_law_script"] (spLaw (K w.params))) :
    PySem.W.WalkO q loose XP YP l.row.toRowW d [] (fun f vs => PySem.call f vs) :=
  L2.walk_of (n := 63) (k := 7) (x := "_law_script") (CX := fun _ => CX0) (sp := fun w => spLaw (K w.params)) hn (by decide) hdf ⟨rfl, by decide, by decide⟩ hY F (fun _ _ a ns hl _ hS => ⟨a, ns, rfl, hS, hl, fun _ => rfl⟩) fun _ _ _ _ _ z => z
end Pg
open PySem PySem.W PyProof.Rows
set_option maxRecDepth 100000 in
set_option maxHeartbeats 0 in
theorem PySem.Challenge.cw_chanceduel_k14_whole_any_rows_holds : PySem.Challenge.rw_chanceduel_k14_whole_any_rows.Holds := by
  w_on; o_law; k_head; (case hw => w_witness2)
  k_fill
  refine Pg.walk (l := PySem.Challenge.rw_chanceduel_k14_whole_any_rows) rfl rfl (fun w h Y => PySem.W.kIn_of Y) ?F
  case F =>
    intro w mg fa h KX G hmg
    refine' Pg.all_mk KX G hmg ?_ ?_ ?_ ?_ ?_ ?_ ?_ ?_ ?_ ?_ ?_ ?_ ?_ ?_ ?_ ?_ ?_ ?_ ?_ ?_ ?_ ?_ ?_ ?_ ?_ ?_ ?_ ?_ ?_ ?_ ?_ ?_ ?_ ?_ ?_ ?_ ?_ ?_ ?_ ?_ ?_ ?_ ?_ ?_ ?_ ?_ ?_ ?_ ?_ ?_ ?_ ?_ ?_ ?_ ?_ ?_ ?_ ?_ ?_ ?_ ?_ ?_ ?_ ?_ ?_ ?_ ?_ ?_ ?_ ?_ ?_ ?_ ?_ ?_ ?_ ?_ ?_ ?_ ?_ ?_ ?_ ?_ ?_ ?_ ?_ ?_ ?_ ?_ ?_ ?_ ?_ ?_ ?_ ?_ ?_ ?_ ?_ ?_ ?_ ?_ ?_ ?_ ?_ ?_ ?_ ?_ ?_ ?_ ?_ ?_ ?_ ?_ ?_ ?_ ?_ ?_ ?_ ?_ ?_ ?_ ?_ ?_ ?_ ?_ ?_ ?_ ?_ ?_ ?_ ?_ ?_ ?_ ?_ ?_ ?_ ?_ ?_ ?_ ?_ ?_ ?_ ?_ ?_ ?_ ?_ ?_ ?_ ?_ ?_ ?_ ?_ ?_ ?_ ?_ ?_ ?_ ?_ ?_ ?_ ?_ ?_ ?_
    all_goals try first | k_is | k_exc | kernel_rfl
