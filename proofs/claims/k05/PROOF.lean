import PyProof.Rows.All
import Wide.All
import OpenK.AllK
import Wide.FinOn
import Lean
import PyProof.EqAt
import PyProof.EqKinds
import PyProof.TupleCall
import PySem.Challenge.RW_hurryprice_k05_offers_let_by
set_option Elab.async false
set_option linter.all false
set_option maxRecDepth 100000
/-! THE HAND LAYER, for ints, bools, texts, own classes, LISTS and tuples (index, slices, in, append, pop ..), calls, loops. Paste it whole ahead of your own text; what your proof does not reach may be deleted. -/
namespace L2
open PySem PySem.Spec PyProof.Rows

/-- a key: an int or a str -/
abbrev Key := Sum Int Str
def keyIs : Key → Value → Bool
  | .inl k, v => Value.isInt k v
  | .inr x, v => Value.isStrOf x v
def keyH (w : World) : Key → Int
  | .inl k => hashInt k
  | .inr x => hashStr w x
theorem keyIs_shape : ∀ {k : Key} {v : Value}, keyIs k v = true → (∃ i t, k = Sum.inl i ∧ v = Value.int i t) ∨ (∃ x t, k = Sum.inr x ∧ v = Value.str x t)
  | .inl i, v, h => by
    obtain ⟨t, e⟩ := Value.isInt_shape (k := i) (v := v) h
    exact .inl ⟨i, t, rfl, e⟩
  | .inr x, v, h => by
    obtain ⟨t, e⟩ := Value.isStrOf_shape (x := x) (v := v) h
    exact .inr ⟨x, t, rfl, e⟩
theorem key_ll (a b : Int) : decide ((Sum.inl a : Key) = Sum.inl b) = (a == b) := by
  by_cases e : a = b
  · subst e; simp
  · have h : ¬ (Sum.inl a : Key) = Sum.inl b := fun q => e (Sum.inl.inj q)
    rw [decide_eq_false h]
    exact (beq_eq_false_iff_ne.mpr e).symm
theorem key_rr (a b : Str) : decide ((Sum.inr a : Key) = Sum.inr b) = decide (a = b) := by
  by_cases e : a = b
  · subst e; simp
  · have h : ¬ (Sum.inr a : Key) = Sum.inr b := fun q => e (Sum.inr.inj q)
    rw [decide_eq_false h, decide_eq_false e]
theorem key_lr (a : Int) (b : Str) : decide ((Sum.inl a : Key) = Sum.inr b) = false := decide_eq_false (fun q => nomatch q)
theorem key_rl (a : Str) (b : Int) : decide ((Sum.inr a : Key) = Sum.inl b) = false := decide_eq_false (fun q => nomatch q)

def mixKind (prog : Program) (w : World) : PySem.KeyKind prog w Key where
  is := keyIs
  hash := keyH w
  inj := fun v a b ha hb => by
    rcases keyIs_shape ha with ⟨i, t, rfl, rfl⟩ | ⟨x, t, rfl, rfl⟩
    · rcases keyIs_shape hb with ⟨j, u, rfl, e⟩ | ⟨y, u, rfl, e⟩
      · injection e with e1 _; rw [e1]
      · exact nomatch e
    · rcases keyIs_shape hb with ⟨j, u, rfl, e⟩ | ⟨y, u, rfl, e⟩
      · exact nomatch e
      · injection e with e1 _; rw [e1]
  byValue := fun k v h => by
    rcases keyIs_shape h with ⟨i, t, rfl, rfl⟩ | ⟨x, t, rfl, rfl⟩ <;> rfl
  pyHash := fun hv h => by
    rcases keyIs_shape hv with ⟨i, t, rfl, rfl⟩ | ⟨x, t, rfl, rfl⟩
    · exact wpAny_pyHash_int h
    · exact wpAny_pyHash_str h
  eqBool := fun hu hv h => by
    rcases keyIs_shape hu with ⟨i, t, rfl, rfl⟩ | ⟨x, t, rfl, rfl⟩
    · rcases keyIs_shape hv with ⟨j, u, rfl, rfl⟩ | ⟨y, u, rfl, rfl⟩
      · rw [key_ll] at h; exact wpAny_eqBool_int h
      · rw [key_lr] at h; exact SeqAt.EqAt.int_str i t y u _ _ _ _ h
    · rcases keyIs_shape hv with ⟨j, u, rfl, rfl⟩ | ⟨y, u, rfl, rfl⟩
      · rw [key_rl] at h; exact SeqAt.EqAt.str_int x t j u _ _ _ _ h
      · rw [key_rr] at h; exact wpAny_eqBool_str h
  «strs» := fun k x t v h => by
    rcases keyIs_shape h with ⟨i, u, rfl, e⟩ | ⟨y, u, rfl, e⟩
    · exact nomatch e
    · injection e with e1 _
      subst e1
      cases v <;> rfl

end L2

namespace L2
open PySem PySem.Spec PyProof.Rows

/-- a value, without the heap -/
inductive V where
  | non | bl (b : Bool) | int (i : Int) | str (x : Str) | byt (b : Array UInt8) | flt (b : UInt64) | ref (a : Addr) | ty (n : String)
  deriving DecidableEq

def RelV : V → Value → Prop
  | .non, u => u = Value.none
  | .bl b, u => u = Value.bool b
  | .int i, u => ∃ t, u = Value.int i t
  | .str x, u => ∃ t, u = Value.str x t
  | .byt b, u => ∃ t, u = Value.bytes b t
  | .flt b, u => ∃ t, u = Value.float b t
  | .ref a, u => u = Value.ref a
  | .ty n, u => u = Value.type n

abbrev Vals : List V → List Value → Prop := Paired RelV
theorem Vals.length {xs : List V} {us : List Value} (r : Vals xs us) : xs.length = us.length := Paired.length r
theorem Vals.get : ∀ {xs : List V} {us : List Value} {i : Nat} {x : V}, Vals xs us → xs[i]? = some x → ∃ u, us[i]? = some u ∧ RelV x u
  | _, _, _, _, .nil, e => by simp at e
  | _, _, 0, _, .cons r _, e => by simp at e; subst e; exact ⟨_, rfl, r⟩
  | _, _, i + 1, x, .cons _ t, e => by
    obtain ⟨u, h1, h2⟩ := Vals.get (i := i) (x := x) t (by simpa using e)
    exact ⟨u, by simpa using h1, h2⟩
theorem Vals.set {x : V} {u : Value} (r : RelV x u) : ∀ {xs : List V} {us : List Value} (i : Nat), Vals xs us → Vals (xs.set i x) (us.set i u)
  | _, _, _, .nil => .nil
  | _, _, 0, .cons _ t => .cons r t
  | _, _, i + 1, .cons q t => .cons q (Vals.set r i t)
theorem Vals.append : ∀ {xs ys : List V} {us ws : List Value}, Vals xs us → Vals ys ws → Vals (xs ++ ys) (us ++ ws)
  | _, _, _, _, .nil, s => s
  | _, _, _, _, .cons r t, s => .cons r (Vals.append t s)
theorem Vals.take : ∀ {xs : List V} {us : List Value} (n : Nat), Vals xs us → Vals (xs.take n) (us.take n)
  | _, _, 0, _ => .nil
  | _, _, _ + 1, .nil => .nil
  | _, _, n + 1, .cons r t => .cons r (Vals.take n t)
theorem Vals.drop : ∀ {xs : List V} {us : List Value} (n : Nat), Vals xs us → Vals (xs.drop n) (us.drop n)
  | _, _, 0, r => r
  | _, _, _ + 1, .nil => .nil
  | _, _, n + 1, .cons _ t => Vals.drop n t
theorem Vals.none_of : ∀ {xs : List V} {us : List Value} {i : Nat}, Vals xs us → xs[i]? = none → us[i]? = none := fun {xs us i} r e => by
  have h1 := r.length
  have h2 : xs.length ≤ i := List.getElem?_eq_none_iff.mp e
  exact List.getElem?_eq_none_iff.mpr (by omega)

def RelO : Option V → Option Value → Prop
  | some v, some u => RelV v u
  | none, none => True
  | _, _ => False
def KV {κ : Type} : List (κ × V) → List (κ × Value) → Prop := Paired fun (p : κ × V) (q : κ × Value) => p.1 = q.1 ∧ RelV p.2 q.2

/-- a key of a dict (00_mix): an int or a text -/
def kV : Key → V
  | .inl i => .int i
  | .inr x => .str x

/-- what stands at a tracked address -/
inductive HO where
  /-- a list -/
  | lst (xs : List V)
  /-- a tuple (never changes) -/
  | tup (xs : List V)
  /-- a dict whose keys are ints and texts; one whose keys are tuples of ints and texts (the empty one is both) -/
  | dK (kvs : List (Key × V)) | dT (kvs : List (List Key × V))
  /-- a set of ints: its members, its size -/
  | set (S : Int → Bool) (n : Nat)
  /-- an instance of the class at C, its dict at dx, its attributes -/
  | ins (C dx : Addr) (fs : List (Str × V))
  /-- the dict of the instance at x -/
  | own (x : Addr)
  /-- the dict of an exception -/
  | xd (fs : List (Str × V))
  /-- a bound method, f of x -/
  | met (f x : Addr)
  /-- a range object lo, lo + 1, .. below hi -/
  | rng (lo hi : Int)
  /-- a thing that is known to the object (the script; a dict while a loop walks it): read, never written while it is so -/
  | frz (o : Obj) (u : HO)
  /-- a code object's table -/
  | tbl (ps : Array Value)
  /-- any other thing, by what is true of its one object (a def of one's own: SetO a S n := HO.ext fun h => ..) -/
  | ext (φ : Heap → Prop)

abbrev Hp := Addr → Option HO
def upd (H : Hp) (a : Addr) (o : HO) : Hp := fun b => if b = a then some o else H b
theorem upd_same {H : Hp} {a : Addr} {o : HO} : upd H a o a = some o := by unfold upd; rw [if_pos rfl]
theorem upd_ne {H : Hp} {a b : Addr} {o : HO} (h : b ≠ a) : upd H a o b = H b := by unfold upd; rw [if_neg h]
theorem ne_of_none {H : Hp} {a b : Addr} {o : HO} (h : H a = some o) (h' : H b = none) : a ≠ b := by
  intro e; subst e; rw [h] at h'; cases h'

section
variable (P : Program) (w : World)
def ObjOk (H : Hp) (h : Heap) (a : Addr) : HO → Prop
  | .lst xs => xs.length ≤ sizeLine ∧ ∃ (its : List Value) (n : Nat), Vals xs its ∧ h.get? a = some { cls := .type "list", data := .seq its.toArray n }
  | .tup xs => xs.length ≤ sizeLine ∧ ∃ its : List Value, Vals xs its ∧ IsTup h a its.toArray
  | .dK kvs => kvs.length ≤ sizeLine ∧ (a == sysModules) = false ∧ ∃ vs, KV kvs vs ∧ h.DictOf (mixKind P w) a vs
  | .dT kvs => kvs.length ≤ sizeLine ∧ (a == sysModules) = false ∧ ∃ xs : List (List Key × Addr × Value),
      Paired (fun (p : List Key × V) (q : List Key × Addr × Value) => p.1 = q.1 ∧ H q.2.1 = some (.tup (p.1.map kV)) ∧ RelV p.2 q.2.2) kvs xs ∧
      ∃ o es ep, h.get? a = some o ∧ o.ExactDict ∧ o.data = .dict es ep ∧ es.toList = xs.map (entryOfKey (tupleKind (mixKind P w))) ∧ (xs.map (·.1)).Nodup
  | .set S n => h.SetOf (intKind P w) a S n
  | .ins C dx fs => H dx = some (.own a) ∧ fs.length ≤ 1000 ∧ dx ≠ a ∧ h.get? a = some (PySem.W.instObj C dx) ∧
      ∃ mA, h.Ns1 dx mA ∧ (∀ f, RelO (fs.lookup f) (mA f)) ∧ PySem.Within mA (fs.map (·.1))
  | .own _ => ∃ o, h.get? a = some o
  | .xd fs => ∃ mA, h.Ns1 a mA ∧ ∀ f, RelO (fs.lookup f) (mA f)
  | .rng lo hi => ∃ t u v, h.get? a = some { cls := .type "range", data := .fields #[.int lo t, .int hi u, .int 1 v] }
  | .frz o u => h.get? a = some o ∧ ObjOk H h a u
  | .tbl ps => h.get? a = some { cls := .none, data := .fields ps }
  | .met f x => h.get? a = some (PySem.W.methodObj (.ref f) (.ref x))
  | .ext φ => φ h ∧ (∃ o, h.get? a = some o) ∧ ∀ h1 h2 : Heap, φ h1 → (∀ o, h1.get? a = some o → h2.get? a = some o) → φ h2
/-- the abstract heap is held -/
def HOk (H : Hp) (h : Heap) : Prop := ∀ a o, H a = some o → ObjOk P w H h a o
end

section
variable {P : Program} {w : World} {H H' : Hp} {h h' : Heap} {a : Addr} {o : HO}
theorem ObjOk.lt (x : ObjOk P w H h a o) : a < h.objs.size := by
  cases o with
  | lst xs => obtain ⟨_, _, _, _, e⟩ := x; exact Heap.lt_size e
  | tup xs => obtain ⟨_, _, _, p⟩ := x; exact p.lt
  | dK kvs => obtain ⟨_, _, _, _, o, _, _, e, _⟩ := x; exact Heap.lt_size e
  | dT kvs => obtain ⟨_, _, _, _, o, _, _, e, _⟩ := x; exact Heap.lt_size e
  | set S n => obtain ⟨o, _, _, _, e, _⟩ := x; exact Heap.lt_size e
  | ins C dx fs => obtain ⟨_, _, _, e, _⟩ := x; exact Heap.lt_size e
  | own y => obtain ⟨_, e⟩ := x; exact Heap.lt_size e
  | xd fs => obtain ⟨_, ⟨_, _, _, e, _⟩, _⟩ := x; exact Heap.lt_size e
  | rng lo hi => obtain ⟨_, _, _, e⟩ := x; exact Heap.lt_size e
  | frz ob u => obtain ⟨e, _⟩ := x; exact Heap.lt_size e
  | tbl ps => exact Heap.lt_size (show h.get? a = some _ from x)
  | met f y => exact Heap.lt_size (show h.get? a = some _ from x)
  | ext φ => obtain ⟨_, ⟨_, e⟩, _⟩ := x; exact Heap.lt_size e
theorem Paired.mapP {α β : Type} {F G : α → β → Prop} : ∀ {l₁ : List α} {l₂ : List β}, Paired F l₁ l₂ → (∀ a b, F a b → G a b) → Paired G l₁ l₂
  | _, _, .nil, _ => .nil
  | _, _, .cons r t, f => .cons (f _ _ r) (Paired.mapP t f)
/-- what an object's description leans on: its own object, its own dict, the tuples -/
theorem ObjOk.stay (x : ObjOk P w H h a o) (k : ∀ b u, (b = a ∨ H b = some (.own a)) → h.get? b = some u → h'.get? b = some u)
    (ho : ∀ b, H b = some (.own a) → H' b = some (.own a)) (ht : ∀ b xs, H b = some (.tup xs) → H' b = some (.tup xs)) : ObjOk P w H' h' a o := by
  induction o with
  | lst xs => obtain ⟨z, its, n, r, e⟩ := x; exact ⟨z, its, n, r, k _ _ (.inl rfl) e⟩
  | tup xs => obtain ⟨z, its, r, ob, e, c⟩ := x; exact ⟨z, its, r, ob, k _ _ (.inl rfl) e, c⟩
  | dK kvs => obtain ⟨z, y, vs, r, ob, es, ep, e, c⟩ := x; exact ⟨z, y, vs, r, ob, es, ep, k _ _ (.inl rfl) e, c⟩
  | dT kvs =>
    obtain ⟨z, y, xs, r, ob, es, ep, e, c⟩ := x
    exact ⟨z, y, xs, Paired.mapP r fun p q z => ⟨z.1, ht _ _ z.2.1, z.2.2⟩, ob, es, ep, k _ _ (.inl rfl) e, c⟩
  | set S n => obtain ⟨ob, es, ep, t, e, c⟩ := x; exact ⟨ob, es, ep, t, k _ _ (.inl rfl) e, c⟩
  | ins C dx fs =>
    obtain ⟨d, z, ne, e, mA, ⟨od, es, ep, e2, c⟩, r⟩ := x
    exact ⟨ho _ d, z, ne, k _ _ (.inl rfl) e, mA, ⟨od, es, ep, k _ _ (.inr d) e2, c⟩, r⟩
  | own y => obtain ⟨ob, e⟩ := x; exact ⟨ob, k _ _ (.inl rfl) e⟩
  | xd fs => obtain ⟨mA, ⟨od, es, ep, e, c⟩, r⟩ := x; exact ⟨mA, ⟨od, es, ep, k _ _ (.inl rfl) e, c⟩, r⟩
  | rng lo hi => obtain ⟨t, u, v, e⟩ := x; exact ⟨t, u, v, k _ _ (.inl rfl) e⟩
  | frz ob u ih => obtain ⟨e, q⟩ := x; exact ⟨k _ _ (.inl rfl) e, ih q⟩
  | tbl ps =>
    have e : h.get? a = some { cls := .none, data := .fields ps } := x
    show h'.get? a = some { cls := .none, data := .fields ps }
    exact k a _ (.inl rfl) e
  | met f y =>
    have e : h.get? a = some (PySem.W.methodObj (.ref f) (.ref y)) := x
    show h'.get? a = some (PySem.W.methodObj (.ref f) (.ref y))
    exact k a _ (.inl rfl) e
  | ext φ => obtain ⟨p, ⟨o, e⟩, st⟩ := x; exact ⟨st _ _ p fun o q => k _ _ (.inl rfl) q, ⟨o, k _ _ (.inl rfl) e⟩, st⟩
theorem HOk.lt (x : HOk P w H h) (e : H a = some o) : a < h.objs.size := (x a o e).lt
theorem HOk.fresh (x : HOk P w H h) (e : h.objs.size ≤ a) : H a = none := by
  cases q : H a with
  | none => rfl
  | some u => exact absurd (Nat.lt_of_lt_of_le (x.lt q) e) (Nat.lt_irrefl _)
/-- every object of the heap is kept -/
theorem HOk.kept (x : HOk P w H h) (k : ∀ b u, h.get? b = some u → h'.get? b = some u) : HOk P w H h' := fun a o e =>
  (x a o e).stay (fun b u _ q => k b u q) (fun _ q => q) fun _ _ q => q
/-- a new object is laid and tracked -/
theorem HOk.laid (x : HOk P w H h) (k : ∀ b u, h.get? b = some u → h'.get? b = some u) (hp : h.objs.size ≤ a) (new : ObjOk P w (upd H a o) h' a o) : HOk P w (upd H a o) h' := fun b u e => by
  have hn := x.fresh hp
  by_cases hb : b = a
  · subst hb; rw [upd_same] at e; cases e; exact new
  · rw [upd_ne hb] at e
    exact (x b u e).stay (fun c v _ q => k c v q) (fun c q => by rw [upd_ne (ne_of_none q hn)]; exact q) fun c xs q => by rw [upd_ne (ne_of_none q hn)]; exact q
end

/-- what may be read as u: it is u, or a known u -/
def Rd (H : Hp) (a : Addr) (u : HO) : Prop := H a = some u ∨ ∃ o, H a = some (.frz o u)
theorem Rd.ok {P : Program} {w : World} {H : Hp} {h : Heap} {a : Addr} {u : HO} (r : Rd H a u) (x : HOk P w H h) : ObjOk P w H h a u := by
  rcases r with r | ⟨o, r⟩
  · exact x a u r
  · obtain ⟨_, q⟩ := x a _ r
    exact q
/-- what may be written -/
def Mut : Option HO → Prop
  | some (.lst _) => True
  | some (.dK _) => True
  | some (.dT _) => True
  | some (.set _ _) => True
  | some (.ins _ _ _) => True
  | some (.ext _) => True
  | _ => False
section
variable {P : Program} {w : World} {H : Hp} {h h' : Heap} {x e : Addr} {o' : HO}
/-- the object at e is changed: x itself, or the dict of the instance x -/
theorem HOk.write (ok : HOk P w H h) (mu : Mut (H x)) (he : e = x ∨ H e = some (.own x)) (k : ∀ b u, b ≠ e → h.get? b = some u → h'.get? b = some u) (heo : ∃ u, h'.get? e = some u)
    (new : ObjOk P w (upd H x o') h' x o') : HOk P w (upd H x o') h' := fun b u q => by
  have nown : ∀ c y, H c = some (.own y) → c ≠ x := fun c y r z => by subst z; rw [r] at mu; exact mu
  have ntup : ∀ c xs, H c = some (.tup xs) → c ≠ x := fun c xs r z => by subst z; rw [r] at mu; exact mu
  by_cases hb : b = x
  · subst hb; rw [upd_same] at q; cases q; exact new
  · rw [upd_ne hb] at q
    by_cases hbe : b = e
    · have q' : H b = some (.own x) := by
        rcases he with z | z
        · exact absurd (hbe.trans z) hb
        · rw [hbe]; exact z
      rw [q] at q'; cases q'
      obtain ⟨v, hv⟩ := heo
      exact ⟨v, by rw [hbe]; exact hv⟩
    · refine (ok b u q).stay (fun c v hc r => k c v ?_ r) (fun c r => by rw [upd_ne (nown c b r)]; exact r) fun c xs r => by rw [upd_ne (ntup c xs r)]; exact r
      rcases hc with rfl | hc
      · exact hbe
      · rintro rfl
        rcases he with z | z
        · exact nown c b hc z
        · rw [hc] at z; cases z; exact hb rfl
end

/-! ### kept unless tracked; of the frames at fs (the callers') the slots may change (an exception that passes writes there); of the records at ex (iterators) nothing is said -/
structure Un (fs ex : List Addr) (H H' : Hp) (h h' : Heap) : Prop where
  keep : ∀ b o, h.get? b = some o → H b = none → b ∉ fs → b ∉ ex → h'.get? b = some o
  slot : ∀ b o, h.get? b = some o → H b = none → b ∈ fs → b ∉ ex → ∃ sl, h'.get? b = some { o with slots := sl }
  free : ∀ b o, h.get? b = some o → H b = none → b ∉ ex → H' b = none
  there : ∀ b o, h.get? b = some o → b ∉ ex → ∃ o', h'.get? b = some o'
  tups : ∀ b xs, H b = some (.tup xs) → H' b = some (.tup xs)
  frzs : ∀ b o u, H b = some (.frz o u) → H' b = some (.frz o u)
  tbls : ∀ b ps, H b = some (.tbl ps) → ∃ more, H' b = some (.tbl (ps ++ more))
section
variable {fs fs' ex ex' : List Addr} {H H1 H2 : Hp} {h h1 h2 h' : Heap} {a x e : Addr} {o : HO}
theorem Un.any (u : Un fs ex H H1 h h1) {b : Addr} {ob : Obj} (q : h.get? b = some ob) (n : H b = none) (hx : b ∉ ex) : ∃ sl, h1.get? b = some { ob with slots := sl } := by
  by_cases hb : b ∈ fs
  · exact u.slot b ob q n hb hx
  · exact ⟨ob.slots, u.keep b ob q n hb hx⟩
theorem Un.kept (k : ∀ b u, h.get? b = some u → h'.get? b = some u) : Un fs ex H H h h' :=
  ⟨fun b ob q _ _ _ => k b ob q, fun b ob q _ _ _ => ⟨ob.slots, k b ob q⟩, fun _ _ _ n _ => n, fun b ob q _ => ⟨ob, k b ob q⟩, fun _ _ q => q, fun _ _ _ q => q, fun _ ps q => ⟨#[], by rw [q]; simp⟩⟩
theorem Un.refl : Un fs ex H H h h := Un.kept fun _ _ q => q
theorem Un.laid (k : ∀ b u, h.get? b = some u → h'.get? b = some u) (hp : h.objs.size ≤ a) (hn : H a = none) : Un fs ex H (upd H a o) h h' where
  keep := fun b u q _ _ _ => k b u q
  slot := fun b u q _ _ _ => ⟨u.slots, k b u q⟩
  free := fun b u q n _ => by rw [upd_ne (Nat.ne_of_lt (Nat.lt_of_lt_of_le (Heap.lt_size q) hp))]; exact n
  there := fun b u q _ => ⟨u, k b u q⟩
  tups := fun b xs q => by rw [upd_ne (ne_of_none q hn)]; exact q
  frzs := fun b u xs q => by rw [upd_ne (ne_of_none q hn)]; exact q
  tbls := fun b ps q => ⟨#[], by rw [upd_ne (ne_of_none q hn), q]; simp⟩
theorem Un.write (mu : Mut (H x)) (he : e = x ∨ H e = some (.own x)) (k : ∀ b u, b ≠ e → h.get? b = some u → h'.get? b = some u) (heo : ∃ u, h'.get? e = some u) : Un fs ex H (upd H x o) h h' := by
  have hx : ∀ b, H b = none → b ≠ x := fun b n z => by subst z; rw [n] at mu; exact mu
  have hb : ∀ b, H b = none → b ≠ e := fun b n z => by
    subst z
    rcases he with r | r
    · exact hx b n r
    · rw [n] at r; cases r
  have hm : ∀ b u, H b = some u → ¬ Mut (some u) → b ≠ x := fun b u q nm z => by subst z; rw [q] at mu; exact nm mu
  refine ⟨fun b u q n _ _ => k b u (hb b n) q, fun b u q n _ _ => ⟨u.slots, k b u (hb b n) q⟩, fun b u q n _ => by rw [upd_ne (hx b n)]; exact n, fun b u q _ => ?_,
    fun b xs q => by rw [upd_ne (hm b _ q fun z => z)]; exact q, fun b u xs q => by rw [upd_ne (hm b _ q fun z => z)]; exact q, fun b ps q => ⟨#[], by rw [upd_ne (hm b _ q fun z => z), q]; simp⟩⟩
  by_cases hbe : b = e
  · subst hbe; exact heo
  · exact ⟨u, k b u hbe q⟩
end

/-! ### the heap without what is tracked -/
def trk (h : Heap) (H : Hp) : List Addr := (List.range h.objs.size).filter fun a => (H a).isSome
def hidT (h : Heap) (H : Hp) : Heap := PySem.W.hideAll h (trk h H)
theorem hidT_size (h : Heap) (H : Hp) : (hidT h H).objs.size = h.objs.size := PySem.W.hideAll_size _ _
theorem hidT_get {h : Heap} {H : Hp} {b : Addr} {o : Obj} (e : h.get? b = some o) (n : H b = none) : (hidT h H).get? b = some o :=
  PySem.W.hideAll_get _ e fun hm => by
    have q : (H b).isSome = true := (List.mem_filter.mp hm).2
    rw [n] at q; simp at q
theorem of_hidT {h : Heap} {H : Hp} {b : Addr} {o : Obj} (e : (hidT h H).get? b = some o) : h.get? b = some o ∧ H b = none := by
  have e' : h.get? b = some o := PySem.W.of_hideAll (trk h H) e
  refine ⟨e', ?_⟩
  cases q : H b with
  | none => rfl
  | some x =>
    have hm : b ∈ trk h H := List.mem_filter.mpr ⟨List.mem_range.mpr (Heap.lt_size e'), by simp [q]⟩
    have z : (hidT h H).get? b = none := PySem.W.hideAll_none (trk h H) hm
    rw [z] at e; cases e

/-! ### OpenK's ledger, filled with every new object but one -/
def allNews (g h : Heap) (L : Addr) : List (Addr × Obj) := (List.range h.objs.size).filterMap fun a => if a = L ∨ (g.get? a).isSome = true then none else (h.get? a).map fun o => (a, o)
def rest (g h : Heap) (L d : Addr) : List (Addr × Obj) := (allNews g h L).filter fun p => decide (p.1 ≠ d)
end L2

namespace L2
open PySem PySem.Spec PyProof.Rows

/-- the module's facts, over the base: the heap at the law's entry without what is tracked there -/
structure Mod (K : PySem.W.Frag) (mg : Str → Option Value) (base : Heap) : Prop where
  kin : K.In base
  glob : base.Ns mainGlobals mg
  blt : ∃ mb, base.Ns builtinsNs mb ∧ ∀ x : Str, x ≠ "__name__" → mb x = bootBuiltins x
  nolimit : base.NoLimit

/-- the context: a def's body (or a comprehension's block) running. base: fixed through the whole law; s₀, H₀: the entry; outer: the frames whose slots others may change (a def's callers); stack: all frames that run;
   ex: iterators that were made ahead of the entry and are walked here (a comprehension's); fn: the names whose cells were made at the entry (a def: all; a comprehension's block: its own); calm: not within an except suite; pn: pins that every state bears; xe: what is wanted of an exception that leaves the code -/
structure Cx where
  prog : Program
  w : World
  K : PySem.W.Frag
  mg : Str → Option Value
  base : Heap
  A : Around
  N : List Str
  s₀ : Shared
  H₀ : Hp
  env : Env
  outer : List Env
  stack : List Env
  ex : List Addr
  fn : Str → Bool
  calm : Bool
  pn : List (Addr × Obj)
  xe : Value → Shared → Prop
/-- the callers' frames -/
def frs (l : List Env) : List Addr := l.filterMap (·.frame)
abbrev Cx.fs (X : Cx) : List Addr := frs X.outer

def Vis (sc : Scope) (x : Str) : Prop := sc.names.lookup x = some .local ∨ sc.names.lookup x = some .cell ∨ sc.names.lookup x = some .free
def Loc (sc : Scope) (x : Str) : Prop := sc.names.lookup x = some .local ∨ sc.names.lookup x = some .cell
def Look (env : Env) (h : Heap) (m : Str → Option Value) (x : Str) (u : Value) : Prop :=
  (env.kindOf x = some .local ∧ m x = some u) ∨ ((env.kindOf x = some .cell ∨ env.kindOf x = some .free) ∧ ∃ c, env.cells.lookup x = some c ∧ h.IsCell c (some u))

structure Cx.Ok (X : Cx) : Prop where
  mod : Mod X.K X.mg X.base
  kind : X.env.scope.kind = .function
  glob : X.env.globals = mainGlobals
  blt : X.env.builtins = builtinsNs
  above : X.s₀.heap.objs.size ≤ X.env.locals
  inj : ∀ x y c, X.env.cells.lookup x = some c → X.env.cells.lookup y = some c → x = y
  has : ∀ x, (X.env.kindOf x = some .cell ∨ X.env.kindOf x = some .free) → ∃ c, X.env.cells.lookup x = some c
  cab : ∀ x c, X.fn x = true → X.env.cells.lookup x = some c → X.s₀.heap.objs.size ≤ c
  hd : X.calm = true → X.A.handled = none
  frames : X.A.frames = some X.stack
  stk : X.stack = X.outer ∨ (X.stack = X.env :: X.outer ∧ X.env.frame = some X.env.locals)
  exf : ∀ b ∈ X.ex, b ≠ X.env.locals ∧ ∀ x c, X.env.cells.lookup x = some c → c ≠ b
  bs : ∀ b o, X.base.get? b = some o → X.s₀.heap.get? b = some o ∧ X.H₀ b = none
  bsz : X.base.objs.size ≤ X.s₀.heap.objs.size
  noex : ∀ b o, X.base.get? b = some o → b ∉ X.ex
  exfs : ∀ b ∈ X.ex, b ∉ X.fs
  funs : X.s₀.heap.FunFrames X.base X.outer
  frf : ∀ b ∈ X.fs, X.H₀ b = none

structure Inv (X : Cx) (pins : List (Addr × Obj)) (σ : List (Option V)) (H : Hp) (s : Shared) : Prop where
  ok : X.Ok
  os : s.os = X.s₀.os
  bare : AllBare s.gens
  base : Un X.fs X.ex X.H₀ H X.s₀.heap s.heap
  loc : ∃ m, s.heap.Ns X.env.locals m ∧ ∀ (i : Nat) (x : Str) (v : V), X.N[i]? = some x → σ[i]? = some (some v) → Vis X.env.scope x → ∃ u, RelV v u ∧ Look X.env s.heap m x u
  cell : ∀ x c, X.env.cells.lookup x = some c → ∃ v, s.heap.IsCell c v
  free : H X.env.locals = none
  freeC : ∀ x c, X.env.cells.lookup x = some c → H c = none
  pin : ∀ p ∈ X.pn ++ pins, s.heap.get? p.1 = some p.2 ∧ H p.1 = none ∧ p.1 ≠ X.env.locals ∧ p.1 ∉ X.fs ∧ ∀ v, p.2.data ≠ .cell v
  hok : HOk X.prog X.w H s.heap
  len : σ.length = X.N.length

section
variable {X : Cx} {pins : List (Addr × Obj)} {σ : List (Option V)} {H H' : Hp} {s : Shared} {h' : Heap}

theorem Cx.Ok.nofr (ok : X.Ok) {b : Addr} {o : Obj} (e : X.base.get? b = some o) : b ∉ X.fs := fun hb => by
  have := (ok.funs.mem hb).1
  rw [e] at this; cases this
theorem Inv.bs (I : Inv X pins σ H s) : ∀ b o, X.base.get? b = some o → s.heap.get? b = some o ∧ H b = none := fun b o e =>
  ⟨I.base.keep b o (I.ok.bs b o e).1 (I.ok.bs b o e).2 (I.ok.nofr e) (I.ok.noex b o e), I.base.free b o (I.ok.bs b o e).1 (I.ok.bs b o e).2 (I.ok.noex b o e)⟩
theorem Inv.bk (I : Inv X pins σ H s) : ∀ b o, X.base.get? b = some o → s.heap.get? b = some o := fun b o e => (I.bs b o e).1
theorem Inv.mod (I : Inv X pins σ H s) : Mod X.K X.mg X.base := I.ok.mod
theorem Inv.kIn (I : Inv X pins σ H s) : X.K.In s.heap := I.ok.mod.kin.keeps I.bk
theorem Inv.lt (I : Inv X pins σ H s) : X.env.locals < s.heap.objs.size := let ⟨_, hn, _⟩ := I.loc; hn.lt
theorem Inv.sz (I : Inv X pins σ H s) : X.s₀.heap.objs.size ≤ s.heap.objs.size := Nat.le_trans I.ok.above (Nat.le_of_lt I.lt)
theorem Inv.nofs (I : Inv X pins σ H s) {a : Addr} (h : s.heap.objs.size ≤ a) : a ∉ X.fs := fun hb => by
  obtain ⟨_, o, ho, _⟩ := I.ok.funs.mem hb
  exact absurd (Nat.lt_of_lt_of_le (Heap.lt_size ho) (Nat.le_trans I.sz h)) (Nat.lt_irrefl _)
theorem Inv.cne (I : Inv X pins σ H s) : ∀ x c, X.env.cells.lookup x = some c → c ≠ X.env.locals := fun x c e z => by
  obtain ⟨v, o, ho, hd⟩ := I.cell x c e
  obtain ⟨m, ⟨o', es, ep, ho', hd', _⟩, _⟩ := I.loc
  rw [z, ho'] at ho; cases ho; rw [hd'] at hd; cases hd
theorem Inv.funs (I : Inv X pins σ H s) : s.heap.FunFrames X.base X.outer := by
  have all : ∀ (l : List Env), (∀ b ∈ frs l, b ∈ X.fs) → X.s₀.heap.FunFrames X.base l → s.heap.FunFrames X.base l := by
    intro l
    induction l with
    | nil => intro _ _; trivial
    | cons env r ih =>
      intro hs hl
      obtain ⟨hk, ⟨L, o, hf, hn, ho, hd⟩, hr⟩ := hl
      have hL : L ∈ X.fs := hs L (by unfold frs; rw [List.filterMap_cons, hf]; exact List.mem_cons_self)
      obtain ⟨sl, e⟩ := I.base.slot L o ho (I.ok.frf L hL) hL fun z => I.ok.exfs L z hL
      exact ⟨hk, ⟨L, _, hf, hn, e, hd⟩, ih (fun b hb => hs b (by unfold frs; rw [List.filterMap_cons, hf]; exact List.mem_cons_of_mem _ hb)) hr⟩
  exact all X.outer (fun _ hb => hb) I.ok.funs

/-- the frames that run, for a call -/
theorem Inv.stack (I : Inv X pins σ H s) : s.heap.FunFrames X.base X.stack := by
  rcases I.ok.stk with e | ⟨e, hf⟩
  · rw [e]; exact I.funs
  · rw [e]
    obtain ⟨m, hn, _⟩ := I.loc
    refine .cons (by rw [I.ok.kind]; decide) hf hn ?_ I.funs
    exact Heap.get?_none_of_le (Nat.le_trans I.ok.bsz I.ok.above)
theorem Inv.stkSub (I : Inv X pins σ H s) : ∀ b ∈ frs X.stack, b ∈ X.env.locals :: X.fs := fun b hb => by
  rcases I.ok.stk with e | ⟨e, hf⟩
  · rw [e] at hb; exact List.mem_cons_of_mem _ hb
  · rw [e] at hb
    unfold frs at hb
    rw [List.filterMap_cons, hf] at hb
    exact hb
theorem Inv.stkFree (I : Inv X pins σ H s) : ∀ b ∈ frs X.stack, H b = none := fun b hb => by
  rcases List.mem_cons.mp (I.stkSub b hb) with e | hb
  · rw [e]; exact I.free
  · obtain ⟨_, o, ho, _⟩ := I.ok.funs.mem hb
    exact I.base.free b o ho (I.ok.frf b hb) fun z => I.ok.exfs b z hb

/-- THE STEP: the untracked objects but the frame and the records at ch are kept (the callers' frames up to slots), the frame's map is kept, the new abstract heap is held -/
theorem Inv.step {g' : Array GenState} {t' : Nat} {d' : Drawn} {ch : List Addr} (I : Inv X pins σ H s)
    (hch : ∀ b ∈ ch, (b ∈ X.ex ∨ X.s₀.heap.objs.size ≤ b) ∧ b ≠ X.env.locals ∧ (∀ x c, X.env.cells.lookup x = some c → c ≠ b) ∧ ∀ p ∈ X.pn ++ pins, p.1 ≠ b)
    (keep : ∀ b o, b ≠ X.env.locals → b ∉ X.fs → b ∉ ch → s.heap.get? b = some o → H b = none → h'.get? b = some o)
    (slot : ∀ b o, b ≠ X.env.locals → b ∈ X.fs → b ∉ ch → s.heap.get? b = some o → H b = none → ∃ sl, h'.get? b = some { o with slots := sl }) (free : ∀ b o, b ∉ ch → s.heap.get? b = some o → H b = none → H' b = none)
    (there : ∀ b o, b ∉ ch → s.heap.get? b = some o → ∃ o', h'.get? b = some o')
    (tups : ∀ b xs, H b = some (.tup xs) → H' b = some (.tup xs)) (frzs : ∀ b o u, H b = some (.frz o u) → H' b = some (.frz o u)) (tbls : ∀ b ps, H b = some (.tbl ps) → ∃ more, H' b = some (.tbl (ps ++ more)))
    (ns : ∀ m, s.heap.Ns X.env.locals m → h'.Ns X.env.locals m) (hok : HOk X.prog X.w H' h') (hg : AllBare g') :
    Inv X pins σ H' { s with heap := h', gens := g', drawn := d', toks := t' } := by
  have neL : ∀ b o, X.s₀.heap.get? b = some o → b ≠ X.env.locals := fun b o e => Nat.ne_of_lt (Nat.lt_of_lt_of_le (Heap.lt_size e) I.ok.above)
  have neC : ∀ b o, X.s₀.heap.get? b = some o → b ∉ X.ex → b ∉ ch := fun b o e hx hb => by
    rcases (hch b hb).1 with z | z
    · exact hx z
    · exact absurd (Nat.lt_of_lt_of_le (Heap.lt_size e) z) (Nat.lt_irrefl _)
  have cellK : ∀ x c, X.env.cells.lookup x = some c → ∀ v, s.heap.IsCell c v → h'.IsCell c v := fun x c e v ⟨o, ho, hd⟩ => by
    have nch : c ∉ ch := fun z => (hch c z).2.2.1 x c e rfl
    by_cases hc : c ∈ X.fs
    · obtain ⟨sl, q⟩ := slot c o (I.cne x c e) hc nch ho (I.freeC x c e)
      exact ⟨_, q, hd⟩
    · exact ⟨o, keep c o (I.cne x c e) hc nch ho (I.freeC x c e), hd⟩
  refine ⟨I.ok, I.os, hg, ⟨fun b o e n hb hx => ?_, fun b o e n hb hx => ?_, fun b o e n hx => ?_, fun b o e hx => ?_, fun b xs e => tups b xs (I.base.tups b xs e), fun b o xs e => frzs b o xs (I.base.frzs b o xs e), fun b ps e => ?_⟩, ?_, fun x c e => ?_, ?_, fun x c e => ?_, fun p hp => ?_, hok, I.len⟩
  · exact keep b o (neL b o e) hb (neC b o e hx) (I.base.keep b o e n hb hx) (I.base.free b o e n hx)
  · obtain ⟨sl, e1⟩ := I.base.slot b o e n hb hx
    obtain ⟨sl', e2⟩ := slot b _ (neL b o e) hb (neC b o e hx) e1 (I.base.free b o e n hx)
    exact ⟨sl', e2⟩
  · obtain ⟨o', e1⟩ := I.base.there b o e hx
    exact free b o' (neC b o e hx) e1 (I.base.free b o e n hx)
  · obtain ⟨o', e1⟩ := I.base.there b o e hx
    exact there b o' (neC b o e hx) e1
  · obtain ⟨m1, e1⟩ := I.base.tbls b ps e
    obtain ⟨m2, e2⟩ := tbls b _ e1
    exact ⟨m1 ++ m2, by rw [e2, Array.append_assoc]⟩
  · obtain ⟨m, hn, hl⟩ := I.loc
    refine ⟨m, ns m hn, fun i x v e1 e2 e3 => ?_⟩
    obtain ⟨u, r, l⟩ := hl i x v e1 e2 e3
    refine ⟨u, r, ?_⟩
    rcases l with l | ⟨k, c, e, z⟩
    · exact .inl l
    · exact .inr ⟨k, c, e, cellK x c e _ z⟩
  · obtain ⟨v, z⟩ := I.cell x c e
    exact ⟨v, cellK x c e v z⟩
  · obtain ⟨m, ⟨o, _, _, ho, _⟩, _⟩ := I.loc
    exact free _ o (fun z => (hch _ z).2.1 rfl) ho I.free
  · obtain ⟨v, o, ho, hd⟩ := I.cell x c e
    exact free c o (fun z => (hch c z).2.2.1 x c e rfl) ho (I.freeC x c e)
  · obtain ⟨e, n, ne, nf, d⟩ := I.pin p hp
    have nch : p.1 ∉ ch := fun z => (hch p.1 z).2.2.2 p hp rfl
    exact ⟨keep p.1 p.2 ne nf nch e n, free p.1 p.2 nch e n, ne, nf, d⟩
/-- .. where the frame's own object is kept too -/
theorem Inv.un {t' : Nat} (I : Inv X pins σ H s) (u : Un X.fs [] H H' s.heap h') (hok : HOk X.prog X.w H' h') : Inv X pins σ H' { s with heap := h', toks := t' } := by
  obtain ⟨m, ⟨o, es, ep, ho, r⟩, _⟩ := id I.loc
  obtain ⟨sl, hL⟩ := u.any ho I.free (by simp)
  exact I.step (g' := s.gens) (d' := s.drawn) (ch := []) (fun _ z => nomatch z) (fun b o _ hb _ e n => u.keep b o e n hb (by simp)) (fun b o _ hb _ e n => u.slot b o e n hb (by simp)) (fun b o _ e n => u.free b o e n (by simp)) (fun b o _ e => u.there b o e (by simp)) u.tups u.frzs u.tbls (fun m' hm => by
    obtain ⟨o', es', ep', ho', r'⟩ := hm
    rw [ho] at ho'; cases ho'
    exact ⟨_, es', ep', hL, r'⟩) hok I.bare
/-- behind a call (or a comprehension's block): the slots of this frame may have changed too, the records at ch may have turned -/
theorem Inv.call {g' : Array GenState} {t' : Nat} {d' : Drawn} {ch : List Addr} (I : Inv X pins σ H s) (u : Un (frs X.stack) ch H H' s.heap h') (hok : HOk X.prog X.w H' h') (hg : AllBare g')
    (hch : ∀ b ∈ ch, (b ∈ X.ex ∨ X.s₀.heap.objs.size ≤ b) ∧ b ≠ X.env.locals ∧ (∀ x c, X.env.cells.lookup x = some c → c ≠ b) ∧ ∀ p ∈ X.pn ++ pins, p.1 ≠ b) :
    Inv X pins σ H' { s with heap := h', gens := g', drawn := d', toks := t' } := by
  obtain ⟨m, ⟨o, es, ep, ho, r⟩, _⟩ := id I.loc
  obtain ⟨sl, hL⟩ := u.any ho I.free fun z => (hch _ z).2.1 rfl
  exact I.step (ch := ch) hch (fun b o hL hb hc e n => u.keep b o e n (fun z => (List.mem_cons.mp (I.stkSub b z)).elim hL hb) hc) (fun b o _ _ hc e n => u.any e n hc) (fun b o hc e n => u.free b o e n hc) (fun b o hc e => u.there b o e hc) u.tups u.frzs u.tbls (fun m' hm => by
    obtain ⟨o', es', ep', ho', r'⟩ := hm
    rw [ho] at ho'; cases ho'
    exact ⟨_, es', ep', hL, r'⟩) hok hg
/-- an untracked record of ours (an iterator) has turned -/
theorem Inv.turned {t' : Nat} {it : Addr} (I : Inv X pins σ H s) (k : ∀ b o, b ≠ it → s.heap.get? b = some o → h'.get? b = some o) (hn : H it = none) (hL : it ≠ X.env.locals)
    (h1 : it ∈ X.ex ∨ X.s₀.heap.objs.size ≤ it) (h2 : ∀ x c, X.env.cells.lookup x = some c → c ≠ it) (h3 : ∀ p ∈ X.pn ++ pins, p.1 ≠ it) : Inv X pins σ H { s with heap := h', toks := t' } := by
  have nit : ∀ b u, H b = some u → b ≠ it := fun b u e z => by rw [z, hn] at e; cases e
  refine I.step (g' := s.gens) (d' := s.drawn) (ch := [it]) (fun b hb => ?_) (fun b o _ _ hc e _ => k b o (fun z => hc (by simp [z])) e) (fun b o _ _ hc e _ => ⟨o.slots, k b o (fun z => hc (by simp [z])) e⟩) (fun _ _ _ _ n => n)
    (fun b o hc e => ⟨o, k b o (fun z => hc (by simp [z])) e⟩) (fun _ _ e => e) (fun _ _ _ e => e) (fun b ps e => ⟨#[], by rw [e]; simp⟩) (fun m hm => ?_) (fun b u e => ?_) I.bare
  · have e : b = it := by simpa using hb
    subst e
    exact ⟨h1, hL, h2, h3⟩
  · obtain ⟨o, es, ep, ho, r⟩ := hm
    exact ⟨o, es, ep, k _ o (Ne.symm hL) ho, r⟩
  · refine (I.hok b u e).stay (fun c v hc q => k c v ?_ q) (fun _ q => q) fun _ _ q => q
    rcases hc with z | z
    · rw [z]; exact nit b u e
    · exact nit c _ z
theorem Inv.tok (I : Inv X pins σ H s) (t : Nat) : Inv X pins σ H { s with toks := t } := I.un (h' := s.heap) (t' := t) Un.refl I.hok
/-- all objects kept -/
theorem Inv.kept {t' : Nat} (I : Inv X pins σ H s) (k : ∀ b u, s.heap.get? b = some u → h'.get? b = some u) : Inv X pins σ H { s with heap := h', toks := t' } := I.un (Un.kept k) (I.hok.kept k)
/-- a new object laid and tracked -/
theorem Inv.laid {a : Addr} {o : HO} {t' : Nat} (I : Inv X pins σ H s) (k : ∀ b u, s.heap.get? b = some u → h'.get? b = some u) (hp : s.heap.objs.size ≤ a) (new : ObjOk X.prog X.w (upd H a o) h' a o) :
    Inv X pins σ (upd H a o) { s with heap := h', toks := t' } := I.un (Un.laid k hp (I.hok.fresh hp)) (I.hok.laid k hp new)
/-- an object written -/
theorem Inv.write {x e : Addr} {o : HO} {t' : Nat} (I : Inv X pins σ H s) (mu : Mut (H x)) (he : e = x ∨ H e = some (.own x)) (k : ∀ b u, b ≠ e → s.heap.get? b = some u → h'.get? b = some u) (heo : ∃ u, h'.get? e = some u)
    (new : ObjOk X.prog X.w (upd H x o) h' x o) : Inv X pins σ (upd H x o) { s with heap := h', toks := t' } := I.un (Un.write mu he k heo) (I.hok.write mu he k heo new)
theorem Inv.pins_of {pins' : List (Addr × Obj)} (I : Inv X pins σ H s) (h : ∀ p ∈ pins', s.heap.get? p.1 = some p.2 ∧ H p.1 = none ∧ p.1 ≠ X.env.locals ∧ p.1 ∉ X.fs ∧ ∀ v, p.2.data ≠ .cell v) : Inv X pins' σ H s :=
  ⟨I.ok, I.os, I.bare, I.base, I.loc, I.cell, I.free, I.freeC, fun p hp => (List.mem_append.mp hp).elim (fun z => I.pin p (List.mem_append_left _ z)) (h p), I.hok, I.len⟩

theorem nodup_ix {N : List Str} (hN : N.Nodup) {i j : Nat} {x : Str} (a : N[i]? = some x) (b : N[j]? = some x) : i = j := by
  obtain ⟨h1, e1⟩ := List.getElem?_eq_some_iff.mp a
  obtain ⟨h2, e2⟩ := List.getElem?_eq_some_iff.mp b
  exact (List.getElem_inj hN).mp (e1.trans e2.symm)

/-- a name is stored; what changed -/
theorem store_ok2 {M : Model} {A : Around} {E : Value → Shared → Prop} {i : Nat} {x : Str} {v : V} {u : Value} {Q : Unit → Shared → Prop} (I : Inv X pins σ H s) (hN : X.N.Nodup) (hi : X.N[i]? = some x) (hx : Loc X.env.scope x) (r : RelV v u)
    (h : ∀ s', Inv X pins (σ.set i (some v)) H s' → (∃ a, Heap.SameBut a s.heap s'.heap ∧ (a = X.env.locals ∨ X.env.cells.lookup x = some a)) → Q () s') (hf : X.fn x = true ∨ X.env.scope.names.lookup x = some .local := by first | exact .inl rfl | exact .inr rfl | assumption) : wpAny M A (storeName X.env x u) Q E s := by
  obtain ⟨m, hn, hl⟩ := id I.loc
  have hcls : (X.env.scope.kind == .class || (X.env.scope.kind == .module && X.env.locals != X.env.globals)) = false := by rw [I.ok.kind]; rfl
  have hiσ : i < σ.length := by rw [I.len]; exact (List.getElem?_eq_some_iff.mp hi).1
  have cne := I.cne
  have tracked : ∀ {a : Addr} {h' : Heap}, (∃ o, s.heap.get? a = some o ∧ H a = none) → Heap.SameBut a s.heap h' → HOk X.prog X.w H h' := fun {a h'} ha hs b ob e => by
    obtain ⟨_, _, hfree⟩ := ha
    refine (I.hok b ob e).stay (fun c w' hc q => (hs.2 c ?_).trans q) (fun _ q => q) fun _ _ q => q
    rintro rfl
    rcases hc with rfl | hc
    · rw [hfree] at e; cases e
    · rw [hfree] at hc; cases hc
  rcases hx with hk | hk
  · refine wpAny_storeName_local hk hn (fun h' hn' hs => ?_) hcls
    obtain ⟨oL, _, _, hoL, _⟩ := id hn
    refine h _ ⟨I.ok, I.os, I.bare, ⟨fun b o e n hb hx => ?_, fun b o e n hb hx => ?_, I.base.free, fun b o e hx => ?_, I.base.tups, I.base.frzs, I.base.tbls⟩, ⟨_, hn', fun j y v' e1 e2 e3 => ?_⟩, fun y c e => ?_, I.free, I.freeC, fun p hp => ?_, tracked ⟨oL, hoL, I.free⟩ hs, by simpa using I.len⟩ ⟨_, hs, .inl rfl⟩
    · exact (hs.2 b (Nat.ne_of_lt (Nat.lt_of_lt_of_le (Heap.lt_size e) I.ok.above))).trans (I.base.keep b o e n hb hx)
    · obtain ⟨sl, e1⟩ := I.base.slot b o e n hb hx
      exact ⟨sl, (hs.2 b (Nat.ne_of_lt (Nat.lt_of_lt_of_le (Heap.lt_size e) I.ok.above))).trans e1⟩
    · obtain ⟨o', e1⟩ := I.base.there b o e hx
      exact ⟨o', (hs.2 b (Nat.ne_of_lt (Nat.lt_of_lt_of_le (Heap.lt_size e) I.ok.above))).trans e1⟩
    · by_cases hj : j = i
      · subst hj
        rw [hi] at e1; cases e1
        rw [List.getElem?_set_self hiσ] at e2
        cases e2
        exact ⟨u, r, .inl ⟨hk, by simp⟩⟩
      · rw [List.getElem?_set_ne (Ne.symm hj)] at e2
        obtain ⟨u', r', q⟩ := hl j y v' e1 e2 e3
        refine ⟨u', r', ?_⟩
        rcases q with ⟨k, e⟩ | ⟨k, c, e, z⟩
        · refine .inl ⟨k, ?_⟩
          have : y ≠ x := fun e => hj (nodup_ix hN e1 (e ▸ hi))
          simp [this, e]
        · exact .inr ⟨k, c, e, z.sameBut hs (cne y c e)⟩
    · obtain ⟨w', z⟩ := I.cell y c e
      exact ⟨w', z.sameBut hs (cne y c e)⟩
    · obtain ⟨e, n, ne, nf, d⟩ := I.pin p hp
      exact ⟨(hs.2 p.1 ne).trans e, n, ne, nf, d⟩
  · have hfn : X.fn x = true := by
      rcases hf with z | z
      · exact z
      · rw [z] at hk; cases hk
    obtain ⟨c, hc⟩ := I.ok.has x (.inl hk)
    obtain ⟨w', z⟩ := I.cell x c hc
    refine wpAny_storeName_cell I.ok.kind hk hc z (fun h' hc' hs => ?_)
    obtain ⟨oc, hoc, hocd⟩ := id z
    refine h { s with heap := h' } ⟨I.ok, I.os, I.bare, ⟨fun b o e n hb hx => ?_, fun b o e n hb hx => ?_, I.base.free, fun b o e hx => ?_, I.base.tups, I.base.frzs, I.base.tbls⟩, ⟨m, hn.sameBut hs (Ne.symm (cne x c hc)), fun j y v' e1 e2 e3 => ?_⟩, fun y c' e => ?_, I.free, I.freeC, fun p hp => ?_, tracked ⟨oc, hoc, I.freeC x c hc⟩ hs, by simpa using I.len⟩ ⟨c, hs, .inr hc⟩
    · exact (hs.2 b (Nat.ne_of_lt (Nat.lt_of_lt_of_le (Heap.lt_size e) (I.ok.cab x c hfn hc)))).trans (I.base.keep b o e n hb hx)
    · obtain ⟨sl, e1⟩ := I.base.slot b o e n hb hx
      exact ⟨sl, (hs.2 b (Nat.ne_of_lt (Nat.lt_of_lt_of_le (Heap.lt_size e) (I.ok.cab x c hfn hc)))).trans e1⟩
    · obtain ⟨o', e1⟩ := I.base.there b o e hx
      exact ⟨o', (hs.2 b (Nat.ne_of_lt (Nat.lt_of_lt_of_le (Heap.lt_size e) (I.ok.cab x c hfn hc)))).trans e1⟩
    · by_cases hj : j = i
      · subst hj
        rw [hi] at e1; cases e1
        rw [List.getElem?_set_self hiσ] at e2
        cases e2
        exact ⟨u, r, .inr ⟨.inl hk, c, hc, hc'⟩⟩
      · rw [List.getElem?_set_ne (Ne.symm hj)] at e2
        obtain ⟨u', r', q⟩ := hl j y v' e1 e2 e3
        refine ⟨u', r', ?_⟩
        rcases q with q | ⟨k, c', e, z'⟩
        · exact .inl q
        · refine .inr ⟨k, c', e, z'.sameBut hs ?_⟩
          rintro rfl
          exact hj (nodup_ix hN e1 (I.ok.inj _ _ _ e hc ▸ hi))
    · by_cases hcc : c' = c
      · subst hcc; exact ⟨_, hc'⟩
      · obtain ⟨w2, z2⟩ := I.cell y c' e
        exact ⟨w2, z2.sameBut hs hcc⟩
    · obtain ⟨e, n, ne, nf, d⟩ := I.pin p hp
      refine ⟨(hs.2 p.1 ?_).trans e, n, ne, nf, d⟩
      intro q
      rw [q, hoc] at e
      have q' : oc = p.2 := Option.some.inj e
      exact d w' (by rw [← q']; exact hocd)
theorem store_ok {M : Model} {A : Around} {E : Value → Shared → Prop} {i : Nat} {x : Str} {v : V} {u : Value} {Q : Unit → Shared → Prop} (I : Inv X pins σ H s) (hN : X.N.Nodup) (hi : X.N[i]? = some x) (hx : Loc X.env.scope x) (r : RelV v u)
    (h : ∀ s', Inv X pins (σ.set i (some v)) H s' → Q () s') (hf : X.fn x = true ∨ X.env.scope.names.lookup x = some .local := by first | exact .inl rfl | exact .inr rfl | assumption) : wpAny M A (storeName X.env x u) Q E s :=
  store_ok2 I hN hi hx r (fun s' I' _ => h s' I') hf
/-- behind a call or a block, the state as it is -/
theorem Inv.call' {s' : Shared} {ch : List Addr} (I : Inv X pins σ H s) (ho : s'.os = s.os) (u : Un (frs X.stack) ch H H' s.heap s'.heap) (hok : HOk X.prog X.w H' s'.heap) (hg : AllBare s'.gens)
    (hch : ∀ b ∈ ch, (b ∈ X.ex ∨ X.s₀.heap.objs.size ≤ b) ∧ b ≠ X.env.locals ∧ (∀ x c, X.env.cells.lookup x = some c → c ≠ b) ∧ ∀ p ∈ X.pn ++ pins, p.1 ≠ b) : Inv X pins σ H' s' := by
  obtain ⟨h', g', d', t', o'⟩ := s'
  have e : o' = s.os := ho
  subst e
  exact I.call (g' := g') (t' := t') (d' := d') u hok hg hch
end

/-! ### the judgements -/
/-- an exception: its class, its own dict's address (where it has one), the abstract heap behind it -/
abbrev XK := Value → Option Addr → Hp → Prop
abbrev St := List (Option V)
abbrev VK := V → Hp → Prop
/-- an expression's reading; a test's; an argument list's -/
abbrev TE := St → Hp → VK → Prop
abbrev TT := St → Hp → (Bool → Hp → Prop) → Prop
abbrev TA := St → Hp → (List V → Hp → Prop) → Prop
/-- what is wanted behind a statement -/
structure Ends where
  nx : St → Hp → Prop
  rt : VK
  bk : St → Hp → Prop := fun _ _ => False
  ct : St → Hp → Prop := fun _ _ => False
abbrev TS := Ends → St → Hp → Prop

def EP (X : Cx) (pins : List (Addr × Obj)) (σ : St) (Q : VK) (u : Value) (s' : Shared) : Prop := ∃ v H', Inv X pins σ H' s' ∧ RelV v u ∧ Q v H'
def TP (X : Cx) (pins : List (Addr × Obj)) (σ : St) (Q : Bool → Hp → Prop) (b : Bool) (s' : Shared) : Prop := ∃ H', Inv X pins σ H' s' ∧ Q b H'
def AP (X : Cx) (pins : List (Addr × Obj)) (σ : St) (Q : List V → Hp → Prop) (us : List Value) (s' : Shared) : Prop := ∃ vs H', Inv X pins σ H' s' ∧ Vals vs us ∧ Q vs H'
def SP (X : Cx) (pins : List (Addr × Obj)) (D : Ends) (f : Flow) (s' : Shared) : Prop :=
  match f with
  | .next => ∃ σ' H', Inv X pins σ' H' s' ∧ D.nx σ' H'
  | .brk => ∃ σ' H', Inv X pins σ' H' s' ∧ D.bk σ' H'
  | .cont => ∃ σ' H', Inv X pins σ' H' s' ∧ D.ct σ' H'
  | .ret u => ∃ v σ' H', Inv X pins σ' H' s' ∧ RelV v u ∧ D.rt v H'

def PE (X : Cx) (e : Expr) (t : TE) : Prop :=
  ∀ (pins : List (Addr × Obj)) (s : Shared) (σ : St) (H : Hp) (Q : VK), Inv X pins σ H s → t σ H Q → wpAny (model X.prog X.w) X.A (eval e X.env) (EP X pins σ Q) X.xe s
def PT (X : Cx) (e : Expr) (t : TT) : Prop :=
  ∀ (pins : List (Addr × Obj)) (s : Shared) (σ : St) (H : Hp) (Q : Bool → Hp → Prop), Inv X pins σ H s → t σ H Q → wpAny (model X.prog X.w) X.A (isTrue e X.env (eval e X.env)) (TP X pins σ Q) X.xe s
/-- a test whatever its 'whole' is (and, or) -/
def PW (X : Cx) (e : Expr) (t : TT) : Prop :=
  ∀ (whole : Sem Value) (pins : List (Addr × Obj)) (s : Shared) (σ : St) (H : Hp) (Q : Bool → Hp → Prop), Inv X pins σ H s → t σ H Q → wpAny (model X.prog X.w) X.A (isTrue e X.env whole) (TP X pins σ Q) X.xe s
theorem PW.pt {X : Cx} {e : Expr} {t : TT} (h : PW X e t) : PT X e t := h _
/-- an argument list (no star), from the left -/
def PA (X : Cx) (es : List Expr) (t : TA) : Prop :=
  ∀ (pos : Pos) (pins : List (Addr × Obj)) (s : Shared) (σ : St) (H : Hp) (Q : List V → Hp → Prop), Inv X pins σ H s → t σ H Q → wpAny (model X.prog X.w) X.A (spliced (backTo pos (starEach es X.env))) (AP X pins σ Q) X.xe s
def PS (X : Cx) (st : Stmt) (t : TS) : Prop :=
  ∀ (pins : List (Addr × Obj)) (s : Shared) (σ : St) (H : Hp) (D : Ends), Inv X pins σ H s → t D σ H → wpAny (model X.prog X.w) X.A (exec st X.env) (SP X pins D) X.xe s
def PSs (X : Cx) (st : List Stmt) (t : TS) : Prop :=
  ∀ (pins : List (Addr × Obj)) (s : Shared) (σ : St) (H : Hp) (D : Ends), Inv X pins σ H s → t D σ H → wpAny (model X.prog X.w) X.A (execs st X.env) (SP X pins D) X.xe s
/-- weaken the end -/
theorem thn {α : Type} {t : Sem α} {Q Q' : α → Shared → Prop} {M : Model} {A : Around} {E : Value → Shared → Prop} {s : Shared} (h : wpAny M A t Q E s) (hQ : ∀ a s, Q a s → Q' a s) : wpAny M A t Q' E s := wpAny_mono h hQ fun _ _ x => x
end L2

namespace L2
open PySem PySem.Spec PyProof.Rows
section
variable {X : Cx}

/-- two expressions in a row -/
theorem bin {a b : Expr} {ta tb : TE} (ha : PE X a ta) (hb : PE X b tb) {pins : List (Addr × Obj)} {s : Shared} {σ : St} {H : Hp} {R : V → V → Hp → Prop} (I : Inv X pins σ H s) (h : ta σ H fun x H1 => tb σ H1 fun y H2 => R x y H2)
    {α : Type} {Q : α → Shared → Prop} {f : Value → Value → Sem α}
    (hf : ∀ v u s2 x y H2, Inv X pins σ H2 s2 → RelV x v → RelV y u → R x y H2 → wpAny (model X.prog X.w) X.A (f v u) Q X.xe s2) :
    wpAny (model X.prog X.w) X.A (eval a X.env) (fun v s₁ => wpAny (model X.prog X.w) X.A (eval b X.env) (fun u s₂ => wpAny (model X.prog X.w) X.A (f v u) Q X.xe s₂) X.xe s₁) X.xe s := by
  refine thn (ha pins s σ H _ I h) fun v s1 ⟨x, H1, I1, r1, q1⟩ => ?_
  refine thn (hb pins s1 σ H1 _ I1 q1) fun u s2 ⟨y, H2, I2, r2, q2⟩ => ?_
  exact hf v u s2 x y H2 I2 r1 r2 q2

/-! ### names and constants -/
def tVar (i : Nat) : TE := fun σ H Q => ∃ v, σ[i]? = some (some v) ∧ Q v H
def tC (v : V) : TE := fun _ H Q => Q v H
theorem pe_var {i : Nat} {x : Str} {pos : Pos} (hN : X.N[i]? = some x) (hv : Vis X.env.scope x) (hd : (x == ("__debug__" : Str)) = false := by decide) (hcd : (x == ("__classdict__" : Str)) = false := by decide) : PE X (.Name x pos) (tVar i) := by
  intro pins s σ H Q I h
  obtain ⟨v, e, h⟩ := h
  obtain ⟨m, hn, hl⟩ := I.loc
  obtain ⟨u, r, l⟩ := hl i x v hN e hv
  have fin : EP X pins σ Q u s := ⟨v, H, I, r, h⟩
  rcases l with ⟨hk, hm⟩ | ⟨hk, c, hc, hcell⟩
  · exact wpAny_Name (wpAny_loadName_local I.ok.kind hk hn hm fin) hd
  · rcases hk with hk | hk
    · exact wpAny_Name (wpAny_loadName_cell I.ok.kind hk hc hcell fin) hd
    · exact wpAny_Name (wpAny_loadName_free I.ok.kind hk hc hcell fin hcd) hd
theorem pe_int {i j pos} : PE X (.Constant (.int i) j pos) (tC (.int i)) := fun _ _ _ H _ I h => wpAny_Constant_int ⟨.int i, H, I.tok _, ⟨_, rfl⟩, h⟩
theorem pe_bl {b j pos} : PE X (.Constant (.bool b) j pos) (tC (.bl b)) := fun _ _ _ H _ I h => Constant_bool ⟨.bl b, H, I, rfl, h⟩
theorem pe_non {j pos} : PE X (.Constant .none j pos) (tC .non) := fun _ _ _ H _ I h => Constant_none ⟨.non, H, I, rfl, h⟩
theorem pe_str {x j pos} : PE X (.Constant (.str x) j pos) (tC (.str x)) := fun _ _ _ H _ I h => Calls.Constant_str ⟨.str x, H, I.tok _, ⟨_, rfl⟩, h⟩

/-- a global name of the def -/
def Gl (X : Cx) (x : Str) : Prop := X.env.kindOf x = some .globalImplicit
theorem ld_glob {E : Value → Shared → Prop} {pins : List (Addr × Obj)} {s : Shared} {σ : St} {H : Hp} {x : Str} {u : Value} {pos : Pos} {Q : Value → Shared → Prop} (I : Inv X pins σ H s) (hg : Gl X x) (hm : X.mg x = some u) (h : Q u s)
    (hd : (x == ("__debug__" : Str)) = false := by decide) : wpAny (model X.prog X.w) X.A (eval (.Name x pos) X.env) Q E s :=
  Calls.Name_function_global I.ok.kind hg (Calls.loadGlobal_global (by rw [I.ok.glob]; exact I.mod.glob.keeps I.bk) hm h) hd
theorem ld_blt {E : Value → Shared → Prop} {pins : List (Addr × Obj)} {s : Shared} {σ : St} {H : Hp} {x : Str} {u : Value} {pos : Pos} {Q : Value → Shared → Prop} (I : Inv X pins σ H s) (hg : Gl X x) (hm : X.mg x = none) (hv : bootBuiltins x = some u) (h : Q u s)
    (hn : x ≠ "__name__" := by decide) (hd : (x == ("__debug__" : Str)) = false := by decide) : wpAny (model X.prog X.w) X.A (eval (.Name x pos) X.env) Q E s := by
  obtain ⟨mb, h1, h2⟩ := I.mod.blt
  exact Calls.Name_function_global I.ok.kind hg (Calls.loadGlobal_builtin (by rw [I.ok.glob]; exact I.mod.glob.keeps I.bk) hm (by rw [I.ok.blt]; exact h1.keeps I.bk) ((h2 x hn).trans hv) h) hd
/-- a module's constant, a class, a function, as a value -/
theorem pe_glob {x : Str} {v : V} {u : Value} {pos : Pos} (hg : Gl X x) (hm : X.mg x = some u) (r : RelV v u) (hd : (x == ("__debug__" : Str)) = false := by decide) : PE X (.Name x pos) (tC v) :=
  fun _ _ _ H _ I h => ld_glob I hg hm ⟨v, H, I, r, h⟩ hd
theorem pe_bltn {x : Str} {v : V} {u : Value} {pos : Pos} (hg : Gl X x) (hm : X.mg x = none) (hv : bootBuiltins x = some u) (r : RelV v u) (hn : x ≠ "__name__" := by decide) (hd : (x == ("__debug__" : Str)) = false := by decide) : PE X (.Name x pos) (tC v) :=
  fun _ _ _ H _ I h => ld_blt I hg hm hv ⟨v, H, I, r, h⟩ hn hd

/-! ### arithmetic -/
variable {a b : Expr} {ta tb : TE} {pos : Pos}
/-! ### comparisons -/
def PC (X : Cx) (op : CmpOp) (a b : Expr) (t : TE) : Prop :=
  ∀ (pins : List (Addr × Obj)) (s : Shared) (σ : St) (H : Hp) (Q : VK), Inv X pins σ H s → t σ H Q →
    wpAny (model X.prog X.w) X.A (eval a X.env) (fun v s₁ => wpAny (model X.prog X.w) X.A (eval b X.env) (fun u s₂ => wpAny (model X.prog X.w) X.A (compareOp op v u) (EP X pins σ Q) X.xe s₂) X.xe s₁) X.xe s
theorem nobehind (b : Expr) {op : CmpOp} (h : op ≠ .In) (h2 : op ≠ .NotIn) : behindInMarks op b = false := by
  have e1 : (op == CmpOp.In) = false := by cases op <;> first | rfl | exact absurd rfl h
  have e2 : (op == CmpOp.NotIn) = false := by cases op <;> first | rfl | exact absurd rfl h2
  cases b <;> simp [behindInMarks, e1, e2]
/-- a comparison as a value, as a test -/
def tB (t : TE) : TT := fun σ H Q => t σ H fun x H1 => ∃ c, x = .bl c ∧ Q c H1
theorem pt_cmp {op : CmpOp} {t : TE} (h : PC X op a b t) (h1 : behindInMarks op b = false := by first | exact nobehind _ (by decide) (by decide) | rfl) : PT X (.Compare a [op] [b] pos) (tB t) := by
  intro pins s σ H Q I hw
  refine wpAny_isTrue_Compare1 (thn (h pins s σ H _ I hw) fun v s1 h1 => thn h1 fun u s2 h2 => thn h2 fun c s3 ⟨x, H1, I1, r1, q1⟩ => ?_) h1
  obtain ⟨d, rfl, q⟩ := q1
  cases r1
  exact wpAny_truthy_bool ⟨H1, I1, q⟩
/-- an expression whose value is a bool, as a test -/
theorem pt_val {e : Expr} {t : TE} (h : PE X e t) (he : ∀ whole, isTrue e X.env whole = (do let v ← whole; standAt e.pos; holding [v] (truthy v)) := by intro _; rfl) : PT X e (tB t) := by
  intro pins s σ H Q I hw
  refine isTrue_plain (thn (h pins s σ H _ I hw) fun v s1 ⟨x, H1, I1, r1, q1⟩ => ?_) (he _)
  obtain ⟨d, rfl, q⟩ := q1
  cases r1
  exact wpAny_truthy_bool ⟨H1, I1, q⟩

/-! ### and, or, not -/
variable {tA tB' : TT} {rest : List Expr}
def tAnd (t u : TT) : TT := fun σ H Q => t σ H fun c H1 => if c = true then u σ H1 Q else Q false H1
def tOr (t u : TT) : TT := fun σ H Q => t σ H fun c H1 => if c = true then Q true H1 else u σ H1 Q
def tNot (t : TT) : TT := fun σ H Q => t σ H fun c H1 => Q (!c) H1
theorem pw_and1 (ha : PT X a tA) : PW X (.BoolOp .And [a] pos) tA := by
  intro wh pins s σ H Q I h
  refine isTrue_and (thn (ha pins s σ H Q I h) fun c s1 e => ?_)
  cases c with
  | true => exact isTrue_and_nil e
  | false => exact e
theorem pw_or1 (ha : PT X a tA) : PW X (.BoolOp .Or [a] pos) tA := by
  intro wh pins s σ H Q I h
  refine isTrue_or (thn (ha pins s σ H Q I h) fun c s1 e => ?_)
  cases c with
  | false => exact isTrue_or_nil e
  | true => exact e
theorem pw_and (ha : PT X a tA) (hb : PW X (.BoolOp .And (b :: rest) pos) tB') : PW X (.BoolOp .And (a :: b :: rest) pos) (tAnd tA tB') := by
  intro wh pins s σ H Q I h
  refine isTrue_and (thn (ha pins s σ H _ I h) fun c s1 ⟨H1, I1, q1⟩ => ?_)
  cases c with
  | true => exact hb wh pins s1 σ H1 Q I1 q1
  | false => exact ⟨H1, I1, q1⟩
theorem pw_or (ha : PT X a tA) (hb : PW X (.BoolOp .Or (b :: rest) pos) tB') : PW X (.BoolOp .Or (a :: b :: rest) pos) (tOr tA tB') := by
  intro wh pins s σ H Q I h
  refine isTrue_or (thn (ha pins s σ H _ I h) fun c s1 ⟨H1, I1, q1⟩ => ?_)
  cases c with
  | true => exact ⟨H1, I1, q1⟩
  | false => exact hb wh pins s1 σ H1 Q I1 q1
theorem pt_not (ha : PT X a tA) : PT X (.UnaryOp .Not a pos) (tNot tA) := by
  intro pins s σ H Q I h
  exact isTrue_not (ha pins s σ H (fun c H1 => Q (!c) H1) I h)
/-- .. as values (bools) -/
def tAndV (ta tb : TE) : TE := fun σ H Q => ta σ H fun x H1 => ∃ c, x = .bl c ∧ if c = true then tb σ H1 Q else Q (.bl false) H1
def tOrV (ta tb : TE) : TE := fun σ H Q => ta σ H fun x H1 => ∃ c, x = .bl c ∧ if c = true then Q (.bl true) H1 else tb σ H1 Q
def tNotV (ta : TE) : TE := fun σ H Q => ta σ H fun x H1 => ∃ c, x = .bl c ∧ Q (.bl (!c)) H1
theorem pe_one {op} {t : TE} (h : PE X a t) : PE X (.BoolOp op [a] pos) t := fun pins s σ H Q I hw => BoolOp_one (h pins s σ H Q I hw)
theorem pe_and (ha : PE X a ta) (hb : PE X (.BoolOp .And (b :: rest) pos) tb) : PE X (.BoolOp .And (a :: b :: rest) pos) (tAndV ta tb) := by
  intro pins s σ H Q I h
  refine BoolOp_and (thn (ha pins s σ H _ I h) fun v s1 ⟨x, H1, I1, r1, q1⟩ => ?_)
  obtain ⟨c, rfl, q1⟩ := q1
  cases r1
  refine wpAny_truthy_bool ?_
  cases c with
  | true => exact hb pins s1 σ H1 Q I1 q1
  | false => exact ⟨.bl false, H1, I1, rfl, q1⟩
theorem pe_or (ha : PE X a ta) (hb : PE X (.BoolOp .Or (b :: rest) pos) tb) : PE X (.BoolOp .Or (a :: b :: rest) pos) (tOrV ta tb) := by
  intro pins s σ H Q I h
  refine BoolOp_or (thn (ha pins s σ H _ I h) fun v s1 ⟨x, H1, I1, r1, q1⟩ => ?_)
  obtain ⟨c, rfl, q1⟩ := q1
  cases r1
  refine wpAny_truthy_bool ?_
  cases c with
  | false => exact hb pins s1 σ H1 Q I1 q1
  | true => exact ⟨.bl true, H1, I1, rfl, q1⟩
theorem pe_not (ha : PE X a ta) : PE X (.UnaryOp .Not a pos) (tNotV ta) := by
  intro pins s σ H Q I h
  refine UnaryOp_ (thn (ha pins s σ H _ I h) fun v s1 ⟨x, H1, I1, r1, q1⟩ => ?_)
  obtain ⟨c, rfl, q1⟩ := q1
  cases r1
  exact not_of (wpAny_truthy_bool ⟨.bl (!c), H1, I1, rfl, q1⟩)
/-- a if t else b -/
def tIf (t : TT) (ta tb : TE) : TE := fun σ H Q => t σ H fun c H1 => if c = true then ta σ H1 Q else tb σ H1 Q
theorem pe_ifExp {c : Expr} (hc : PT X c tA) (ha : PE X a ta) (hb : PE X b tb) : PE X (.IfExp c a b pos) (tIf tA ta tb) := by
  intro pins s σ H Q I h
  refine wpAny_IfExp (thn (hc pins s σ H _ I h) fun d s1 ⟨H1, I1, q1⟩ => ?_)
  cases d with
  | true => exact ha pins s1 σ H1 Q I1 q1
  | false => exact hb pins s1 σ H1 Q I1 q1
end
end L2

namespace L2
open PySem PySem.Spec PyProof.Rows

/-! ### a list, a tuple that is read: tracked, frozen, or an object of the module -/
def SqL (K : PySem.W.Frag) (H : Hp) (a : Addr) (xs : List V) : Prop :=
  Rd H a (.lst xs) ∨
    ∃ (o : Obj) (its : Array Value) (n : Nat), K.lookup a = some o ∧ o.cls = .type "list" ∧ o.dict = none ∧ o.data = .seq its n ∧ its.size ≤ sizeLine ∧ Vals xs its.toList
def SqT (K : PySem.W.Frag) (H : Hp) (a : Addr) (xs : List V) : Prop :=
  Rd H a (.tup xs) ∨
    ∃ (o : Obj) (its : Array Value) (n : Nat), K.lookup a = some o ∧ o.cls = .type "tuple" ∧ o.data = .seq its n ∧ its.size ≤ sizeLine ∧ Vals xs its.toList
def absV : Value → Option V
  | .none => some .non
  | .bool b => some (.bl b)
  | .int i _ => some (.int i)
  | .str x _ => some (.str x)
  | .bytes b _ => some (.byt b)
  | .float b _ => some (.flt b)
  | .ref a => some (.ref a)
  | .type n => some (.ty n)
  | _ => none
theorem RelV.abs {x : V} {u : Value} (r : RelV x u) : absV u = some x := by
  cases x with
  | non => cases r; rfl
  | bl _ => cases r; rfl
  | int _ => obtain ⟨t, rfl⟩ := r; rfl
  | str _ => obtain ⟨t, rfl⟩ := r; rfl
  | byt _ => obtain ⟨t, rfl⟩ := r; rfl
  | flt _ => obtain ⟨t, rfl⟩ := r; rfl
  | ref _ => cases r; rfl
  | ty _ => cases r; rfl
theorem RelV.inj {x y : V} {u : Value} (r : RelV x u) (q : RelV y u) : x = y := Option.some.inj (r.abs.symm.trans q.abs)
theorem Vals.inj : ∀ {xs ys : List V} {us : List Value}, Vals xs us → Vals ys us → xs = ys
  | _, _, _, .nil, .nil => rfl
  | _, _, _, .cons r t, .cons r' t' => by rw [r.inj r', Vals.inj t t']
section
variable {X : Cx} {pins : List (Addr × Obj)} {σ : St} {H : Hp} {s : Shared} {a : Addr} {xs ys : List V}
theorem SqL.of {K : PySem.W.Frag} (h : H a = some (.lst xs)) : SqL K H a xs := .inl (.inl h)
theorem SqT.of {K : PySem.W.Frag} (h : H a = some (.tup xs)) : SqT K H a xs := .inl (.inl h)
theorem Inv.list (I : Inv X pins σ H s) (h : SqL X.K H a xs) : ∃ its : List Value, Vals xs its ∧ PlainL s.heap a its.toArray ∧ xs.length ≤ sizeLine := by
  rcases h with h | ⟨o, its, n, hk, hc, hd, hs, hz, r⟩
  · obtain ⟨z, its, n, r, e⟩ := h.ok I.hok
    exact ⟨its, r, ⟨_, n, e, rfl, rfl, rfl⟩, z⟩
  · refine ⟨its.toList, r, ⟨o, n, I.kIn a o hk, hc, hd, by simpa using hs⟩, ?_⟩
    have e := r.length
    simp only [Array.length_toList] at e
    omega
theorem Inv.tuple (I : Inv X pins σ H s) (h : SqT X.K H a xs) : ∃ its : List Value, Vals xs its ∧ IsTup s.heap a its.toArray ∧ xs.length ≤ sizeLine := by
  rcases h with h | ⟨o, its, n, hk, hc, hs, hz, r⟩
  · obtain ⟨z, its, r, p⟩ := h.ok I.hok
    exact ⟨its, r, p, z⟩
  · refine ⟨its.toList, r, ⟨o, I.kIn a o hk, hc, n, by simpa using hs⟩, ?_⟩
    have e := r.length
    simp only [Array.length_toList] at e
    omega
theorem Inv.list_inj (I : Inv X pins σ H s) (h : SqL X.K H a xs) (h' : SqL X.K H a ys) : xs = ys := by
  obtain ⟨its, r, ⟨o, n, e, _, _, d⟩, _⟩ := I.list h
  obtain ⟨its', r', ⟨o', n', e', _, _, d'⟩, _⟩ := I.list h'
  rw [e] at e'; cases e'
  rw [d] at d'
  injection d' with d1 _
  have : its = its' := by simpa using congrArg Array.toList d1
  subst this
  exact r.inj r'
theorem Inv.tuple_inj (I : Inv X pins σ H s) (h : SqT X.K H a xs) (h' : SqT X.K H a ys) : xs = ys := by
  obtain ⟨its, r, ⟨o, e, _, n, d⟩, _⟩ := I.tuple h
  obtain ⟨its', r', ⟨o', e', _, n', d'⟩, _⟩ := I.tuple h'
  rw [e] at e'; cases e'
  rw [d] at d'
  injection d' with d1 _
  have : its = its' := by simpa using congrArg Array.toList d1
  subst this
  exact r.inj r'
end

/-! ### another wish about exceptions -/
abbrev Cx.wish (X : Cx) (E : Value → Shared → Prop) : Cx := { X with xe := E }
/-- no exception leaves -/
abbrev Cx.nox (X : Cx) : Cx := X.wish fun _ _ => False
theorem Cx.Ok.wish {X : Cx} (ok : X.Ok) (E : Value → Shared → Prop) : (X.wish E).Ok :=
  ⟨ok.mod, ok.kind, ok.glob, ok.blt, ok.above, ok.inj, ok.has, ok.cab, ok.hd, ok.frames, ok.stk, ok.exf, ok.bs, ok.bsz, ok.noex, ok.exfs, ok.funs, ok.frf⟩
theorem Cx.Ok.unwish {X : Cx} {E : Value → Shared → Prop} (ok : (X.wish E).Ok) : X.Ok :=
  ⟨ok.mod, ok.kind, ok.glob, ok.blt, ok.above, ok.inj, ok.has, ok.cab, ok.hd, ok.frames, ok.stk, ok.exf, ok.bs, ok.bsz, ok.noex, ok.exfs, ok.funs, ok.frf⟩
section
variable {X : Cx} {pins : List (Addr × Obj)} {σ : St} {H : Hp} {s : Shared} {E : Value → Shared → Prop}
theorem Inv.wish (I : Inv X pins σ H s) (E : Value → Shared → Prop) : Inv (X.wish E) pins σ H s := ⟨I.ok.wish E, I.os, I.bare, I.base, I.loc, I.cell, I.free, I.freeC, I.pin, I.hok, I.len⟩
theorem Inv.unwish (I : Inv (X.wish E) pins σ H s) : Inv X pins σ H s := ⟨I.ok.unwish, I.os, I.bare, I.base, I.loc, I.cell, I.free, I.freeC, I.pin, I.hok, I.len⟩
theorem SP.unwish {D : Ends} {f : Flow} {s' : Shared} (h : SP (X.wish E) pins D f s') : SP X pins D f s' := by
  cases f with
  | next => obtain ⟨σ', H', I, q⟩ := h; exact ⟨σ', H', I.unwish, q⟩
  | brk => obtain ⟨σ', H', I, q⟩ := h; exact ⟨σ', H', I.unwish, q⟩
  | cont => obtain ⟨σ', H', I, q⟩ := h; exact ⟨σ', H', I.unwish, q⟩
  | ret u => obtain ⟨v, σ', H', I, r, q⟩ := h; exact ⟨v, σ', H', I.unwish, r, q⟩
theorem PSs.nox {st : List Stmt} {t : TS} (h : PSs X.nox st t) : PSs X st t := fun pins s σ H D I hw =>
  wpAny_mono (h pins s σ H D (I.wish _) hw) (fun _ _ q => q.unwish) fun _ _ z => False.elim z
end

/-! ### blocks and small statements -/
section
variable {X : Cx} {st : Stmt} {rest : List Stmt} {t u : TS} {e : Expr} {te : TE} {pos : Pos}
def tNext : TS := fun D σ H => D.nx σ H
def tSeq (t u : TS) : TS := fun D σ H => t { D with nx := u D } σ H
theorem pss_nil : PSs X [] tNext := fun _ _ σ H _ I h => wpAny_execs_nil ⟨σ, H, I, h⟩
theorem pss_cons (h1 : PS X st t) (h2 : PSs X rest u) : PSs X (st :: rest) (tSeq t u) := by
  intro pins s σ H D I h
  refine wpAny_execs_cons (thn (h1 pins s σ H { D with nx := u D } I h) fun f s1 q => ?_)
  cases f with
  | next =>
    obtain ⟨σ', H', I', q⟩ := q
    exact h2 pins s1 σ' H' D I' q
  | ret v => exact q
  | brk => exact q
  | cont => exact q
theorem pss_one (h1 : PS X st t) : PSs X [st] t := by
  intro pins s σ H D I h
  refine wpAny_execs_cons (thn (h1 pins s σ H D I h) fun f s1 q => ?_)
  cases f with
  | next => exact wpAny_execs_nil q
  | ret v => exact q
  | brk => exact q
  | cont => exact q
/-- in a def's body nothing is shown -/
theorem Inv.quiet {pins : List (Addr × Obj)} {σ : St} {H : Hp} {s : Shared} (I : Inv X pins σ H s) : interactive X.env = false := by simp [interactive, I.ok.kind]
/-- an expression whose value is dropped -/
def tDrop (te : TE) : TS := fun D σ H => te σ H fun _ H1 => D.nx σ H1
theorem ps_expr (he : PE X e te) (hs : swapsWith e none pos.line X.env = pure false := by rfl) : PS X (.Expr e pos) (tDrop te) := by
  intro pins s σ H D I h
  exact wpAny_Expr_any (thn (he pins s σ H _ I h) fun v s1 ⟨x, H1, I1, r1, q1⟩ => ⟨σ, H1, I1, q1⟩) I.quiet hs
def tRet (te : TE) : TS := fun D σ H => te σ H D.rt
theorem ps_ret (he : PE X e te) : PS X (.Return (some e) pos) (tRet te) := by
  intro pins s σ H D I h
  exact wpAny_Return_some (thn (he pins s σ H _ I h) fun v s1 ⟨x, H1, I1, r1, q1⟩ => ⟨x, σ, H1, I1, r1, q1⟩)
def tIfS (c : TT) (t u : TS) : TS := fun D σ H => c σ H fun b H1 => if b = true then t D σ H1 else u D σ H1
theorem ps_if {c : Expr} {a b : List Stmt} {tc : TT} (hc : PT X c tc) (ha : PSs X a t) (hb : PSs X b u) : PS X (.If c a b pos) (tIfS tc t u) := by
  intro pins s σ H D I h
  refine wpAny_If (thn (hc pins s σ H _ I h) fun d s1 ⟨H1, I1, q1⟩ => ?_)
  cases d with
  | true => exact ha pins s1 σ H1 D I1 q1
  | false => exact hb pins s1 σ H1 D I1 q1
/-- code that the proof never comes to -/
def tNever : TS := fun _ _ _ => False
theorem ps_never : PS X st tNever := fun _ _ _ _ _ _ h => h.elim
end

/-! ### targets -/
abbrev TG := V → St → Hp → (St → Hp → Prop) → Prop
abbrev TGs := List V → St → Hp → (St → Hp → Prop) → Prop
def PG (X : Cx) (target : Expr) (t : TG) : Prop :=
  ∀ (pins : List (Addr × Obj)) (s : Shared) (σ : St) (H : Hp) (v : V) (u : Value) (Q : St → Hp → Prop), Inv X pins σ H s → RelV v u → t v σ H Q →
    wpAny (model X.prog X.w) X.A (assign target X.env u) (fun _ s' => ∃ σ' H', Inv X pins σ' H' s' ∧ Q σ' H') X.xe s
/-- several targets, one after another -/
def PGs (X : Cx) (ts : List Expr) (t : TGs) : Prop :=
  ∀ (pins : List (Addr × Obj)) (s : Shared) (σ : St) (H : Hp) (vs : List V) (us : List Value) (Q : St → Hp → Prop), Inv X pins σ H s → Vals vs us → t vs σ H Q →
    wpAny (model X.prog X.w) X.A (assignInOrder ((assignEach ts X.env).map (·.2)) us) (fun _ s' => ∃ σ' H', Inv X pins σ' H' s' ∧ Q σ' H') X.xe s
/-- o[i] = v, by values -/
abbrev TSet := V → V → V → Hp → (Hp → Prop) → Prop
def PSet (X : Cx) (t : TSet) : Prop :=
  ∀ (pins : List (Addr × Obj)) (s : Shared) (σ : St) (H : Hp) (o i v : V) (ov iv u : Value) (Q : Hp → Prop), Inv X pins σ H s → RelV o ov → RelV i iv → RelV v u → t o i v H Q →
    wpAny (model X.prog X.w) X.A (setItem ov iv u) (fun _ s' => ∃ H', Inv X pins σ H' s' ∧ Q H') X.xe s
section
variable {X : Cx} {pos : Pos}
def gName (i : Nat) : TG := fun v σ H Q => Q (σ.set i (some v)) H
theorem pg_name {i : Nat} {x : Str} (hN : X.N.Nodup) (hi : X.N[i]? = some x) (hx : Loc X.env.scope x) (hf : X.fn x = true ∨ X.env.scope.names.lookup x = some .local := by first | exact .inl rfl | exact .inr rfl | assumption) : PG X (.Name x pos) (gName i) := by
  intro pins s σ H v u Q I r h
  exact wpAny_assign_Name (store_ok I hN hi hx r (fun s' I' => ⟨_, H, I', h⟩) hf)
def gNil : TGs := fun vs σ H Q => vs = [] ∧ Q σ H
def gCons (t : TG) (u : TGs) : TGs := fun vs σ H Q => ∃ v r, vs = v :: r ∧ t v σ H fun σ' H' => u r σ' H' Q
theorem pgs_nil : PGs X [] gNil := by
  intro pins s σ H vs us Q I r h
  obtain ⟨e, h⟩ := h
  subst e
  cases r
  exact assignInOrder_nil ⟨σ, H, I, h⟩
theorem pgs_cons {e : Expr} {es : List Expr} {t : TG} {u : TGs} (h1 : PG X e t) (h2 : PGs X es u)
    (hs : (assignEach (e :: es) X.env).map (·.2) = assign e X.env :: (assignEach es X.env).map (·.2) := by rfl) : PGs X (e :: es) (gCons t u) := by
  intro pins s σ H vs us Q I r h
  obtain ⟨v, vr, e1, h⟩ := h
  subst e1
  cases r with
  | cons r rr =>
    rw [hs]
    refine assignInOrder_cons (thn (h1 pins s σ H _ _ _ I r h) fun _ s1 ⟨σ1, H1, I1, q1⟩ => ?_)
    exact h2 pins s1 σ1 H1 _ _ Q I1 rr q1
/-- (a, b, ..) = a tuple of that length -/
def gTup (K : PySem.W.Frag) (n : Nat) (t : TGs) : TG := fun v σ H Q => ∃ a xs, v = .ref a ∧ SqT K H a xs ∧ xs.length = n ∧ t xs σ H Q
theorem pg_tup {es : List Expr} {k : Nat} {t : TGs} {n : Nat} (hc : X.calm = true) (h : PGs X es t)
    (hn : (assignEach es X.env).length = n := by rfl) (hst : (assignEach es X.env).findIdx? (·.1) = none := by rfl) : PG X (.Tuple es k pos) (gTup X.K n t) := by
  intro pins s σ H v u Q I r hw
  obtain ⟨a, xs, e1, hq, hl, hw⟩ := hw
  subst e1
  cases r
  obtain ⟨its, rv, ht, hz⟩ := I.tuple hq
  refine assign_Tuple_tuple (I.ok.hd hc) ht (by simp [hn, ← hl, rv.length]) hst fun h' hx => ?_
  have I1 : Inv X pins σ H { s with heap := h' } := I.kept (t' := s.toks) fun b o e => hx b o (Nat.ne_of_lt (Heap.lt_size e)) e
  exact h pins _ σ H xs _ Q I1 (by simpa using rv) hw
/-- o[i] = .. -/
def gSub (to ti : TE) (t : TSet) : TG := fun v σ H Q => to σ H fun o H1 => ti σ H1 fun i H2 => t o i v H2 fun H3 => Q σ H3
theorem pg_sub {o i : Expr} {to ti : TE} {t : TSet} (ho : PE X o to) (hi : PE X i ti) (hs : PSet X t)
    (ha : ∀ v, assign (.Subscript o i pos) X.env v = (do
      let ov ← holding [v] (eval o X.env)
      let iv ← holding [v, ov] (eval i X.env)
      standAt pos
      holding [v, ov, iv] (setItem ov iv v)
      release [v, ov, iv] []) := by intro _; rfl) : PG X (.Subscript o i pos) (gSub to ti t) := by
  intro pins s σ H v u Q I r h
  rw [ha]
  refine wpAny_bind (wpAny_holding (thn (ho pins s σ H _ I h) fun ov s1 ⟨x, H1, I1, r1, q1⟩ => ?_))
  refine wpAny_bind (wpAny_holding (thn (hi pins s1 σ H1 _ I1 q1) fun iv s2 ⟨y, H2, I2, r2, q2⟩ => ?_))
  refine wpAny_bind (wpAny_standAt (wpAny_bind (wpAny_holding (thn (hs pins s2 σ H2 x y v ov iv u _ I2 r1 r2 r q2) fun _ s3 ⟨H3, I3, q3⟩ => ?_))))
  exact wpAny_release ⟨σ, H3, I3, q3⟩
/-- target = value -/
def tAsg (te : TE) (g : TG) : TS := fun D σ H => te σ H fun x H1 => g x σ H1 D.nx
theorem ps_asg {tg e : Expr} {te : TE} {g : TG} (he : PE X e te) (hg : PG X tg g) (hs : swapsWithSole [tg] e pos.line X.env = pure false := by rfl) (hw : swappedStores [tg] e X.env = pure none := by rfl)
    (h1 : (assignEach [tg] X.env).map (·.2) = [assign tg X.env] := by rfl) : PS X (.Assign [tg] e pos) (tAsg te g) := by
  intro pins s σ H D I h
  refine wpAny_Assign_stores (thn (he pins s σ H _ I h) fun v s1 ⟨x, H1, I1, r1, q1⟩ => ?_) hs hw
  rw [h1]
  exact thn (hg pins s1 σ H1 x v _ I1 r1 q1) fun _ s2 q => q
/-- name = value -/
theorem ps_set {i : Nat} {x : Str} {e : Expr} {te : TE} {pos' : Pos} (hN : X.N.Nodup) (hi : X.N[i]? = some x) (hx : Loc X.env.scope x) (he : PE X e te) (hs : swapsWith e (some (.Name x pos')) pos.line X.env = pure false := by rfl) (hf : X.fn x = true ∨ X.env.scope.names.lookup x = some .local := by first | exact .inl rfl | exact .inr rfl | assumption) :
    PS X (.Assign [.Name x pos'] e pos) (tAsg te (gName i)) := by
  intro pins s σ H D I h
  refine wpAny_Assign_Name (thn (he pins s σ H _ I h) fun v s1 ⟨y, H1, I1, r1, q1⟩ => ?_) hs
  exact store_ok I1 hN hi hx r1 (fun s2 I2 => ⟨_, H1, I2, q1⟩) hf
/-- a, b = x, y with plain local names: stored from the right; the pair itself is not tracked (the opening rows as in PyProof/Rows/TupAssign.lean:23) -/
def tPar (i j : Nat) (ta : TA) : TS := fun D σ H => ta σ H fun vs H1 => ∃ v w, vs = [v, w] ∧ D.nx ((σ.set i (some v)).set j (some w)) H1
theorem ps_par {i j : Nat} {x y : Str} {a b : Expr} {ta : TA} {px py pt : Pos} {kt k2 pt2} (hc : X.calm = true) (hN : X.N.Nodup) (hi : X.N[i]? = some x) (hj : X.N[j]? = some y) (hij : i ≠ j)
    (hx : X.env.scope.names.lookup x = some .local) (hy : X.env.scope.names.lookup y = some .local) (ha : PA X [a, b] ta)
    (hw : swappedStores [.Tuple [.Name x px, .Name y py] kt pt] (.Tuple [a, b] k2 pt2) X.env = pure (some [x, y]))
    (hs : swapsWithSole [.Tuple [.Name x px, .Name y py] kt pt] (.Tuple [a, b] k2 pt2) pos.line X.env = pure false := by rfl) :
    PS X (.Assign [.Tuple [.Name x px, .Name y py] kt pt] (.Tuple [a, b] k2 pt2) pos) (tPar i j ta) := by
  intro pins s σ H D I h
  rw [exec_Assign_arm]
  refine wpAny_bind (wpAny_standAt ?_)
  rw [hs]
  refine wpAny_bind (wpAny_pure ?_)
  rw [if_neg (by decide)]
  refine wpAny_bind (Tuple_ (thn (ha _ pins s σ H _ I h) fun us s1 ⟨vs, H1, I1, r1, q1⟩ => ?_))
  obtain ⟨v, w, e1, q1⟩ := q1
  subst e1
  obtain ⟨u1, u2, rfl, rv, rw'⟩ : ∃ u1 u2, us = [u1, u2] ∧ RelV v u1 ∧ RelV w u2 := by
    cases r1 with
    | cons p q =>
      cases q with
      | cons p' q' =>
        cases q'
        exact ⟨_, _, rfl, p, p'⟩
  refine wpAny_newObj_type ?_ (by show 2 ≤ sizeLine; decide)
  have I2 : Inv X pins σ H1 { s1 with heap := s1.heap.push { cls := .type "tuple", data := .seq [u1, u2].toArray } } := I1.kept (t' := s1.toks) fun b o e => Heap.get?_push_of_some _ e
  rw [hw]
  refine wpAny_bind (wpAny_pure ?_)
  show wpAny (model X.prog X.w) X.A (do rule "assign.swapped-stores"; let items ← unpackItems (.ref s1.heap.objs.size) 2 none; assignInOrder [fun v => bindName X.env y v, fun v => bindName X.env x v] items.reverse; pure Flow.next) _ _ _
  refine wpAny_bind (wpAny_rule (wpAny_bind (unpackItems_tuple (items := #[u1, u2]) (I.ok.hd hc) (IsTup.new s1.heap _) fun h' hx' => ?_)))
  have I3 := I2.kept (h' := h') (t' := s1.toks) fun b o e => hx' b o (Nat.ne_of_lt (Heap.lt_size e)) e
  show wpAny _ _ (assignInOrder [fun v => bindName X.env y v, fun v => bindName X.env x v] [u2, u1] >>= fun _ => pure Flow.next) _ _ _
  refine wpAny_bind (assignInOrder_cons (wpAny_bindName (store_ok I3 hN hj (.inl hy) rw' (fun s2 I4 => ?_) (.inr hy))))
  refine assignInOrder_cons (wpAny_bindName (store_ok I4 hN hi (.inl hx) rv (fun s3 I5 => assignInOrder_nil (wpAny_pure ?_)) (.inr hx)))
  rw [List.set_comm _ _ (Ne.symm hij)] at I5
  exact ⟨_, H1, I5, q1⟩
end

/-! ### while -/
section
variable {X : Cx} {pos : Pos}
/-- the invariant W with its measure -/
def tWhile (c : TT) (tb : TS) : TS := fun D σ H => ∃ W : Nat → St → Hp → Prop, (∃ m, W m σ H) ∧ ∀ m σ H, W m σ H →
  c σ H fun b H1 => if b = true then ∃ N : St → Hp → Prop, (∀ σ' H', N σ' H' → ∃ m', m' < m ∧ W m' σ' H') ∧ tb { D with nx := N, ct := N, bk := D.nx } σ H1 else D.nx σ H1
theorem ps_while {c : Expr} {body : List Stmt} {tc : TT} {tb : TS} (hp : PassesOwn (model X.prog X.w) X.A X.env X.xe) (hc : PT X c tc) (hb : PSs X body tb) : PS X (.While c body [] pos) (tWhile tc tb) := by
  intro pins s σ H D I h
  obtain ⟨W, ⟨m0, w0⟩, turn⟩ := h
  refine wpAny_While (codeAny_whileLoop (fun n s' => ∃ σ' H', Inv X pins σ' H' s' ∧ W n σ' H') ?_ m0 ⟨σ, H, I, w0⟩)
  rintro n s1 ⟨σ1, H1, I1, w1⟩
  refine wpAny_passesOwn hp (thn (hc pins s1 σ1 H1 _ I1 (turn n σ1 H1 w1)) fun b s2 ⟨H2, I2, q2⟩ => ?_)
  cases b with
  | true =>
    obtain ⟨N, hN, q2⟩ := q2
    rw [if_pos rfl]
    refine wpAny_passesOwn hp (thn (hb pins s2 σ1 H2 _ I2 q2) fun f s3 q3 => ?_)
    cases f with
    | next =>
      obtain ⟨σ3, H3, I3, n3⟩ := q3
      obtain ⟨m', hm, w3⟩ := hN σ3 H3 n3
      exact ⟨m', hm, σ3, H3, I3, w3⟩
    | cont =>
      obtain ⟨σ3, H3, I3, n3⟩ := q3
      obtain ⟨m', hm, w3⟩ := hN σ3 H3 n3
      exact ⟨m', hm, σ3, H3, I3, w3⟩
    | brk => exact q3
    | ret v => exact q3
  | false =>
    rw [if_neg Bool.false_ne_true]
    exact wpAny_execs_nil ⟨σ1, H2, I2, q2⟩
end

/-! ### what a loop or a comprehension walks -/
/-- at turn i: it yields x (the heap may grow), or it stops -/
structure It where
  go : Nat → Hp → Prop
  yld : Nat → Hp → V → Hp → Prop
  stop : Nat → Hp → Prop
/-- the iterator's own objects may turn: they are not the frame's, not pinned, younger than the entry (or a comprehension's own) -/
def FpOk (X : Cx) (pins : List (Addr × Obj)) (H : Hp) (b : Addr) : Prop :=
  H b = none ∧ b ≠ X.env.locals ∧ b ∉ X.fs ∧ (b ∈ X.ex ∨ X.s₀.heap.objs.size ≤ b) ∧ (∀ x c, X.env.cells.lookup x = some c → c ≠ b) ∧ ∀ p ∈ X.pn ++ pins, p.1 ≠ b
theorem Inv.fpOk {X : Cx} {pins : List (Addr × Obj)} {σ : St} {H H' : Hp} {s : Shared} {b : Addr} (I : Inv X pins σ H s) (hb : s.heap.objs.size ≤ b) (hn : H' b = none) : FpOk X pins H' b := by
  refine ⟨hn, Nat.ne_of_gt (Nat.lt_of_lt_of_le I.lt hb), I.nofs hb, .inr (Nat.le_trans I.sz hb), fun x c e z => ?_, fun p hp z => ?_⟩
  · obtain ⟨v, q⟩ := I.cell x c e
    exact absurd (Nat.lt_of_lt_of_le q.lt (by rw [z]; exact hb)) (Nat.lt_irrefl _)
  · exact absurd (Nat.lt_of_lt_of_le (Heap.lt_size (I.pin p hp).1) (by rw [z]; exact hb)) (Nat.lt_irrefl _)
structure Turn (P : Program) (w : World) (K : PySem.W.Frag) (tg : Expr) (J : It) (fp : List Addr) (it : Addr) (tn : Nat → Heap → Prop) : Prop where
  mem : it ∈ fp
  obj : ∀ i h, tn i h → ∀ b ∈ fp, ∃ o, h.get? b = some o ∧ ∀ v, o.data ≠ .cell v
  keep : ∀ i h h', tn i h → (∀ b ∈ fp, ∀ o, h.get? b = some o → h'.get? b = some o) → tn i h'
  item : ∀ (X : Cx), X.prog = P → X.w = w → X.K = K → X.calm = true → ∀ (i : Nat) (pins : List (Addr × Obj)) (s : Shared) (σ : St) (H : Hp) (E : Value → Shared → Prop), Inv X pins σ H s → (∀ b ∈ fp, FpOk X pins H b) → tn i s.heap → J.go i H →
    wpAny (model P w) X.A (pyNext (.ref it)) (fun r s1 => ∃ u, r = some u ∧
      wpAny (model P w) X.A (letOwnedTupleGo tg (.ref it) u) (fun _ s2 => ∃ x H', Inv X pins σ H' s2 ∧ RelV x u ∧ J.yld i H x H' ∧ tn (i + 1) s2.heap ∧ ∀ b ∈ fp, H' b = none) E s1) E s
  done : ∀ (X : Cx), X.prog = P → X.w = w → X.K = K → X.calm = true → ∀ (i : Nat) (pins : List (Addr × Obj)) (s : Shared) (σ : St) (H : Hp) (E : Value → Shared → Prop), Inv X pins σ H s → (∀ b ∈ fp, FpOk X pins H b) → tn i s.heap → J.stop i H →
    wpAny (model P w) X.A (pyNext (.ref it)) (fun r s1 => r = none ∧ Inv X pins σ H s1) E s
  self : ∀ (A : Around) (i : Nat) (s : Shared) (Q : Value → Shared → Prop) (E : Value → Shared → Prop), tn i s.heap → Q (.ref it) s → wpAny (model P w) A (pyIter (.ref it)) Q E s
abbrev TI := St → Hp → (It → Hp → Prop) → Prop
/-- an iterator has come -/
def PIE (X : Cx) (pins : List (Addr × Obj)) (σ : St) (tg : Expr) (R : It → Hp → Prop) (itv : Value) (s2 : Shared) : Prop :=
  ∃ (it : Addr) (fp : List Addr) (tn : Nat → Heap → Prop) (J : It) (H' : Hp), itv = .ref it ∧ Inv X pins σ H' s2 ∧ Turn X.prog X.w X.K tg J fp it tn ∧ tn 0 s2.heap ∧ (∀ b ∈ fp, FpOk X pins H' b) ∧ R J H'
def PI (X : Cx) (tg iter : Expr) (wi : TI) : Prop :=
  ∀ (pins : List (Addr × Obj)) (s : Shared) (σ : St) (H : Hp) (R : It → Hp → Prop), Inv X pins σ H s → wi σ H R →
    wpAny (model X.prog X.w) X.A (eval iter X.env) (fun v s1 => wpAny (model X.prog X.w) X.A (pyIter v) (PIE X pins σ tg R) X.xe s1) X.xe s

/-- the step ahead of the store is nothing for an iterator that keeps no tuple -/
theorem go_of {M : Model} {A : Around} {E : Value → Shared → Prop} {s : Shared} {tg : Expr} {it : Addr} {u : Value} {o : Obj} {n : String} {vs : Array Value} {Q : Unit → Shared → Prop} (ho : s.heap.get? it = some o) (hc : o.cls = .type n) (hd : o.data = .fields vs)
    (hn : ["enumerate", "zip", "dict_itemiterator", "dict_reverseitemiterator", "odict_iterator", "itertools.zip_longest", "itertools.pairwise"].contains n = false) (hQ : Q () s) : wpAny M A (letOwnedTupleGo tg (.ref it) u) Q E s := by
  unfold letOwnedTupleGo
  cases tg <;> first
    | exact wpAny_pure hQ
    | (cases u <;> first
        | exact wpAny_pure hQ
        | (refine wpAny_bind (wpAny_load ho ?_)
           rw [hc, hd]
           show wpAny M A (if (["enumerate", "zip", "dict_itemiterator", "dict_reverseitemiterator", "odict_iterator", "itertools.zip_longest", "itertools.pairwise"].contains n && vs[0]? == some (rawInt _)) = true then _ else _) Q E s
           rw [if_neg (by intro h; rw [hn, Bool.false_and] at h; cases h)]
           exact wpAny_pure hQ))

/-- the list at a, as it stands at each turn (a loop may append to it) -/
def Itl (K : PySem.W.Frag) (a : Addr) : It :=
  ⟨fun i H => ∃ xs x, SqL K H a xs ∧ xs[i]? = some x, fun i H x H' => H' = H ∧ ∀ xs, SqL K H a xs → xs[i]? = some x, fun i H => ∃ xs, SqL K H a xs ∧ xs.length ≤ i⟩
def Itt (K : PySem.W.Frag) (a : Addr) : It :=
  ⟨fun i H => ∃ xs x, SqT K H a xs ∧ xs[i]? = some x, fun i H x H' => H' = H ∧ ∀ xs, SqT K H a xs → xs[i]? = some x, fun i H => ∃ xs, SqT K H a xs ∧ xs.length ≤ i⟩
/-- lo, lo + 1, .. (n of them) -/
def Itr (lo : Int) (n : Nat) : It := ⟨fun i _ => i < n, fun i H x H' => H' = H ∧ x = .int (lo + i), fun i _ => n ≤ i⟩
theorem turn_list {P : Program} {w : World} {K : PySem.W.Frag} {tg : Expr} (a it : Addr) : Turn P w K tg (Itl K a) [it] it (fun i h => h.IsListIter it a i) where
  mem := by simp
  obj := fun i h st b hb => by
    have e : b = it := by simpa using hb
    subst e
    obtain ⟨o, e, c, d⟩ := st
    exact ⟨o, e, fun v z => by rw [d] at z; cases z⟩
  keep := fun i h h' st k => st.at fun o e => k it (by simp) o e
  item := by
    intro X hP hw hK hc i pins s σ H E I hf st hg
    subst hP hw hK
    obtain ⟨xs, x, hq, hx⟩ := hg
    obtain ⟨its, rv, p, hz⟩ := I.list hq
    obtain ⟨u, hu, ru⟩ := rv.get hx
    obtain ⟨f0, f1, f2, f3, f4, f5⟩ := hf it (by simp)
    refine wpAny_pyNext_list_item st p.isList (x := u) (by simpa using hu) fun h' st' sb => ?_
    have I1 : Inv X pins σ H { s with heap := h' } := I.turned (t' := s.toks) (fun b o hb e => (sb.2 b hb).trans e) f0 f1 f3 f4 f5
    obtain ⟨o, e, c, d⟩ := id st'
    exact ⟨u, rfl, go_of (s := { s with heap := h' }) e c d (by decide) ⟨x, H, I1, ru, ⟨rfl, fun ys hy => by rw [I.list_inj hy hq]; exact hx⟩, st', fun b hb => (hf b hb).1⟩⟩
  done := by
    intro X hP hw hK hc i pins s σ H E I hf st hg
    subst hP hw hK
    obtain ⟨xs, hq, hx⟩ := hg
    obtain ⟨its, rv, p, hz⟩ := I.list hq
    obtain ⟨f0, f1, f2, f3, f4, f5⟩ := hf it (by simp)
    have hl := rv.length
    exact wpAny_pyNext_list_end (I.ok.hd hc) st p.isList (by simp; omega) fun h' eb => ⟨rfl, I.turned (t' := s.toks) (fun b o hb e => eb b o hb e) f0 f1 f3 f4 f5⟩
  self := fun _ _ _ _ _ st h => wpAny_pyIter_listiter st h
theorem turn_tuple {P : Program} {w : World} {K : PySem.W.Frag} {tg : Expr} (a it : Addr) : Turn P w K tg (Itt K a) [it] it (fun i h => h.IsTupleIter it a i) where
  mem := by simp
  obj := fun i h st b hb => by
    have e : b = it := by simpa using hb
    subst e
    obtain ⟨o, e, c, d⟩ := st
    exact ⟨o, e, fun v z => by rw [d] at z; cases z⟩
  keep := fun i h h' st k => st.at fun o e => k it (by simp) o e
  item := by
    intro X hP hw hK hc i pins s σ H E I hf st hg
    subst hP hw hK
    obtain ⟨xs, x, hq, hx⟩ := hg
    obtain ⟨its, rv, p, hz⟩ := I.tuple hq
    obtain ⟨u, hu, ru⟩ := rv.get hx
    obtain ⟨f0, f1, f2, f3, f4, f5⟩ := hf it (by simp)
    refine wpAny_pyNext_tuple_item st (show s.heap.IsTuple a its.toArray from p) (x := u) (by simpa using hu) fun h' st' sb => ?_
    have I1 : Inv X pins σ H { s with heap := h' } := I.turned (t' := s.toks) (fun b o hb e => (sb.2 b hb).trans e) f0 f1 f3 f4 f5
    obtain ⟨o, e, c, d⟩ := id st'
    exact ⟨u, rfl, go_of (s := { s with heap := h' }) e c d (by decide) ⟨x, H, I1, ru, ⟨rfl, fun ys hy => by rw [I.tuple_inj hy hq]; exact hx⟩, st', fun b hb => (hf b hb).1⟩⟩
  done := by
    intro X hP hw hK hc i pins s σ H E I hf st hg
    subst hP hw hK
    obtain ⟨xs, hq, hx⟩ := hg
    obtain ⟨its, rv, p, hz⟩ := I.tuple hq
    obtain ⟨f0, f1, f2, f3, f4, f5⟩ := hf it (by simp)
    have hl := rv.length
    exact wpAny_pyNext_tuple_end (I.ok.hd hc) st (show s.heap.IsTuple a its.toArray from p) (by simp; omega) fun h' eb => ⟨rfl, I.turned (t' := s.toks) (fun b o hb e => eb b o hb e) f0 f1 f3 f4 f5⟩
  self := fun _ _ _ _ _ st h => wpAny_pyIter_tupleiter st h
theorem turn_range {P : Program} {w : World} {K : PySem.W.Frag} {tg : Expr} (it : Addr) (lo : Int) (n : Nat) : Turn P w K tg (Itr lo n) [it] it (fun i h => IsRangeIter h it (lo + (i : Nat) * 1) ((n : Int) - (i : Nat)) 1) where
  mem := by simp
  obj := fun i h st b hb => by
    have e : b = it := by simpa using hb
    subst e
    exact ⟨_, st, fun v z => by
      have z' : Data.fields _ = Data.cell v := z
      cases z'⟩
  keep := fun i h h' st k => k it (by simp) _ st
  item := by
    intro X hP hw hK hc i pins s σ H E I hf st hg
    subst hP hw hK
    obtain ⟨f0, f1, f2, f3, f4, f5⟩ := hf it (by simp)
    have W := Walks.range (prog := X.prog) (w := X.w) (I.ok.hd hc) it lo 1 n
    refine W.item i s _ _ hg st fun v h' tk hv st' kk => ?_
    obtain ⟨t, rfl⟩ := hv
    have I1 : Inv X pins σ H { s with heap := h', toks := tk } := I.turned (fun b o hb e => kk b o (by simpa using hb) e) f0 f1 f3 f4 f5
    refine ⟨_, rfl, go_of (s := { s with heap := h', toks := tk }) (n := "range_iterator") st' rfl rfl (by decide) ⟨.int (lo + i), H, I1, ⟨t, ?_⟩, ⟨rfl, rfl⟩, st', fun b hb => (hf b hb).1⟩⟩
    rw [Int.mul_one]
  done := by
    intro X hP hw hK hc i pins s σ H E I hf st hg
    subst hP hw hK
    obtain ⟨f0, f1, f2, f3, f4, f5⟩ := hf it (by simp)
    exact wpAny_pyNext_range_end (I.ok.hd hc) st (by have : n ≤ i := hg; omega) fun h' eb => ⟨rfl, I.turned (t' := s.toks) (fun b o hb e => eb b o hb e) f0 f1 f3 f4 f5⟩
  self := fun _ _ _ _ _ st h => wpAny_pyIter_rangeiter st h
end L2

namespace L2
open PySem PySem.Spec PyProof.Rows
section
variable {X : Cx} {tg : Expr}
/-- a range object just made, walked -/
theorem range_it {pins : List (Addr × Obj)} {σ : St} {H : Hp} {s : Shared} {R : It → Hp → Prop} {E : Value → Shared → Prop} {lo hi : Int} {t u v : Tok} {tk : Nat} (I : Inv X pins σ H s) (h1 : -(2 ^ 62) ≤ lo) (h2 : lo < 2 ^ 62) (h3 : -(2 ^ 62) ≤ hi) (h4 : hi < 2 ^ 62)
    (q : R (Itr lo (hi - lo).toNat) H) : wpAny (model X.prog X.w) X.A (pyIter (.ref s.heap.objs.size)) (PIE X pins σ tg R) E { s with heap := s.heap.push { cls := .type "range", data := .fields #[.int lo t, .int hi u, .int 1 v] }, toks := tk } := by
  refine wpAny_pyIter_range (IsRange.new ..) (small_one h1 h2 h3 h4) ?_
  have I1 : Inv X pins σ H { s with heap := s.heap.push { cls := .type "range", data := .fields #[.int lo t, .int hi u, .int 1 v] }, toks := tk } := I.kept fun b o e => Heap.get?_push_of_some _ e
  refine ⟨(s.heap.push { cls := .type "range", data := .fields #[.int lo t, .int hi u, .int 1 v] }).objs.size, [(s.heap.push { cls := .type "range", data := .fields #[.int lo t, .int hi u, .int 1 v] }).objs.size], _, _, H, rfl,
    I1.kept (t' := tk) fun b o e => Heap.get?_push_of_some _ e, turn_range _ lo (hi - lo).toNat, ?_, fun b hb => ?_, q⟩
  · have e1 : lo + ((0 : Nat) : Int) * 1 = lo := by simp
    have e2 : (((hi - lo).toNat : Nat) : Int) - ((0 : Nat) : Int) = Builtin.Range.rangeSize lo hi 1 := by rw [rangeSize_one]; split <;> omega
    show IsRangeIter _ _ (lo + ((0 : Nat) : Int) * 1) ((((hi - lo).toNat : Nat) : Int) - ((0 : Nat) : Int)) 1
    rw [e1, e2]
    exact Heap.get?_push_size _ rfl
  · have e : b = (s.heap.push { cls := .type "range", data := .fields #[.int lo t, .int hi u, .int 1 v] }).objs.size := by simpa using hb
    subst e
    exact I1.fpOk (Nat.le_refl _) (I1.hok.fresh (Nat.le_refl _))
def iRng1 (ta : TA) : TI := fun σ H R => ta σ H fun vs H1 => ∃ j : Int, vs = [.int j] ∧ -(2 ^ 62) ≤ j ∧ j < 2 ^ 62 ∧ R (Itr 0 j.toNat) H1
def iRng2 (ta : TA) : TI := fun σ H R => ta σ H fun vs H1 => ∃ i j : Int, vs = [.int i, .int j] ∧ (-(2 ^ 62) ≤ i ∧ i < 2 ^ 62 ∧ -(2 ^ 62) ≤ j ∧ j < 2 ^ 62) ∧ R (Itr i (j - i).toNat) H1
theorem pi_range1 {a : Expr} {ta : TA} {p pos : Pos} (hg : Gl X "range") (hm : X.mg "range" = none) (ha : PA X [a] ta) (hs : starEach [a] X.env = [(false, eval a X.env)] := by rfl) : PI X tg (.Call (.Name "range" p) [a] [] pos) (iRng1 ta) := by
  intro pins s σ H R I h
  refine Call_ (ld_blt I hg hm boot_range (PyProof.Rows.callWith_type1 (thn (ha pos pins s σ H _ I h) fun us s1 ⟨vs, H1, I1, r1, q1⟩ => ?_) hs rfl))
  obtain ⟨j, e, q1, q2, q⟩ := q1
  subst e
  cases r1 with
  | cons r rr =>
    cases rr
    obtain ⟨t, rfl⟩ := r
    exact call_range_1 (range_it I1 (by omega) (by omega) q1 q2 (by simpa using q))
theorem pi_range2 {a b : Expr} {ta : TA} {p pos : Pos} (hg : Gl X "range") (hm : X.mg "range" = none) (ha : PA X [a, b] ta) (hs : starEach [a, b] X.env = [(false, eval a X.env), (false, eval b X.env)] := by rfl) (hs2 : starEach [b] X.env = [(false, eval b X.env)] := by rfl) :
    PI X tg (.Call (.Name "range" p) [a, b] [] pos) (iRng2 ta) := by
  intro pins s σ H R I h
  refine Call_ (ld_blt I hg hm boot_range (PyProof.Rows.callWith_type1 (thn (ha pos pins s σ H _ I h) fun us s1 ⟨vs, H1, I1, r1, q1⟩ => ?_) (by rw [hs, hs2]) (by rw [hs2]; rfl)))
  obtain ⟨i, j, e, ⟨q1, q2, q3, q4⟩, q⟩ := q1
  subst e
  cases r1 with
  | cons r rr =>
    cases rr with
    | cons r' rr =>
      cases rr
      obtain ⟨t, rfl⟩ := r
      obtain ⟨t', rfl⟩ := r'
      exact call_range_2 (range_it I1 q1 q2 q3 q4 q)

/-! ### for -/
/-- W: the invariant by the turn and a measure; N: what the body is to reach -/
def tFor (wi : TI) (g : TG) (tb : TS) : TS := fun D σ H => wi σ H fun J H1 => ∃ W : Nat → Nat → St → Hp → Prop, (∃ m, W 0 m σ H1) ∧ ∀ i m σ H, W i m σ H →
  (J.stop i H ∧ D.nx σ H) ∨ (J.go i H ∧ ∃ N : St → Hp → Prop, (∀ σ' H', N σ' H' → ∃ m', m' < m ∧ W (i + 1) m' σ' H') ∧ ∀ x H', J.yld i H x H' → g x σ H' fun σ2 H2 => tb { D with nx := N, ct := N, bk := D.nx } σ2 H2)
/-- the records at fp as they stand -/
def pinsAt (fp : List Addr) (h : Heap) : List (Addr × Obj) := fp.filterMap fun b => (h.get? b).map fun o => (b, o)
theorem mem_pinsAt {fp : List Addr} {h : Heap} {b : Addr} {o : Obj} (hb : b ∈ fp) (e : h.get? b = some o) : (b, o) ∈ pinsAt fp h := List.mem_filterMap.mpr ⟨b, hb, by rw [e]; rfl⟩
theorem of_pinsAt {fp : List Addr} {h : Heap} {p : Addr × Obj} (hp : p ∈ pinsAt fp h) : p.1 ∈ fp ∧ h.get? p.1 = some p.2 := by
  obtain ⟨b, hb, e⟩ := List.mem_filterMap.mp hp
  cases q : h.get? b with
  | none => rw [q] at e; cases e
  | some o =>
    rw [q] at e
    have e' : (b, o) = p := Option.some.inj e
    subst e'
    exact ⟨hb, q⟩
theorem Inv.pinned {pins : List (Addr × Obj)} {σ : St} {H : Hp} {s : Shared} {fp : List Addr} (I : Inv X pins σ H s) (hf : ∀ b ∈ fp, FpOk X pins H b) (ho : ∀ b ∈ fp, ∃ o, s.heap.get? b = some o ∧ ∀ v, o.data ≠ .cell v) : Inv X (pins ++ pinsAt fp s.heap) σ H s :=
  I.pins_of fun p hp => (List.mem_append.mp hp).elim (fun z => I.pin p (List.mem_append_right _ z)) fun z => by
    obtain ⟨hb, e⟩ := of_pinsAt z
    obtain ⟨f0, f1, f2, _⟩ := hf p.1 hb
    obtain ⟨o, e', d⟩ := ho p.1 hb
    rw [e] at e'; cases e'
    exact ⟨e, f0, f1, f2, d⟩
theorem Inv.unpinned {pins pl : List (Addr × Obj)} {σ : St} {H : Hp} {s : Shared} (I : Inv X (pins ++ pl) σ H s) : Inv X pins σ H s := I.pins_of fun p hp => I.pin p (List.mem_append_right _ (List.mem_append_left _ hp))
theorem ps_for {iter : Expr} {body : List Stmt} {wi : TI} {g : TG} {tb : TS} {pos : Pos} (hp : PassesOwn (model X.prog X.w) X.A X.env X.xe) (hc : X.calm = true) (hi : PI X tg iter wi) (hg : PG X tg g) (hb : PSs X body tb)
    (hs : ∀ x, foldedSetIterable iter X.env x = pure x := by intro _; rfl) : PS X (.For tg iter body [] pos) (tFor wi g tb) := by
  intro pins s σ H D I h
  refine wpAny_For (thn (hi pins s σ H _ I h) fun v s1 h1 => thn h1 fun itv s2 h2 => ?_) hs
  obtain ⟨it, fp, tn, J, H2, e, I2, T, st2, f2, W, ⟨m0, w0⟩, turn⟩ := h2
  subst e
  -- what stays true of the iterator's objects through the loop
  have stat : ∀ {H' : Hp}, (∀ b ∈ fp, H' b = none) → ∀ b ∈ fp, FpOk X pins H' b := fun hn b hb => ⟨hn b hb, (f2 b hb).2⟩
  refine codeAny_forLoop_any (fun n s' => ∃ i σ' H', Inv X pins σ' H' s' ∧ tn i s'.heap ∧ (∀ b ∈ fp, H' b = none) ∧ W i n σ' H') ?_ m0 ⟨0, σ, H2, I2, st2, fun b hb => (f2 b hb).1, w0⟩
  rintro n s3 ⟨i, σ3, H3, I3, st3, fr3, w3⟩
  rcases turn i n σ3 H3 w3 with ⟨stop, qn⟩ | ⟨go, N, hN, step⟩
  · refine wpAny_passesOwn hp (thn (T.done X rfl rfl rfl hc i pins s3 σ3 H3 X.xe I3 (stat fr3) st3 stop) fun r s4 ⟨hr, I4⟩ => ?_)
    subst hr
    exact wpAny_execs_nil ⟨σ3, H3, I4, qn⟩
  · refine wpAny_passesOwn hp (thn (T.item X rfl rfl rfl hc i pins s3 σ3 H3 X.xe I3 (stat fr3) st3 go) fun r s4 ⟨u, hr, h4⟩ => ?_)
    subst hr
    refine wpAny_passesOwn hp (thn h4 fun _ s5 ⟨x, H5, I5, r5, y5, st5, fr5⟩ => ?_)
    have I5' := I5.pinned (stat fr5) (T.obj _ _ st5)
    refine wpAny_passesOwn hp (thn (hg _ s5 σ3 H5 x u _ I5' r5 (step x H5 y5)) fun _ s6 ⟨σ6, H6, I6, q6⟩ => ?_)
    refine wpAny_passesOwn hp (thn (hb _ s6 σ6 H6 _ I6 q6) fun f s7 q7 => ?_)
    have again : ∀ {σ7 : St} {H7 : Hp}, Inv X (pins ++ pinsAt fp s5.heap) σ7 H7 s7 → N σ7 H7 → ∃ m, m < n ∧ ∃ i σ' H', Inv X pins σ' H' s7 ∧ tn i s7.heap ∧ (∀ b ∈ fp, H' b = none) ∧ W i m σ' H' := fun {σ7 H7} I7 n7 => by
      obtain ⟨m', hm, w7⟩ := hN σ7 H7 n7
      refine ⟨m', hm, i + 1, σ7, H7, I7.unpinned, T.keep _ _ _ st5 fun b hb o e => (I7.pin (b, o) (List.mem_append_right _ (List.mem_append_right _ (mem_pinsAt hb e)))).1, fun b hb => ?_, w7⟩
      obtain ⟨o, e, d⟩ := T.obj _ _ st5 b hb
      exact (I7.pin (b, o) (List.mem_append_right _ (List.mem_append_right _ (mem_pinsAt hb e)))).2.1
    cases f with
    | next => obtain ⟨σ7, H7, I7, n7⟩ := q7; exact again I7 n7
    | cont => obtain ⟨σ7, H7, I7, n7⟩ := q7; exact again I7 n7
    | brk => obtain ⟨σ7, H7, I7, q7⟩ := q7; exact ⟨σ7, H7, I7.unpinned, q7⟩
    | ret v => obtain ⟨x7, σ7, H7, I7, r7, q7⟩ := q7; exact ⟨x7, σ7, H7, I7.unpinned, r7, q7⟩
end

/-! ### the forms one uses -/
theorem for_range {lo : Int} {n : Nat} {g : TG} {tb : TS} {D : Ends} {σ : St} {H : Hp} (Pv : Nat → St → Hp → Prop) (h0 : Pv 0 σ H)
    (hs : ∀ i σ H, i < n → Pv i σ H → g (.int (lo + i)) σ H fun σ2 H2 => tb { D with nx := Pv (i + 1), ct := Pv (i + 1), bk := D.nx } σ2 H2) (hd : ∀ σ H, Pv n σ H → D.nx σ H) :
    ∃ W : Nat → Nat → St → Hp → Prop, (∃ m, W 0 m σ H) ∧ ∀ i m σ H, W i m σ H →
      ((Itr lo n).stop i H ∧ D.nx σ H) ∨ ((Itr lo n).go i H ∧ ∃ N : St → Hp → Prop, (∀ σ' H', N σ' H' → ∃ m', m' < m ∧ W (i + 1) m' σ' H') ∧ ∀ x H', (Itr lo n).yld i H x H' → g x σ H' fun σ2 H2 => tb { D with nx := N, ct := N, bk := D.nx } σ2 H2) := by
  refine ⟨fun i m σ H => m = n - i ∧ i ≤ n ∧ Pv i σ H, ⟨n, by simp, Nat.zero_le _, h0⟩, ?_⟩
  rintro i m σ H ⟨rfl, hi, p⟩
  by_cases hlt : i < n
  · refine .inr ⟨hlt, Pv (i + 1), fun σ' H' p' => ⟨n - (i + 1), by omega, rfl, hlt, p'⟩, fun x H' y => ?_⟩
    obtain ⟨e, y⟩ := y
    subst e y
    exact hs i σ _ hlt p
  · have e : i = n := by omega
    subst e
    exact .inl ⟨Nat.le_refl _, hd σ H p⟩
end L2

namespace L2
open PySem PySem.Spec PyProof.Rows

abbrev R2 := V → V → Hp → VK → Prop
/-- a two-place operation on values: f is binaryOp op, inplaceOp op or compareOp op -/
def OpR (X : Cx) (f : Value → Value → Sem Value) (r : R2) : Prop :=
  ∀ (pins : List (Addr × Obj)) (s : Shared) (σ : St) (H : Hp) (x y : V) (v u : Value) (Q : VK), Inv X pins σ H s → RelV x v → RelV y u → r x y H Q →
    wpAny (model X.prog X.w) X.A (f v u) (EP X pins σ Q) X.xe s
/-- a one-place operation -/
def UnR (X : Cx) (f : Value → Sem Value) (r : V → Hp → VK → Prop) : Prop :=
  ∀ (pins : List (Addr × Obj)) (s : Shared) (σ : St) (H : Hp) (x : V) (v : Value) (Q : VK), Inv X pins σ H s → RelV x v → r x H Q →
    wpAny (model X.prog X.w) X.A (f v) (EP X pins σ Q) X.xe s
/-- a call of a value that is known (a builtin, a type) with values -/
def CallR (X : Cx) (f : Value) (r : List V → Hp → VK → Prop) : Prop :=
  ∀ (pins : List (Addr × Obj)) (s : Shared) (σ : St) (H : Hp) (xs : List V) (us : List Value) (Q : VK), Inv X pins σ H s → Vals xs us → r xs H Q →
    wpAny (model X.prog X.w) X.A (call f us) (EP X pins σ Q) X.xe s
def tOp (r : R2) (ta tb : TE) : TE := fun σ H Q => ta σ H fun x H1 => tb σ H1 fun y H2 => r x y H2 Q
def tUn (r : V → Hp → VK → Prop) (ta : TE) : TE := fun σ H Q => ta σ H fun x H1 => r x H1 Q
/-- ints in, under C, and a value out -/
def rI (C : Int → Int → Prop) (g : Int → Int → V) : R2 := fun x y H Q => ∃ i j, x = .int i ∧ y = .int j ∧ C i j ∧ Q (g i j) H
def rI0 (g : Int → Int → V) : R2 := fun x y H Q => ∃ i j, x = .int i ∧ y = .int j ∧ Q (g i j) H
def rU (g : Int → V) : V → Hp → VK → Prop := fun x H Q => ∃ i, x = .int i ∧ Q (g i) H

section
variable {X : Cx} {a b c : Expr} {ta tb tc : TE} {pos : Pos}

theorem binT (ha : PE X a ta) (hb : PE X b tb) {pins : List (Addr × Obj)} {s : Shared} {σ : St} {H : Hp} {R : V → V → Hp → Prop} (I : Inv X pins σ H s)
    (h : ta σ H fun x H1 => tb σ H1 fun y H2 => R x y H2) {Q : Value → Shared → Prop} {f : Value → Value → Sem Value}
    (hf : ∀ v u s2 x y H2, Inv X pins σ H2 s2 → RelV x v → RelV y u → R x y H2 → wpAny (model X.prog X.w) X.A (f v u) Q X.xe s2) :
    wpAny (model X.prog X.w) X.A (eval a X.env) (fun v s₁ => wpAny (model X.prog X.w) X.A (eval b X.env) (fun u s₂ => wpAny (model X.prog X.w) X.A (f v u) Q X.xe s₂) X.xe s₁) X.xe s := by
  refine thn (ha pins s σ H _ I h) fun v s1 ⟨x, H1, I1, r1, q1⟩ => ?_
  refine thn (hb pins s1 σ H1 _ I1 q1) fun u s2 ⟨y, H2, I2, r2, q2⟩ => ?_
  exact hf v u s2 x y H2 I2 r1 r2 q2

theorem pe_op {op : Operator} {r : R2} (ho : OpR X (binaryOp op) r) (ha : PE X a ta) (hb : PE X b tb) : PE X (.BinOp a op b pos) (tOp r ta tb) := by
  intro pins s σ H Q I h
  exact wpAny_BinOp (binT ha hb I h fun v u s2 x y H2 I2 rx ry q => ho pins s2 σ H2 x y v u Q I2 rx ry q)
theorem pe_un {op : UnaryOp} {r : V → Hp → VK → Prop} (ho : UnR X (unaryOp op) r) (ha : PE X a ta) : PE X (.UnaryOp op a pos) (tUn r ta) := by
  intro pins s σ H Q I h
  exact UnaryOp_ (thn (ha pins s σ H _ I h) fun v s1 ⟨x, H1, I1, r1, q1⟩ => ho pins s1 σ H1 x v Q I1 r1 q1)
/-! ### ints -/
theorem opI {f : Value → Value → Sem Value} {C : Int → Int → Prop} {g : Int → Int → Int}
    (rule : ∀ (i j : Int) (t u : Tok) (s : Shared) (Q : Value → Shared → Prop) (E : Value → Shared → Prop), C i j → Q (.int (g i j) s.toks) { s with toks := s.toks + 1 } → wpAny (model X.prog X.w) X.A (f (.int i t) (.int j u)) Q E s) :
    OpR X f (rI C fun i j => .int (g i j)) := by
  intro pins s σ H x y v u Q I rx ry h
  obtain ⟨i, j, rfl, rfl, hc, q⟩ := h
  obtain ⟨t, rfl⟩ := rx
  obtain ⟨t', rfl⟩ := ry
  exact rule i j t t' s _ _ hc ⟨.int (g i j), H, I.tok _, ⟨_, rfl⟩, q⟩
theorem opI0 {f : Value → Value → Sem Value} {g : Int → Int → Int}
    (rule : ∀ (i j : Int) (t u : Tok) (s : Shared) (Q : Value → Shared → Prop) (E : Value → Shared → Prop), Q (.int (g i j) s.toks) { s with toks := s.toks + 1 } → wpAny (model X.prog X.w) X.A (f (.int i t) (.int j u)) Q E s) :
    OpR X f (rI0 fun i j => .int (g i j)) := by
  intro pins s σ H x y v u Q I rx ry h
  obtain ⟨i, j, rfl, rfl, q⟩ := h
  obtain ⟨t, rfl⟩ := rx
  obtain ⟨t', rfl⟩ := ry
  exact rule i j t t' s _ _ ⟨.int (g i j), H, I.tok _, ⟨_, rfl⟩, q⟩
theorem opB0 {f : Value → Value → Sem Value} {g : Int → Int → Bool}
    (rule : ∀ (i j : Int) (t u : Tok) (s : Shared) (Q : Value → Shared → Prop) (E : Value → Shared → Prop), Q (.bool (g i j)) s → wpAny (model X.prog X.w) X.A (f (.int i t) (.int j u)) Q E s) :
    OpR X f (rI0 fun i j => .bl (g i j)) := by
  intro pins s σ H x y v u Q I rx ry h
  obtain ⟨i, j, rfl, rfl, q⟩ := h
  obtain ⟨t, rfl⟩ := rx
  obtain ⟨t', rfl⟩ := ry
  exact rule i j t t' s _ _ ⟨.bl (g i j), H, I, rfl, q⟩

def CPow (i j : Int) : Prop := 0 ≤ j ∧ j ≤ 1000000 ∧ i.natAbs < 2 ^ 64
theorem op_add : OpR X (binaryOp .Add) (rI0 fun i j => .int (i + j)) := opI0 fun _ _ _ _ _ _ _ q => add_int q
theorem op_sub : OpR X (binaryOp .Sub) (rI0 fun i j => .int (i - j)) := opI0 fun _ _ _ _ _ _ _ q => sub_int q
/-- % by a positive divisor of any size -/
theorem op_mod : OpR X (binaryOp .Mod) (rI (fun _ j => 0 < j) fun i j => .int (i % j)) := opI fun i j _ _ _ _ _ hc q => by
  have h1 : (0 : Int) < j := hc
  exact mod_int' (by omega) (by rw [Int.fmod_eq_emod_of_nonneg i (by omega)]; exact q)
theorem op_pow : OpR X (binaryOp .Pow) (rI CPow fun i j => .int (i ^ j.toNat)) := opI fun _ _ _ _ _ _ _ hc q => pow_int_small hc.1 hc.2.1 hc.2.2 q
theorem unI {f : Value → Sem Value} {g : Int → Int}
    (rule : ∀ (i : Int) (t : Tok) (s : Shared) (Q : Value → Shared → Prop) (E : Value → Shared → Prop), Q (.int (g i) s.toks) { s with toks := s.toks + 1 } → wpAny (model X.prog X.w) X.A (f (.int i t)) Q E s) :
    UnR X f (rU fun i => .int (g i)) := by
  intro pins s σ H x v Q I rx h
  obtain ⟨i, rfl, q⟩ := h
  obtain ⟨t, rfl⟩ := rx
  exact rule i t s _ _ ⟨.int (g i), H, I.tok _, ⟨_, rfl⟩, q⟩
theorem un_neg : UnR X (unaryOp .USub) (rU fun i => .int (-i)) := unI fun _ _ _ _ _ q => neg_int q
/-! ### bools among ints: n += (a < b) -/
end

/-! ### comparisons -/
section
variable {X : Cx} {a b c : Expr} {ta tb tc : TE} {pos : Pos}
theorem fin_bl {pins : List (Addr × Obj)} {σ : St} {H : Hp} {s : Shared} {Q : VK} {k k' : Bool} (I : Inv X pins σ H s) (q : Q (.bl k) H) (e : k = k') : EP X pins σ Q (.bool k') s := by
  subst e
  exact ⟨.bl k, H, I, rfl, q⟩
theorem op_lt : OpR X (compareOp .Lt) (rI0 fun i j => .bl (decide (i < j))) := opB0 fun _ _ _ _ _ _ _ q => lt_int q
theorem op_le : OpR X (compareOp .LtE) (rI0 fun i j => .bl (decide (i ≤ j))) := opB0 fun _ _ _ _ _ _ _ q => le_int q
theorem op_gt : OpR X (compareOp .Gt) (rI0 fun i j => .bl (decide (j < i))) := opB0 fun _ _ _ _ _ _ _ q => gt_int q
theorem op_ge : OpR X (compareOp .GtE) (rI0 fun i j => .bl (decide (j ≤ i))) := opB0 fun _ _ _ _ _ _ _ q => ge_int q
theorem op_notN : OpR X (compareOp .IsNot) (fun x y H Q => y = .non ∧ Q (.bl (!decide (x = .non))) H) := by
  intro pins s σ H x y v u Q I rx ry h
  obtain ⟨rfl, q⟩ := h
  cases ry
  refine isnot_none_gen (fin_bl I q ?_)
  cases x <;> first
    | (cases rx; rfl)
    | (obtain ⟨t, rfl⟩ := rx; rfl)

theorem nomark (b : Expr) {op : CmpOp} (h : op ≠ .In := by decide) (h2 : op ≠ .NotIn := by decide) : behindInMarks op b = false := by
  have e1 : (op == CmpOp.In) = false := by cases op <;> first | rfl | exact absurd rfl h
  have e2 : (op == CmpOp.NotIn) = false := by cases op <;> first | rfl | exact absurd rfl h2
  cases b <;> simp [behindInMarks, e1, e2]
/-- a comparison as a value; hm: nomark b, or (for in, not in) by with_unfolding_all rfl -/
theorem pe_cmpR {op : CmpOp} {r : R2} (ho : OpR X (compareOp op) r) (ha : PE X a ta) (hb : PE X b tb) (hm : behindInMarks op b = false) : PE X (.Compare a [op] [b] pos) (tOp r ta tb) := by
  intro pins s σ H Q I h
  exact wpAny_Compare1 (binT ha hb I h fun v u s2 x y H2 I2 rx ry q => ho pins s2 σ H2 x y v u Q I2 rx ry q) hm
/-- a reading of a value as a test -/
def tTest (t : TE) : TT := fun σ H Q => t σ H fun x H' => ∃ k, x = .bl k ∧ Q k H'
theorem pt_cmpR {op : CmpOp} {r : R2} (ho : OpR X (compareOp op) r) (ha : PE X a ta) (hb : PE X b tb) (hm : behindInMarks op b = false) : PT X (.Compare a [op] [b] pos) (tTest (tOp r ta tb)) := by
  intro pins s σ H Q I h
  refine wpAny_isTrue_Compare1 (thn (ha pins s σ H _ I h) fun v s1 ⟨x, H1, I1, r1, q1⟩ => thn (hb pins s1 σ H1 _ I1 q1) fun u s2 ⟨y, H2, I2, r2, q2⟩ =>
    thn (ho pins s2 σ H2 x y v u _ I2 r1 r2 q2) fun c s3 ⟨z, H3, I3, r3, k, e, q3⟩ => ?_) hm
  subst e
  cases r3
  exact wpAny_truthy_bool ⟨H3, I3, q3⟩
/-- a op1 b op2 c -/
def tChain (r r' : R2) (ta tb tc : TE) : TE := fun σ H Q => ta σ H fun x H1 => tb σ H1 fun y H2 => r x y H2 fun z H3 => ∃ k, z = .bl k ∧
  (if k = true then tc σ H3 fun w' H4 => r' y w' H4 Q else Q (.bl false) H3)
theorem pt_chain {op op' : CmpOp} {r r' : R2} (ho : OpR X (compareOp op) r) (ho' : OpR X (compareOp op') r') (ha : PE X a ta) (hb : PE X b tb) (hc : PE X c tc)
    (hm : lastMarks [op, op'] [b, c] = false := by with_unfolding_all rfl) : PT X (.Compare a [op, op'] [b, c] pos) (tTest (tChain r r' ta tb tc)) := by
  intro pins s σ H Q I h
  refine isTrue_chain (thn (ha pins s σ H _ I h) fun v s1 ⟨x, H1, I1, r1, q1⟩ => test_link (thn (hb pins s1 σ H1 _ I1 q1) fun u s2 ⟨y, H2, I2, r2, q2⟩ =>
    thn (ho pins s2 σ H2 x y v u _ I2 r1 r2 q2) fun d s3 ⟨z, H3, I3, r3, k, e, q3⟩ => ?_)) hm
  subst e
  cases r3
  refine wpAny_truthy_bool ?_
  cases k with
  | false =>
    obtain ⟨k', e', q'⟩ := q3
    cases e'
    exact ite_ff ⟨H3, I3, q'⟩
  | true =>
    refine ite_tt (test_last (thn (hc pins s3 σ H3 _ I3 q3) fun w' s4 ⟨z', H4, I4, r4, q4⟩ => thn (ho' pins s4 σ H4 y z' u w' _ I4 r2 r4 q4) fun d' s5 ⟨z2, H5, I5, r5, k2, e2, q5⟩ => ?_))
    subst e2
    cases r5
    exact wpAny_truthy_bool ⟨H5, I5, q5⟩

/-! ### truth -/
theorem line63 : (sizeLine : Nat) < 2 ^ 63 := by rw [sizeLine_eq]; decide
/-! ### strs and bytes -/
theorem op_add_str : OpR X (binaryOp .Add) (fun x y H Q => ∃ i j, x = .str i ∧ y = .str j ∧ i.length + j.length ≤ sizeLine ∧ Q (.str (i ++ j)) H) := by
  intro pins s σ H x y v u Q I rx ry h
  obtain ⟨i, j, rfl, rfl, hz, q⟩ := h
  obtain ⟨t, rfl⟩ := rx
  obtain ⟨t', rfl⟩ := ry
  exact add_str (fun t' tk => ⟨.str (i ++ j), H, I.tok _, ⟨_, rfl⟩, q⟩) hz
/-! ### scalar builtins, by CallR -/
theorem vals1 {x : V} {us : List Value} (r : Vals [x] us) : ∃ u, us = [u] ∧ RelV x u := by
  cases r with
  | cons r1 r2 => cases r2; exact ⟨_, rfl, r1⟩
theorem vals2 {x y : V} {us : List Value} (r : Vals [x, y] us) : ∃ u w', us = [u, w'] ∧ RelV x u ∧ RelV y w' := by
  cases r with
  | cons r1 r2 =>
    cases r2 with
    | cons r3 r4 => cases r4; exact ⟨_, _, rfl, r1, r3⟩
theorem call_abs : CallR X (.builtin "abs") (fun xs H Q => ∃ i, xs = [.int i] ∧ Q (.int (if i < 0 then -i else i)) H) := by
  intro pins s σ H xs us Q I r h
  obtain ⟨i, rfl, q⟩ := h
  obtain ⟨u, rfl, t, rfl⟩ := vals1 r
  exact call_abs_int fun u tk => ⟨.int (if i < 0 then -i else i), H, I.tok _, ⟨_, rfl⟩, q⟩
theorem call_max2 (hc : X.calm = true) : CallR X (.builtin "max") (fun xs H Q => ∃ i j, xs = [.int i, .int j] ∧ Q (.int (if j > i then j else i)) H) := by
  intro pins s σ H xs us Q I r h
  obtain ⟨i, j, rfl, q⟩ := h
  obtain ⟨u, w', rfl, ⟨t, rfl⟩, ⟨t', rfl⟩⟩ := vals2 r
  refine max_two_ints (I.ok.hd hc) fun h' tk k => ⟨_, H, I.kept k, ?_, q⟩
  by_cases hj : j > i
  · rw [if_pos hj, if_pos hj]; exact ⟨_, rfl⟩
  · rw [if_neg hj, if_neg hj]; exact ⟨_, rfl⟩
theorem call_min2 (hc : X.calm = true) : CallR X (.builtin "min") (fun xs H Q => ∃ i j, xs = [.int i, .int j] ∧ Q (.int (if j < i then j else i)) H) := by
  intro pins s σ H xs us Q I r h
  obtain ⟨i, j, rfl, q⟩ := h
  obtain ⟨u, w', rfl, ⟨t, rfl⟩, ⟨t', rfl⟩⟩ := vals2 r
  refine min_two_ints (I.ok.hd hc) fun h' tk k => ⟨_, H, I.kept k, ?_, q⟩
  by_cases hj : j < i
  · rw [if_pos hj, if_pos hj]; exact ⟨_, rfl⟩
  · rw [if_neg hj, if_neg hj]; exact ⟨_, rfl⟩
theorem call_int1 : CallR X (.type "int") (fun xs H Q => (∃ i, xs = [.int i] ∧ Q (.int i) H) ∨ ∃ k, xs = [.bl k] ∧ Q (.int (if k then 1 else 0)) H) := by
  intro pins s σ H xs us Q I r h
  rcases h with ⟨i, rfl, q⟩ | ⟨k, rfl, q⟩
  · obtain ⟨u, rfl, t, rfl⟩ := vals1 r
    exact call_int_int ⟨.int i, H, I, ⟨_, rfl⟩, q⟩
  · obtain ⟨u, rfl, r1⟩ := vals1 r
    cases r1
    exact call_int_bool ⟨.int (if k then 1 else 0), H, I.tok _, ⟨_, rfl⟩, q⟩
end
end L2

namespace L2
open PySem PySem.Spec PyProof.Rows

/-! ### an instance, its attributes a map -/
section
variable {prog : Program} {w : World} {A : Around} {E : Value → Shared → Prop} {s : Shared} {K : PySem.W.Frag} {x dx C f : Addr} {mA : Str → Option Value} {name : Str} {v : Value}

end

/-! ### the attributes as a list of pairs -/
theorem RelO.none_of {o : Option Value} (r : RelO none o) : o = none := by
  cases o with
  | none => rfl
  | some u => exact (show False from r).elim
section
variable {P : Program} {w : World} {H H' : Hp} {h h' : Heap} {a C dx : Addr} {fs fs' : List (Str × V)}
end

/-! ### what of the text a class must have -/
structure Cls (K : PySem.W.Frag) (C : Addr) : Prop where
  pg : PySem.W.plainGet K C Str.empty = true
  hd : PySem.W.hasDictIn K C = true
  po : PySem.W.plainOver K C = true
  sa : PySem.W.findIn K (.ref C) "__setattr__" = some (some (.builtin "object.__setattr__"))
theorem Cls.get {K : PySem.W.Frag} {C : Addr} (c : Cls K C) (f : Str) : PySem.W.plainGet K C f = true := c.pg
section
variable {X : Cx} {pins : List (Addr × Obj)} {σ : St} {H : Hp} {s : Shared} {a C dx : Addr} {fs : List (Str × V)} {f : Str} {v : V} {A : Around} {E : Value → Shared → Prop}

end

/-! ### readings and rules -/
section
variable {X : Cx} {o e value : Expr} {f : Str} {pos pos' tpos : Pos} {ta tv : TE}
end

/-! ### isinstance -/
section
variable {X : Cx} {pins : List (Addr × Obj)} {σ : St} {H : Hp} {s : Shared} {A : Around} {E : Value → Shared → Prop} {Q : Value → Shared → Prop} {c : Value} {b : Bool}
end
end L2

namespace L2
open PySem PySem.Spec PyProof.Rows

/-! ### room -/
structure Room (k : Nat) (A : Around) : Prop where
  hd : A.handled = none
  gd : A.guards = some []
  dp : A.depth + 3 * k + 5 < recursionLimit
  un : A.units + 16 * k + 200 < cLine
theorem Room.mono {j k : Nat} {A : Around} (r : Room k A) (h : j ≤ k) : Room j A := ⟨r.hd, r.gd, by have := r.dp; omega, by have := r.un; omega⟩
theorem Room.deeper {k : Nat} {A : Around} (r : Room (k + 1) A) (env : Env) : Room k (A.deeper env) :=
  ⟨r.hd, r.gd, by have := r.dp; show A.depth + 1 + 3 * k + 5 < _; omega, by have := r.un; show A.units + 3 + 16 * k + 200 < _; omega⟩
theorem Room.depth {k : Nat} {A : Around} (r : Room k A) : A.depth < recursionLimit := by have := r.dp; omega
theorem Room.units {k : Nat} {A : Around} (r : Room k A) : A.units + 64 < cLine := by have := r.un; omega
/-! ### argument lists and displays -/
def tNil : TA := fun _ H Q => Q [] H
def tCons (ta : TE) (tr : TA) : TA := fun σ H Q => ta σ H fun x H1 => tr σ H1 fun xs H2 => Q (x :: xs) H2
section
variable {X : Cx} {e : Expr} {es : List Expr} {te : TE} {t : TA} {pos : Pos}
theorem pa_nil : PA X [] tNil := fun _ _ _ _ H Q I h => Calls.spliced_nil ⟨[], H, I, .nil, h⟩
theorem pa_cons (ha : PE X e te) (hr : PA X es t) (hs : starEach (e :: es) X.env = (false, eval e X.env) :: starEach es X.env := by rfl) : PA X (e :: es) (tCons te t) := by
  intro pos pins s σ H Q I h
  rw [hs]
  show wpAny _ _ (spliced ((false, eval e X.env) :: backTo pos (starEach es X.env))) _ _ s
  refine Calls.spliced_cons (thn (ha pins s σ H _ I h) fun u s1 ⟨x, H1, I1, r1, q1⟩ => ?_)
  exact thn (hr pos pins s1 σ H1 _ I1 q1) fun us s2 ⟨xs, H2, I2, r2, q2⟩ => ⟨x :: xs, H2, I2, .cons r1 r2, q2⟩

/-- a tuple, a list of written items -/
def tTup (t : TA) : TE := fun σ H Q => t σ H fun xs H1 => xs.length ≤ sizeLine ∧ ∀ p, H1 p = none → Q (.ref p) (upd H1 p (.tup xs))
def tLst (t : TA) : TE := fun σ H Q => t σ H fun xs H1 => xs.length ≤ sizeLine ∧ ∀ p, H1 p = none → Q (.ref p) (upd H1 p (.lst xs))
theorem pe_tup {x1} (h : PA X es t) : PE X (.Tuple es x1 pos) (tTup t) := by
  intro pins s σ H Q I hq
  refine wpAny_Tuple_spliced (thn (h pos pins s σ H _ I hq) fun us s1 ⟨xs, H1, I1, r, z, q⟩ => ⟨by rw [← r.length]; exact z, ?_⟩)
  have hf : H1 s1.heap.objs.size = none := I1.hok.fresh (Nat.le_refl _)
  refine ⟨.ref s1.heap.objs.size, upd H1 s1.heap.objs.size (.tup xs), I1.laid (t' := s1.toks) (fun b u e => Heap.get?_push_of_some _ e) (Nat.le_refl _) ?_, rfl, q _ hf⟩
  exact ⟨z, us, r, ⟨_, Heap.get?_push_size _ rfl, rfl, _, rfl⟩⟩
theorem pe_lst (h : PA X es t) : PE X (.List es pos) (tLst t) := by
  intro pins s σ H Q I hq
  refine wpAny_List_spliced (thn (h pos pins s σ H _ I hq) fun us s1 ⟨xs, H1, I1, r, z, q⟩ => ⟨by rw [← r.length]; exact z, ?_⟩)
  have hf : H1 s1.heap.objs.size = none := I1.hok.fresh (Nat.le_refl _)
  refine ⟨.ref s1.heap.objs.size, upd H1 s1.heap.objs.size (.lst xs), I1.laid (t' := s1.toks) (fun b u e => Heap.get?_push_of_some _ e) (Nat.le_refl _) ?_, rfl, q _ hf⟩
  exact ⟨z, us, 0, r, Heap.get?_push_size _ rfl⟩
end

/-! ### what a def promises -/
/-- a def's promise: the bound arguments in the parameters' order, the heap, the wanted end, the wanted exception -/
abbrev Sp := List V → Hp → VK → XK → Prop
/-- how an exception lies behind a call (file 08 gives it): the callers' frames, abstract heap and state ahead of the call, the wish, the exception, the state -/
abbrev CXT := List Env → Hp → Shared → XK → Value → Shared → Prop

/-- the state at a call -/
structure Env0 (P : Program) (w : World) (K : PySem.W.Frag) (mg : Str → Option Value) (base : Heap) (A : Around) (outer : List Env) (s : Shared) (H : Hp) : Prop where
  frames : A.frames = some outer
  mod : Mod K mg base
  bs : ∀ b o, base.get? b = some o → s.heap.get? b = some o ∧ H b = none
  bsz : base.objs.size ≤ s.heap.objs.size
  funs : s.heap.FunFrames base outer
  frf : ∀ b ∈ frs outer, H b = none
  hok : HOk P w H s.heap
  bare : AllBare s.gens
/-- a call's end -/
def CE (outer : List Env) (P : Program) (w : World) (H : Hp) (s : Shared) (Q : VK) (u : Value) (s' : Shared) : Prop :=
  ∃ v H', s'.os = s.os ∧ AllBare s'.gens ∧ Un (frs outer) [] H H' s.heap s'.heap ∧ HOk P w H' s'.heap ∧ RelV v u ∧ Q v H'
def CR (CX : CXT) (outer : List Env) (P : Program) (w : World) (H : Hp) (s : Shared) (Q : VK) (E : XK) (r : Result) (s' : Shared) : Prop :=
  match r with
  | .ok (.ret u) => CE outer P w H s Q u s'
  | .ok _ => False
  | .error e => CX outer H s E e s'
structure FnOk (P : Program) (w : World) (K : PySem.W.Frag) (mg : Str → Option Value) (base : Heap) (CX : CXT) (k : Nat) (f : Addr) (fd : FuncData) (ps : List Str) (sp : Sp) : Prop where
  len : ∀ vs H Q E, sp vs H Q E → vs.length = ps.length
  run : ∀ (A : Around) (outer : List Env) (s : Shared) (H : Hp) (args : Args) (us : List Value) (vs : List V) (Q : VK) (E : XK), Room k A → Env0 P w K mg base A outer s H → BindsTo s fd args (ps.zip us) → Vals vs us → sp vs H Q E →
    codeAny (model P w) A (.call (.ref f) args) (CR CX outer P w H s Q E) s
/-- a weaker promise -/
theorem FnOk.imp {P : Program} {w : World} {K : PySem.W.Frag} {mg : Str → Option Value} {base : Heap} {CX : CXT} {k : Nat} {f : Addr} {fd : FuncData} {ps : List Str} {sp sp' : Sp} (F : FnOk P w K mg base CX k f fd ps sp)
    (h : ∀ vs H Q E, sp' vs H Q E → sp vs H Q E) : FnOk P w K mg base CX k f fd ps sp' :=
  ⟨fun vs H Q E q => F.len vs H Q E (h _ _ _ _ q), fun A outer s H args us vs Q E hr he hb hv hs => F.run A outer s H args us vs Q E hr he hb hv (h _ _ _ _ hs)⟩

section
variable {X : Cx} {pins : List (Addr × Obj)} {σ : St} {H : Hp} {s s' : Shared}
/-- from a body: what a callee wants -/
theorem Inv.env0 (I : Inv X pins σ H s) : Env0 X.prog X.w X.K X.mg X.base X.A X.stack s H :=
  ⟨I.ok.frames, I.ok.mod, I.bs, Nat.le_trans I.ok.bsz I.sz, I.stack, I.stkFree, I.hok, I.bare⟩
/-- behind a call -/
theorem Inv.after {Q : VK} {u : Value} (I : Inv X pins σ H s) (h : CE X.stack X.prog X.w H s Q u s') : EP X pins σ Q u s' := by
  obtain ⟨v, H', os, bare, un, hok, r, q⟩ := h
  obtain ⟨hh, g, d, t, os'⟩ := s'
  obtain rfl : os' = s.os := os
  exact ⟨v, H', I.call (h' := hh) (g' := g) (d' := d) (t' := t) (ch := []) un hok bare (fun b z => absurd z (by simp)), r, q⟩
end

/-! ### calls -/
/-- f(..): the written arguments, then the defaults dvs; E: what is wanted of an exception -/
def tCall (sp : Sp) (dvs : List V) (E : XK) (t : TA) : TE := fun σ H Q => t σ H fun vs H1 => sp (vs ++ dvs) H1 Q E
/-- how the parameters are bound: us the positional arguments, kw the keywords' values by name, ds the defaults that fill up -/
def Binds (K : PySem.W.Frag) (fd : FuncData) (ps : List Str) (ds : List Value) : Prop :=
  ∀ (s : Shared) (us : List Value), K.In s.heap → (us ++ ds).length = ps.length → BindsTo s fd ⟨us, []⟩ (ps.zip (us ++ ds))
/-- every parameter is given -/
theorem Binds.all {K : PySem.W.Frag} {fd : FuncData} {ps : List Str} (h : ∀ us : List Value, us.length = ps.length → bindArgs fd ⟨us, []⟩ = pure (ps.zip us)) : Binds K fd ps [] := fun s us _ hl => by
  rw [List.append_nil] at hl ⊢
  exact .of_eq (h us hl)

/-- an exception of a callee reaches what this body wants of exceptions -/
def Passes (CX : CXT) (X : Cx) (E : XK) : Prop := ∀ (pins : List (Addr × Obj)) (σ : St) (H : Hp) (s : Shared) (e : Value) (s' : Shared), Inv X pins σ H s → CX X.stack H s E e s' → X.xe e s'

section
variable {X : Cx} {CX : CXT} {k : Nat} {f C : Addr} {fd : FuncData} {ps : List Str} {sp : Sp} {dvs : List V} {ds : List Value} {E : XK} {x m : Str} {p pos apos : Pos} {e o : Expr} {es : List Expr} {ta : TE} {t : TA}

/-- the callee runs -/
theorem run_fn {pins : List (Addr × Obj)} {σ : St} {H : Hp} {s : Shared} {Q : VK} {us : List Value} {vs : List V} (F : FnOk X.prog X.w X.K X.mg X.base CX k f fd ps sp) (hr : Room k X.A) (hb : Binds X.K fd ps ds) (hd : Vals dvs ds) (hx : Passes CX X E)
    (I : Inv X pins σ H s) (r : Vals vs us) (h : sp (vs ++ dvs) H Q E) : wpAny (model X.prog X.w) X.A (call (.ref f) us) (EP X pins σ Q) X.xe s := by
  have r2 : Vals (vs ++ dvs) (us ++ ds) := r.append hd
  have hl : (us ++ ds).length = ps.length := by rw [← r2.length]; exact F.len _ _ _ _ h
  refine wpAny_call (codeAny_mono (F.run X.A X.stack s H ⟨us, []⟩ (us ++ ds) (vs ++ dvs) Q E hr I.env0 (hb s us I.kIn hl) r2 h) fun r s' hq => ?_)
  cases r with
  | error e => exact hx pins σ H s e s' I hq
  | ok fl =>
    cases fl with
    | ret u => exact I.after hq
    | next => exact False.elim hq
    | brk => exact False.elim hq
    | cont => exact False.elim hq

theorem pe_call (F : FnOk X.prog X.w X.K X.mg X.base CX k f fd ps sp) (hr : Room k X.A) (hg : Gl X x) (hm : X.mg x = some (.ref f)) (hk : PySem.W.keepIn X.K (.ref f) = true) (hb : Binds X.K fd ps ds) (hd : Vals dvs ds) (hx : Passes CX X E)
    (ha : PA X (e :: es) t) (hdb : (x == ("__debug__" : Str)) = false := by decide) (he : starEach (e :: es) X.env = (false, eval e X.env) :: starEach es X.env := by rfl) (hpl : (backTo pos (starEach es X.env)).any (·.1) = false := by rfl) :
    PE X (.Call (.Name x p) (e :: es) [] pos) (tCall sp dvs E t) := by
  intro pins s σ H Q I h
  refine wpAny_Call_Name_kw (ld_glob I hg hm ?_ hdb)
  refine PySem.W.callWith_K (h₀ := X.base) I.ok.mod.kin hk (thn (ha pos pins s σ H _ I h) fun us s1 ⟨vs, H1, I1, r, q⟩ => ⟨I1.kIn, ?_⟩) he hpl
  exact run_fn F hr hb hd hx I1 r q
end

/-! ### keywords -/
section
variable {X : Cx} {CX : CXT} {k : Nat} {f C : Addr} {fd : FuncData} {ps ks : List Str} {sp : Sp} {E : XK} {x m : Str} {p pos apos kpos : Pos} {e o : Expr} {es : List Expr} {kws : List Keyword} {te ta : TE} {t tk : TA} {nm : Option Str}
variable {g : List Value → List Value → List Value} {gV : List V → List V → List V}
end

/-! ### a def's body keeps its promise -/
/-- names: the parameters first -/
structure FnScope (N P : List Str) (sc : Scope) : Prop where
  kind : sc.kind = .function
  co : sc.isCoroutine = false
  gen : sc.isGenerator = false
  nd : N.Nodup
  pre : N.take P.length = P
  par : ∀ x ∈ P, sc.names.lookup x = some .local ∨ sc.names.lookup x = some .cell
  nofree : ∀ y ∈ sc.names, y.2 ≠ .free

theorem bindL_out {kindOf : Str → Option NameKind} {x : Str} : ∀ {binds : List (Str × Value)} {m : Str → Option Value}, (∀ v, (x, v) ∉ binds) → bindL kindOf binds m x = m x
  | [], _, _ => rfl
  | (n, v) :: r, m, h => by
    unfold bindL
    rw [bindL_out fun w hw => h w (List.mem_cons_of_mem _ hw)]
    split
    · have : x ≠ n := by rintro rfl; exact h v List.mem_cons_self
      simp [this]
    · rfl
theorem bindC_out {kindOf : Str → Option NameKind} {x : Str} : ∀ {binds : List (Str × Value)} {m : Str → Option Value}, (∀ v, (x, v) ∉ binds) → bindC kindOf binds m x = m x
  | [], _, _ => rfl
  | (n, v) :: r, m, h => by
    unfold bindC
    rw [bindC_out fun w hw => h w (List.mem_cons_of_mem _ hw)]
    split
    · rfl
    · have : x ≠ n := by rintro rfl; exact h v List.mem_cons_self
      simp [this]
theorem bindL_get {kindOf : Str → Option NameKind} {x : Str} {v : Value} : ∀ {P : List Str} {vs : List Value} {i : Nat} {m : Str → Option Value}, P.Nodup → P[i]? = some x → vs[i]? = some v → kindOf x = some .local →
    bindL kindOf (P.zip vs) m x = some v
  | [], _, _, _, _, h, _, _ => by simp at h
  | _ :: _, [], _, _, _, _, h, _ => by simp at h
  | p :: P, w :: vs, 0, m, nd, h1, h2, hk => by
    simp at h1 h2; subst h1; subst h2
    show bindL kindOf ((p, w) :: P.zip vs) m p = _
    unfold bindL
    rw [bindL_out fun v hv => (List.nodup_cons.mp nd).1 (List.of_mem_zip hv).1, if_pos hk]
    simp
  | p :: P, w :: vs, i + 1, m, nd, h1, h2, hk => by
    show bindL kindOf ((p, w) :: P.zip vs) m x = _
    unfold bindL
    exact bindL_get (i := i) (List.nodup_cons.mp nd).2 (by simpa using h1) (by simpa using h2) hk
theorem bindC_get {kindOf : Str → Option NameKind} {x : Str} {v : Value} : ∀ {P : List Str} {vs : List Value} {i : Nat} {m : Str → Option Value}, P.Nodup → P[i]? = some x → vs[i]? = some v → kindOf x ≠ some .local →
    bindC kindOf (P.zip vs) m x = some v
  | [], _, _, _, _, h, _, _ => by simp at h
  | _ :: _, [], _, _, _, _, h, _ => by simp at h
  | p :: P, w :: vs, 0, m, nd, h1, h2, hk => by
    simp at h1 h2; subst h1; subst h2
    show bindC kindOf ((p, w) :: P.zip vs) m p = _
    unfold bindC
    rw [bindC_out fun v hv => (List.nodup_cons.mp nd).1 (List.of_mem_zip hv).1, if_neg hk]
    simp
  | p :: P, w :: vs, i + 1, m, nd, h1, h2, hk => by
    show bindC kindOf ((p, w) :: P.zip vs) m x = _
    unfold bindC
    exact bindC_get (i := i) (List.nodup_cons.mp nd).2 (by simpa using h1) (by simpa using h2) hk

/-- the names' values at the entry -/
def start (N : List Str) (vs : List V) : St := vs.map some ++ List.replicate (N.length - vs.length) none

/-- the context of a def's body, at its entry; an exception leaves the frame, then lies as CX says -/
def cxOf (CX : CXT) (P : Program) (w : World) (K : PySem.W.Frag) (mg : Str → Option Value) (base : Heap) (N : List Str) (qual : Str) (scope : Scope) (f : Addr) (cd : Value) (A : Around) (outer : List Env) (s : Shared) (H : Hp) (E : XK) : Cx where
  prog := P
  w := w
  K := K
  mg := mg
  base := base
  A := A.deeper (envOfC qual scope s.heap.objs.size f cd)
  N := N
  s₀ := s
  H₀ := H
  env := envOfC qual scope s.heap.objs.size f cd
  outer := outer
  stack := envOfC qual scope s.heap.objs.size f cd :: outer
  ex := []
  calm := true
  fn := fun _ => true
  pn := []
  xe := fun e s' => wpAny (model P w) (A.deeper (envOfC qual scope s.heap.objs.size f cd)) (leaving (envOfC qual scope s.heap.objs.size f cd) e) (fun _ s'' => CX outer H s E e s'') (fun e' s'' => CX outer H s E e' s'') s'

theorem cell_has {sc : Scope} {n : Nat} {x : Str} (h : sc.names.lookup x = some .cell) : ∃ c, (cellsFrom n sc.names []).lookup x = some c := by
  have q := PySem.W.cellsFrom_some sc.names n [] (.inl h)
  exact Option.isSome_iff_exists.mp q

theorem inv_start {CX : CXT} {P : Program} {w : World} {K : PySem.W.Frag} {mg : Str → Option Value} {base : Heap} {N ps : List Str} {qual : Str} {scope : Scope} {f : Addr} {cd : Value} {A : Around} {outer : List Env} {s s1 : Shared} {H : Hp} {E : XK} {us : List Value} {vs : List V}
    (S : FnScope N ps scope) (hd : A.handled = none) (e0 : Env0 P w K mg base A outer s H) (hl : vs.length = ps.length) (r : Vals vs us)
    (x : InCallC s s.heap.objs.size (bindL (envOfC qual scope s.heap.objs.size f cd).kindOf (ps.zip us) fun _ => none) (cellsFrom (s.heap.objs.size + 1) scope.names []) (bindC (envOfC qual scope s.heap.objs.size f cd).kindOf (ps.zip us) fun _ => none) s1) :
    Inv (cxOf CX P w K mg base N qual scope f cd A outer s H E) [] (start N vs) H s1 := by
  have hpl : ps.length ≤ N.length := by have := congrArg List.length S.pre; rw [List.length_take] at this; omega
  obtain ⟨h1, tk, rfl, hk⟩ := x.done
  have noA : ∀ b : Addr, b ∉ (cxOf CX P w K mg base N qual scope f cd A outer s H E).ex := fun b z => absurd (show b ∈ ([] : List Addr) from z) (by simp)
  refine ⟨⟨e0.mod, S.kind, rfl, rfl, Nat.le_refl _, fun y z c h1 h2 => ?_, fun y hy => ?_, fun y c _ h => ?_, fun _ => hd, Around.frames_deeper e0.frames, .inr ⟨rfl, rfl⟩, fun b z => absurd z (noA b), e0.bs, e0.bsz, fun b _ _ => noA b, fun b z => absurd z (noA b), e0.funs, e0.frf⟩,
    rfl, e0.bare, Un.kept hk, ⟨_, x.toInCall.ns, fun i y v h1 h2 h3 => ?_⟩, fun y c h => ⟨_, x.cell y c h⟩, e0.hok.fresh (Nat.le_refl _), fun y c h => ?_, fun p hp => absurd (show p ∈ ([] : List (Addr × Obj)) from hp) (by simp), e0.hok.kept hk, ?_⟩
  · exact name_of_addr x.apart (PySem.mem_of_lookup h1) (PySem.mem_of_lookup h2)
  · have hy : scope.names.lookup y = some .cell ∨ scope.names.lookup y = some .free := hy
    rcases hy with hy | hy
    · exact cell_has hy
    · exact absurd rfl (S.nofree _ (PySem.mem_of_lookup hy))
  · exact Nat.le_of_lt (x.above y c (PySem.mem_of_lookup h))
  · have hi : i < vs.length := by
      unfold start at h2
      by_cases hi : i < vs.length
      · exact hi
      · rw [List.getElem?_append_right (by simpa using hi)] at h2
        rw [List.getElem?_replicate] at h2
        split at h2 <;> cases h2
    have ha : vs[i]? = some v := by
      unfold start at h2
      rw [List.getElem?_append_left (by simpa using hi), List.getElem?_map] at h2
      cases e : vs[i]? with
      | none => rw [e] at h2; cases h2
      | some a => rw [e] at h2; cases h2; rfl
    obtain ⟨u, hu, rv⟩ := r.get ha
    have hp : ps[i]? = some y := by
      rw [← S.pre, List.getElem?_take_of_lt (by omega)]; exact h1
    have ndP : ps.Nodup := by rw [← S.pre]; exact S.nd.sublist (List.take_sublist _ _)
    refine ⟨u, rv, ?_⟩
    rcases S.par y (List.mem_of_getElem? hp) with k | k
    · exact .inl ⟨k, bindL_get ndP hp hu k⟩
    · obtain ⟨c, e⟩ := cell_has (n := s.heap.objs.size + 1) k
      refine .inr ⟨.inl k, c, e, ?_⟩
      have q := x.cell y c e
      rw [bindC_get ndP hp hu (by show scope.names.lookup y ≠ _; rw [k]; decide)] at q
      exact q
  · exact e0.hok.fresh (Nat.le_of_lt (x.above y c (PySem.mem_of_lookup h)))
  · unfold start
    show _ = N.length
    rw [List.length_append, List.length_map, List.length_replicate]
    omega

/-- THE RULE: a def (or a method) of the text, by its body. The body's reading t is chosen for each entry; it is run at the parameters' values -/
theorem fn_of {CX : CXT} {P : Program} {w : World} {K : PySem.W.Frag} {mg : Str → Option Value} {base : Heap} {k : Nat} {f : Addr} {name qual : Str} {params : Arguments} {body : List Stmt} {scope : Scope} {dV kV doc pm cdv ct oc : Value} {an od : Option Addr}
    {osl : Array (Option Value)} {N ps : List Str} {sp : Sp} (lk : K.lookup f = some ⟨oc, od, .func (PySem.W.fnOf name qual params body scope dV kV doc pm an cdv ct), osl⟩) (hcd : PySem.W.codeIn K cdv qual = true) (S : FnScope N ps scope)
    (len : ∀ vs H Q E, sp vs H Q E → vs.length = ps.length)
    (hbody : ∀ (A : Around) (outer : List Env) (s : Shared) (H : Hp) (vs : List V) (Q : VK) (E : XK), Room k (A.deeper (envOfC qual scope s.heap.objs.size f cdv)) → sp vs H Q E →
      ∃ t, PSs (cxOf CX P w K mg base N qual scope f cdv A outer s H E) body t ∧ t { nx := fun _ H' => Q .non H', rt := Q } (start N vs) H) :
    FnOk P w K mg base CX (k + 1) f (PySem.W.fnOf name qual params body scope dV kV doc pm an cdv ct) ps sp := by
  refine ⟨len, fun A outer s H args us vs Q E hr e0 hb r hsp => ?_⟩
  have hl := len _ _ _ _ hsp
  have KX : K.In s.heap := e0.mod.kin.keeps fun b o e => (e0.bs b o e).1
  have lim : s.heap.NoLimit := e0.mod.nolimit.keeps fun b o e => (e0.bs b o e).1
  have hkind : ∀ y ∈ ps.zip us, scope.names.lookup y.1 = some .local ∨ (scope.names.lookup y.1 = some .cell ∧ ((cellsFrom (s.heap.objs.size + 1) scope.names []).lookup y.1).isSome = true) := fun ⟨n, v⟩ hy => by
    rcases S.par n (List.of_mem_zip hy).1 with q | q
    · exact .inl q
    · exact .inr ⟨q, PySem.W.cellsFrom_some _ _ _ (.inl q)⟩
  refine codeAny_call_function hr.depth (KX _ _ lk) rfl S.co S.gen rfl (PySem.W.codeRec_of KX hcd) (hb _ _ _ _ ?_)
  refine wpAny_newFunctionEnv_cells S.kind hkind fun env he s1 x => ?_
  subst he
  refine ⟨lim.keeps x.toInCall.keep, codeAny_func ?_⟩
  obtain ⟨t, ht, hq⟩ := hbody A outer s H vs Q E (hr.deeper _) hsp
  have I : Inv (cxOf CX P w K mg base N qual scope f cdv A outer s H E) [] (start N vs) H s1 := inv_start S hr.hd e0 hl r x
  refine wpAny_mono (ht [] s1 (start N vs) H _ I hq) (fun fl s' hs => ?_) fun e s' hs => hs
  have fin : ∀ {σ' : St} {H' : Hp} {v : V} {u : Value}, Inv (cxOf CX P w K mg base N qual scope f cdv A outer s H E) [] σ' H' s' → RelV v u → Q v H' → CE outer P w H s Q u s' :=
    fun {σ' H' v u} J rv q => ⟨v, H', J.os, J.bare, J.base, J.hok, rv, q⟩
  cases fl with
  | ret u =>
    obtain ⟨v, σ', H', J, rv, q⟩ := hs
    exact fin J rv q
  | next =>
    obtain ⟨σ', H', J, q⟩ := hs
    exact fin (v := V.non) (u := Value.none) J rfl q
  | brk =>
    obtain ⟨_, _, _, q⟩ := hs
    exact False.elim q
  | cont =>
    obtain ⟨_, _, _, q⟩ := hs
    exact False.elim q
end L2

namespace L2
open PySem PySem.Spec PyProof.Rows
section
variable {X : Cx} {x : Str} {p pos : Pos} {e : Expr} {es : List Expr} {t : TA} {id T : String} {r : List V → Hp → VK → Prop}

def tCB (r : List V → Hp → VK → Prop) (t : TA) : TE := fun σ H Q => t σ H fun vs H1 => r vs H1 Q
/-- f(e, ..), f a built-in function -/
theorem pe_callB (hc : CallR X (.builtin id) r) (hg : Gl X x) (hm : X.mg x = none) (hv : bootBuiltins x = some (.builtin id)) (ha : PA X (e :: es) t) (hn : x ≠ "__name__" := by decide) (hdb : (x == ("__debug__" : Str)) = false := by decide)
    (he : starEach (e :: es) X.env = (false, eval e X.env) :: starEach es X.env := by rfl) (hpl : (backTo pos (starEach es X.env)).any (·.1) = false := by rfl) : PE X (.Call (.Name x p) (e :: es) [] pos) (tCB r t) := by
  intro pins s σ H Q I h
  refine wpAny_Call_Name_kw (ld_blt I hg hm hv ?_ hn hdb)
  exact PyProof.Rows.callWith_builtin1 (thn (ha pos pins s σ H _ I h) fun us s1 ⟨vs, H1, I1, r1, q1⟩ => hc pins s1 σ H1 vs us Q I1 r1 q1) he hpl
/-- T(e, ..), T a built-in type -/
theorem pe_callTy (hc : CallR X (.type T) r) (hg : Gl X x) (hm : X.mg x = none) (hv : bootBuiltins x = some (.type T)) (ha : PA X (e :: es) t) (hn : x ≠ "__name__" := by decide) (hdb : (x == ("__debug__" : Str)) = false := by decide)
    (he : starEach (e :: es) X.env = (false, eval e X.env) :: starEach es X.env := by rfl) (hpl : (backTo pos (starEach es X.env)).any (·.1) = false := by rfl) : PE X (.Call (.Name x p) (e :: es) [] pos) (tCB r t) := by
  intro pins s σ H Q I h
  refine wpAny_Call_Name_kw (ld_blt I hg hm hv ?_ hn hdb)
  exact PyProof.Rows.callWith_type1 (thn (ha pos pins s σ H _ I h) fun us s1 ⟨vs, H1, I1, r1, q1⟩ => hc pins s1 σ H1 vs us Q I1 r1 q1) he hpl
end
end L2

namespace HT
open PySem PyProof.Rows

section
open PySem.SeqAt
open PySem.AutoSeq1 (wpAny_loadPart')
open PySem.MeetsSeq PySem.MeetsSeq2 PySem.MeetsSeq3

end

section
variable {prog : Program} {w : World} {A : Around} {E : Value → Shared → Prop} {s : Shared}

/-- t + u, t not empty -/
theorem cat_tup {t b : Addr} {vs ws : List Value} {Q : Value → Shared → Prop} (ht : IsTup s.heap t vs.toArray) (hb : IsTup s.heap b ws.toArray) (hv : vs ≠ [])
    (h1 : ws = [] → Q (.ref t) s) (h2 : ws ≠ [] → Q (.ref s.heap.objs.size) { s with heap := s.heap.push { cls := .type "tuple", data := .seq (vs ++ ws).toArray } })
    (hsz : vs.length + ws.length ≤ sizeLine) : wpAny (model prog w) A (binaryOp .Add (.ref t) (.ref b)) Q E s := by
  obtain ⟨⟨cls, dd, data, sl⟩, ho, hc, n, hd⟩ := id ht
  obtain ⟨⟨cls2, dd2, data2, sl2⟩, ho2, hc2, n2, hd2⟩ := id hb
  simp only at hc hd hc2 hd2
  subst hc hd hc2 hd2
  have e : vs.toArray ++ ws.toArray = (vs ++ ws).toArray := by simp
  by_cases hw : ws = []
  · exact concat_meets ⟨_, ho, rfl⟩ ⟨_, ho2, rfl⟩ noFill_tuple_add seq_tuple_add PySem.F.slot_tuple_add PySem.F.entry_tuple_add (PySem.F.args_tuple_add_2 _ _)
      (tuple_addW1 t b vs.toArray ws.toArray n n2 dd dd2 sl sl2 (by simpa using hv) (by simp [hw])) ⟨ho, ho2, h1 hw⟩
  · refine concat_meets ⟨_, ho, rfl⟩ ⟨_, ho2, rfl⟩ noFill_tuple_add seq_tuple_add PySem.F.slot_tuple_add PySem.F.entry_tuple_add (PySem.F.args_tuple_add_2 _ _)
      (tuple_addW2 t b vs.toArray ws.toArray n n2 dd dd2 sl sl2 (by simpa using hv) (by simpa using hw) (by rw [List.size_toArray, List.size_toArray]; exact hsz)) ⟨ho, ho2, ?_⟩
    rw [e]
    exact h2 hw

/-! ### t[a:b], not the whole -/
/-- a slice's bound as a place among n (d where it is left out) -/
def sIx (n d : Nat) : Option Int → Nat
  | none => d
  | some v => if v < 0 then (v + (n : Int)).toNat else min v.toNat n
theorem sIx_none (n d : Nat) : sIx n d none = d := rfl
theorem sIx_nat (n d k : Nat) : sIx n d (some (k : Int)) = min k n := by
  show (if (k : Int) < 0 then ((k : Int) + (n : Int)).toNat else min (k : Int).toNat n) = min k n
  rw [if_neg (by omega), Int.toNat_natCast]
end
end HT

namespace L2
open PySem PySem.Spec PyProof.Rows

/-! ### the parts of a slice -/
abbrev TO := St → Hp → (Option Int → Hp → Prop) → Prop
/-- a slice's part (left out, or an int) -/
def PO (X : Cx) (e : Option Expr) (t : TO) : Prop :=
  ∀ (pins : List (Addr × Obj)) (s : Shared) (σ : St) (H : Hp) (Q : Option Int → Hp → Prop), Inv X pins σ H s → t σ H Q →
    wpAny (model X.prog X.w) X.A (evalPart e X.env) (fun u s' => ∃ o H', Inv X pins σ H' s' ∧ IsPart u o ∧ Q o H') X.xe s
def tNoPart : TO := fun _ H Q => Q none H
def tPart (t : TE) : TO := fun σ H Q => t σ H fun x H1 => ∃ i, x = .int i ∧ Q (some i) H1

section
variable {X : Cx} {e : Expr} {te : TE} {lo hi : Option Expr} {tl th : TO} {pos p2 : Pos}

theorem po_none : PO X none tNoPart := by
  intro pins s σ H Q I h
  rw [evalPart_none]
  exact wpAny_pure ⟨none, H, I, .none, h⟩
theorem po_some (h : PE X e te) : PO X (some e) (tPart te) := by
  intro pins s σ H Q I hw
  rw [evalPart_some]
  refine thn (h pins s σ H _ I hw) fun u s1 ⟨x, H1, I1, r1, q1⟩ => ?_
  obtain ⟨i, rfl, q⟩ := q1
  obtain ⟨t, rfl⟩ := r1
  exact ⟨some i, H1, I1, .int i t, q⟩

/-- what a slice of a value is, by values: the slice object stands at sl -/
def SlR (X : Cx) (r : V → Option Int → Option Int → Hp → VK → Prop) : Prop :=
  ∀ (pins : List (Addr × Obj)) (s : Shared) (σ : St) (H : Hp) (x : V) (v vl vu : Value) (lo hi : Option Int) (sl : Addr) (Q : VK), Inv X pins σ H s → RelV x v → s.heap.IsSliceOf sl vl vu .none → IsPart vl lo → IsPart vu hi → r x lo hi H Q →
    ∃ T id, typeLookup (.type T) "__getitem__" = pure (some (.builtin id)) ∧ s.TypeIs v T ∧ wpAny (model X.prog X.w) X.A (getItem v (.ref sl)) (EP X pins σ Q) X.xe s
def tSl (r : V → Option Int → Option Int → Hp → VK → Prop) (te : TE) (tl th : TO) : TE := fun σ H Q => te σ H fun x H1 => tl σ H1 fun l H2 => th σ H2 fun u H3 => r x l u H3 Q
/-- a[lo:hi], any a -/
theorem pe_slice {r : V → Option Int → Option Int → Hp → VK → Prop} (hr : SlR X r) (he : PE X e te) (hl : PO X lo tl) (hu : PO X hi th) : PE X (.Subscript e (.Slice lo hi none p2) pos) (tSl r te tl th) := by
  intro pins s σ H Q I h
  refine Subscript_ (thn (he pins s σ H _ I h) fun v s1 ⟨x, H1, I1, r1, q1⟩ => ?_)
  refine wpAny_Slice (thn (hl pins s1 σ H1 _ I1 q1) fun vl s2 ⟨l, H2, I2, pl, q2⟩ => thn (hu pins s2 σ H2 _ I2 q2) fun vu s3 ⟨u, H3, I3, pu, q3⟩ => ?_)
  rw [evalPart_none]
  refine wpAny_pure ?_
  have I4 : Inv X pins σ H3 { s3 with heap := s3.heap.push { cls := .type "slice", data := .fields #[vl, vu, .none] } } := I3.kept (t' := s3.toks) fun b ob q => Heap.get?_push_of_some _ q
  obtain ⟨T, id, hT, ht, hg⟩ := hr pins { s3 with heap := s3.heap.push { cls := .type "slice", data := .fields #[vl, vu, .none] } } σ H3 x v vl vu l u s3.heap.objs.size Q I4 r1 (Heap.IsSliceOf.new ..) pl pu q3
  show wpAny (model X.prog X.w) X.A (subscriptTail e (.Slice lo hi none p2) v (.ref s3.heap.objs.size)) (EP X pins σ Q) X.xe { s3 with heap := s3.heap.push { cls := .type "slice", data := .fields #[vl, vu, .none] } }
  exact tail_any (ops := [.ref s3.heap.objs.size, v]) ht hT hg (by with_unfolding_all rfl)

/-- the items of xs[lo:hi] -/
def cutV (xs : List V) (lo hi : Option Int) : List V := (xs.drop (HT.sIx xs.length 0 lo)).take (HT.sIx xs.length xs.length hi - HT.sIx xs.length 0 lo)
theorem cutV_length (xs : List V) (lo hi : Option Int) : (cutV xs lo hi).length ≤ xs.length := by
  unfold cutV
  rw [List.length_take, List.length_drop]
  omega
/-! ### t < u, t + u -/
/-- t + u, t not empty: u empty gives t itself -/
def rCatT (K : PySem.W.Frag) : R2 := fun x y H Q => ∃ a b xs ys, x = .ref a ∧ y = .ref b ∧ SqT K H a xs ∧ SqT K H b ys ∧ xs ≠ [] ∧ xs.length + ys.length ≤ sizeLine ∧
  (ys = [] → Q (.ref a) H) ∧ (ys ≠ [] → ∀ p, H p = none → Q (.ref p) (upd H p (.tup (xs ++ ys))))
theorem Vals.nil_iff {xs : List V} {us : List Value} (r : Vals xs us) : us = [] ↔ xs = [] := by
  cases r with
  | nil => simp
  | cons _ _ => simp
theorem op_catT : OpR X (binaryOp .Add) (rCatT X.K) := by
  intro pins s σ H x y v u Q I rx ry h
  obtain ⟨a, b, xs, ys, rfl, rfl, ha, hb, hx, hz, q1, q2⟩ := h
  cases rx
  cases ry
  obtain ⟨its, r1, p1, _⟩ := I.tuple ha
  obtain ⟨its2, r2, p2, _⟩ := I.tuple hb
  refine HT.cat_tup p1 p2 (fun z => hx (r1.nil_iff.mp z)) (fun z => ⟨.ref a, H, I, rfl, q1 (r2.nil_iff.mp z)⟩) (fun z => ?_) (by rw [← r1.length, ← r2.length]; exact hz)
  refine ⟨.ref s.heap.objs.size, _, I.laid (t' := s.toks) (o := .tup (xs ++ ys)) (fun b ob q => Heap.get?_push_of_some _ q) (Nat.le_refl _) ?_, rfl, q2 (fun w => z (r2.nil_iff.mpr w)) _ (I.hok.fresh (Nat.le_refl _))⟩
  exact ⟨by rw [List.length_append]; exact hz, _, r1.append r2, IsTup.new _ _⟩
end
end L2

namespace L2
open PySem PySem.Spec PyProof.Rows

/-! ### places -/
/-- the place that an index of any sign means -/
def ixN (n : Nat) (i : Int) : Option Nat := if 0 ≤ i then (if i < n then some i.toNat else none) else if -(n : Int) ≤ i then some (i + n).toNat else none
def atI {α : Type} (xs : List α) (i : Int) : Option α := (ixN xs.length i).bind fun j => xs[j]?
theorem ixN_seq {n : Nat} {i : Int} {j : Nat} (h : ixN n i = some j) : seqIndex? i n = some j ∧ j < n ∧ -(n : Int) ≤ i ∧ i < n := by
  unfold ixN at h
  by_cases h0 : 0 ≤ i
  · rw [if_pos h0] at h
    by_cases h1 : i < n
    · rw [if_pos h1] at h
      have e : i.toNat = j := Option.some.inj h
      exact ⟨by rw [seqIndex_of h0 h1, e], by omega, by omega, h1⟩
    · rw [if_neg h1] at h; cases h
  · rw [if_neg h0] at h
    by_cases h1 : -(n : Int) ≤ i
    · rw [if_pos h1] at h
      have e : (i + n).toNat = j := Option.some.inj h
      exact ⟨by rw [seqIndex_neg (by omega) h1, e], by omega, h1, by omega⟩
    · rw [if_neg h1] at h; cases h
theorem atI_get {α : Type} {xs : List α} {i : Int} {v : α} (h : atI xs i = some v) : ∃ j, seqIndex? i xs.length = some j ∧ xs[j]? = some v ∧ j < xs.length ∧ -(xs.length : Int) ≤ i ∧ i < xs.length := by
  unfold atI at h
  cases e : ixN xs.length i with
  | none => rw [e] at h; cases h
  | some j =>
    rw [e] at h
    obtain ⟨h1, h2, h3, h4⟩ := ixN_seq e
    exact ⟨j, h1, h, h2, h3, h4⟩
theorem atI_nat {α : Type} {xs : List α} {j : Nat} {v : α} (h : xs[j]? = some v) : atI xs (j : Int) = some v := by
  have hj : j < xs.length := (List.getElem?_eq_some_iff.mp h).1
  have e : ixN xs.length (j : Int) = some j := by
    unfold ixN
    rw [if_pos (by omega), if_pos (by omega)]; simp
  unfold atI; rw [e]; exact h
/-! ### what may be subscripted -/
/-- what stands as an index of a plain subscript -/
def PlainIx (b : Expr) : Prop := ∀ o i, subscripted b false o i = operate [o, i] (getItem o i)
/-- a subscript by values -/
def IxR (X : Cx) (r : R2) : Prop :=
  ∀ (value slice : Expr) (pins : List (Addr × Obj)) (s : Shared) (σ : St) (H : Hp) (x y : V) (v u : Value) (Q : VK), Inv X pins σ H s → RelV x v → RelV y u → r x y H Q →
    subscripted slice false v u = operate [v, u] (getItem v u) → wpAny (model X.prog X.w) X.A (subscriptTail value slice v u) (EP X pins σ Q) X.xe s
/-- a call of a builtin's method by values: the receiver, the arguments -/
def MtR (X : Cx) (id : String) (r : V → List V → Hp → VK → Prop) : Prop :=
  ∀ (pins : List (Addr × Obj)) (s : Shared) (σ : St) (H : Hp) (x : V) (xs : List V) (v : Value) (us : List Value) (Q : VK), Inv X pins σ H s → RelV x v → Vals xs us → r x xs H Q →
    wpAny (model X.prog X.w) X.A (call (.builtin id) (v :: us)) (EP X pins σ Q) X.xe s
section
variable {X : Cx} {a b : Expr} {ta tb : TE} {pos : Pos}
theorem IxR.or {r r' : R2} (h : IxR X r) (h' : IxR X r') : IxR X (fun x y H Q => r x y H Q ∨ r' x y H Q) := by
  intro value slice pins s σ H x y v u Q I rx ry q hs
  rcases q with q | q
  · exact h value slice pins s σ H x y v u Q I rx ry q hs
  · exact h' value slice pins s σ H x y v u Q I rx ry q hs
/-- a[b] -/
theorem pe_ix {r : R2} (hr : IxR X r) (ha : PE X a ta) (hb : PE X b tb) (hs : PlainIx b) : PE X (.Subscript a b pos) (tOp r ta tb) := by
  intro pins s σ H Q I h
  exact Subscript_ (binT ha hb I h fun v u s2 x y H2 I2 rx ry q => hr a b pins s2 σ H2 x y v u Q I2 rx ry q (hs _ _))

def rIxL (K : PySem.W.Frag) : R2 := fun x y H Q => ∃ p xs i v, x = .ref p ∧ y = .int i ∧ SqL K H p xs ∧ atI xs i = some v ∧ Q v H
def rIxT (K : PySem.W.Frag) : R2 := fun x y H Q => ∃ p xs i v, x = .ref p ∧ y = .int i ∧ SqT K H p xs ∧ atI xs i = some v ∧ Q v H
def rIxS : R2 := fun x y H Q => ∃ z i c, x = .str z ∧ y = .int i ∧ z.length ≤ sizeLine ∧ atI z.cps.toList i = some c ∧ Q (.str ⟨#[c]⟩) H
theorem ix_list : IxR X (rIxL X.K) := by
  intro value slice pins s σ H x y v u Q I rx ry h hs
  obtain ⟨p, xs, i, z, rfl, rfl, hq, he, q⟩ := h
  cases rx
  obtain ⟨t, rfl⟩ := ry
  obtain ⟨its, r, pl, hz⟩ := I.list hq
  obtain ⟨j, h1, h2, h3, h4, h5⟩ := atI_get he
  obtain ⟨w, ew, rw'⟩ := r.get h2
  have hl := r.length
  have hn := line63
  have fin : EP X pins σ Q w s := ⟨z, H, I, rw', q⟩
  by_cases h0 : 0 ≤ i
  · have hj : i.toNat = j := by
      rw [seqIndex_of h0 h5] at h1
      exact Option.some.inj h1
    exact item_listR pl.isList h0 (by omega) (by rw [hj]; simpa using ew) fin hs
  · have hj : (i + (its.toArray.size : Int)).toNat = j := by
      rw [seqIndex_neg (by omega) h4] at h1
      rw [List.size_toArray, ← hl]
      exact Option.some.inj h1
    exact subscriptTail_builtinR (x := w) pl.isList.typeIs slot_list_getitem.lookup
      (wpAny_getItem_list_neg (Q := fun r s' => r = w ∧ EP X pins σ Q r s') pl.isList (by omega) (by rw [List.size_toArray] <;> omega) (by omega) (by rw [hj]; simpa using ew) ⟨rfl, fin⟩) hs
theorem ix_tup : IxR X (rIxT X.K) := by
  intro value slice pins s σ H x y v u Q I rx ry h hs
  obtain ⟨p, xs, i, z, rfl, rfl, hq, he, q⟩ := h
  cases rx
  obtain ⟨t, rfl⟩ := ry
  obtain ⟨its, r, pl, hz⟩ := I.tuple hq
  obtain ⟨j, h1, h2, h3, h4, h5⟩ := atI_get he
  obtain ⟨w, ew, rw'⟩ := r.get h2
  have hl := r.length
  have hn := line63
  have fin : EP X pins σ Q w s := ⟨z, H, I, rw', q⟩
  exact subscriptTail_builtinR (x := w) pl.typeIs slot_tuple_getitem.lookup
    (getItem_tuple (j := j) (Q := fun r s' => r = w ∧ EP X pins σ Q r s') pl (by omega) (by omega) (by rw [List.size_toArray, ← hl]; exact h1) (by simpa using ew) ⟨rfl, fin⟩) hs
theorem ix_str : IxR X rIxS := by
  intro value slice pins s σ H x y v u Q I rx ry h hs
  obtain ⟨z, i, c, rfl, rfl, hz, he, q⟩ := h
  obtain ⟨t, rfl⟩ := rx
  obtain ⟨t', rfl⟩ := ry
  obtain ⟨j, h1, h2, h3, h4, h5⟩ := atI_get he
  have hl : z.cps.toList.length = z.length := by simp [Str.length]
  rw [hl] at h1 h4 h5
  have hn := line63
  exact tail_any (typeIs_str s z t) slot_str_getitem.lookup (getItem_str (c := c) (by
    have e1 : decide (i < -(2 ^ 63 : Int)) = false := decide_eq_false (by omega)
    have e2 : decide (i ≥ 2 ^ 63) = false := decide_eq_false (by omega)
    rw [e1, e2, Bool.or_false]) (by rw [h1]; simpa using h2) ⟨.str ⟨#[c]⟩, H, I.tok _, ⟨_, rfl⟩, q⟩) hs
/-- list, tuple or str -/
def rIx (K : PySem.W.Frag) : R2 := fun x y H Q => rIxL K x y H Q ∨ rIxT K x y H Q ∨ rIxS x y H Q
theorem ix_seq : IxR X (rIx X.K) := ix_list.or (ix_tup.or ix_str)

/-! ### xs[i] = v, any sign -/
/-- the list's object behind a store -/
theorem mapSeq_set (its : List Value) (n j : Nat) (u : Value) : Obj.mapSeq (·.setIfInBounds j u) { cls := .type "list", data := .seq its.toArray n } = { cls := .type "list", data := .seq (its.set j u).toArray n } := by
  simp [Obj.mapSeq]
theorem Inv.lst {pins : List (Addr × Obj)} {σ : St} {H : Hp} {s : Shared} {p : Addr} {xs : List V} (I : Inv X pins σ H s) (h : H p = some (.lst xs)) :
    ∃ (its : List Value) (n : Nat), Vals xs its ∧ s.heap.get? p = some { cls := .type "list", data := .seq its.toArray n } ∧ xs.length ≤ sizeLine := by
  obtain ⟨z, its, n, r, e⟩ := I.hok p _ h
  exact ⟨its, n, r, e, z⟩
/-- the list at p is written by an update of its object -/
theorem Inv.lstUpd {pins : List (Addr × Obj)} {σ : St} {H : Hp} {s : Shared} {p : Addr} {xs ys : List V} {its its' : List Value} {n n' : Nat} {f : Obj → Obj} (I : Inv X pins σ H s) (h : H p = some (.lst xs))
    (ho : s.heap.get? p = some { cls := .type "list", data := .seq its.toArray n }) (hf : f { cls := .type "list", data := .seq its.toArray n } = { cls := .type "list", data := .seq its'.toArray n' }) (r : Vals ys its') (hz : ys.length ≤ sizeLine) (t : Nat) :
    Inv X pins σ (upd H p (.lst ys)) { s with heap := s.heap.update p f, toks := t } := by
  have e : (s.heap.update p f).get? p = some { cls := .type "list", data := .seq its'.toArray n' } := by
    rw [Heap.get?_update_self f ho (by rw [hf] <;> rfl), hf]
  refine I.write (x := p) (e := p) (by rw [h]; trivial) (.inl rfl) (fun b u hb q => (Heap.get?_update_other _ _ (Ne.symm hb)).trans q) ⟨_, e⟩ ?_
  exact ⟨hz, its', n', r, e⟩
def rSetL : V → V → V → Hp → (Hp → Prop) → Prop := fun o i v H Q => ∃ p xs k j, o = .ref p ∧ i = .int k ∧ H p = some (.lst xs) ∧ ixN xs.length k = some j ∧ Q (upd H p (.lst (xs.set j v)))
theorem set_list : PSet X rSetL := by
  intro pins s σ H o i v ov iv u Q I ro ri rv h
  obtain ⟨p, xs, k, j, rfl, rfl, hp, hj, q⟩ := h
  cases ro
  obtain ⟨t, rfl⟩ := ri
  obtain ⟨its, n, r, ho, hz⟩ := I.lst hp
  obtain ⟨h1, h2, h3, h4⟩ := ixN_seq hj
  have hl := r.length
  have hn := line63
  have I' : Inv X pins σ (upd H p (.lst (xs.set j v))) { s with heap := s.heap.update p (Obj.mapSeq (·.setIfInBounds j u)) } :=
    I.lstUpd hp ho (mapSeq_set its n j u) (r.set rv j) (by rw [List.length_set]; exact hz) s.toks
  by_cases h0 : 0 ≤ k
  · have hk : k.toNat = j := by
      rw [seqIndex_of h0 h4] at h1
      exact Option.some.inj h1
    exact PySem.W.ki_setAt ho h0 (by omega) (by rw [List.size_toArray, ← hl]; exact h4) (by rw [hk]; exact ⟨_, I', q⟩)
  · have hk : (k + (its.toArray.size : Int)).toNat = j := by
      rw [seqIndex_neg (by omega) h3] at h1
      rw [List.size_toArray, ← hl]
      exact Option.some.inj h1
    exact PySem.W.ki_setBack ho (by omega) (by rw [List.size_toArray, ← hl]; exact h3) (by omega) (by rw [hk]; exact ⟨_, I', q⟩)

/-! ### slices -/
theorem slice_bounds (lo hi : Option Int) (n : Nat) : (sliceBounds lo hi none n).1 = ((HT.sIx n 0 lo : Nat) : Int) ∧ (sliceBounds lo hi none n).2.1 = ((HT.sIx n n hi : Nat) : Int) ∧ (sliceBounds lo hi none n).2.2 = 1 := by
  refine ⟨?_, ?_, rfl⟩
  · cases lo with
    | none => simp [sliceBounds, HT.sIx]
    | some i =>
      simp only [sliceBounds, HT.sIx, Option.getD_none, show (1 : Int) > 0 by decide, if_true]
      by_cases h : i < 0
      · simp only [h, if_true] <;> omega
      · simp only [h, if_false] <;> omega
  · cases hi with
    | none => simp [sliceBounds, HT.sIx]
    | some i =>
      simp only [sliceBounds, HT.sIx, Option.getD_none, show (1 : Int) > 0 by decide, if_true]
      by_cases h : i < 0
      · simp only [h, if_true] <;> omega
      · simp only [h, if_false] <;> omega
theorem slicePick_cut (its : List Value) (lo hi : Option Int) : slicePick its.toArray lo hi none = ((its.drop (HT.sIx its.length 0 lo)).take (HT.sIx its.length its.length hi - HT.sIx its.length 0 lo)).toArray := by
  obtain ⟨h1, h2, h3⟩ := slice_bounds lo hi its.toArray.size
  unfold slicePick
  rw [h1, h2, h3]
  simp only [sliceRange_one, pick_run, List.size_toArray] <;> rfl
/-- xs[lo:hi] of a list: a new list -/
def rSlL (K : PySem.W.Frag) : V → Option Int → Option Int → Hp → VK → Prop := fun x lo hi H Q => ∃ a xs, x = .ref a ∧ SqL K H a xs ∧ ∀ p, H p = none → Q (.ref p) (upd H p (.lst (cutV xs lo hi)))
theorem sl_list : SlR X (rSlL X.K) := by
  intro pins s σ H x v vl vu lo hi sl Q I rx hs pl pu h
  obtain ⟨a, xs, rfl, hx, q⟩ := h
  cases rx
  obtain ⟨its, r, ht, hz⟩ := I.list hx
  have hlen := r.length
  refine ⟨"list", _, slot_list_getitem.lookup, ht.isList.typeIs, ?_⟩
  refine wpAny_getItem_list_slice ht.isList hs pl pu .none (by simp) ?_ (by rw [List.size_toArray] <;> omega)
  rw [slicePick_cut, ← hlen]
  refine ⟨.ref s.heap.objs.size, _, I.laid (t' := s.toks) (o := .lst (cutV xs lo hi)) (fun b ob q => Heap.get?_push_of_some _ q) (Nat.le_refl _) ?_, rfl, q _ (I.hok.fresh (Nat.le_refl _))⟩
  exact ⟨Nat.le_trans (cutV_length xs lo hi) hz, _, 0, (r.drop (HT.sIx xs.length 0 lo)).take (HT.sIx xs.length xs.length hi - HT.sIx xs.length 0 lo), Heap.get?_push_size _ rfl⟩

/-! ### in, not in: flat items -/
/-! ### len, list(x), tuple(x) of any list or tuple that is read -/
theorem call_len_seq : CallR X (.builtin "len") (fun xs H Q => ∃ p ys, xs = [.ref p] ∧ (SqL X.K H p ys ∨ SqT X.K H p ys) ∧ Q (.int ys.length) H) := by
  intro pins s σ H xs us Q I r h
  obtain ⟨p, ys, rfl, hq, q⟩ := h
  obtain ⟨u, rfl, rx⟩ := vals1 r
  cases rx
  have hn := line63
  rcases hq with hq | hq
  · obtain ⟨its, r', pl, hz⟩ := I.list hq
    have hlen := r'.length
    exact Calls.call_len_list pl.isList (by simp only [List.size_toArray] <;> omega) ⟨.int ys.length, H, I.tok _, ⟨s.toks + 1, by rw [List.size_toArray, hlen]⟩, q⟩
  · obtain ⟨its, r', pl, hz⟩ := I.tuple hq
    have hlen := r'.length
    exact len_tuple pl (by simp only [List.size_toArray] <;> omega) ⟨.int ys.length, H, I.tok _, ⟨s.toks + 1, by rw [List.size_toArray, hlen]⟩, q⟩
theorem call_len_str : CallR X (.builtin "len") (fun xs H Q => ∃ z, xs = [.str z] ∧ z.length ≤ sizeLine ∧ Q (.int z.length) H) := by
  intro pins s σ H xs us Q I r h
  obtain ⟨z, rfl, hz, q⟩ := h
  obtain ⟨u, rfl, t, rfl⟩ := vals1 r
  have hn := line63
  exact len_str (by omega) ⟨.int z.length, H, I.tok _, ⟨_, rfl⟩, q⟩
theorem CallR.or {f : Value} {r r' : List V → Hp → VK → Prop} (h : CallR X f r) (h' : CallR X f r') : CallR X f (fun xs H Q => r xs H Q ∨ r' xs H Q) := by
  intro pins s σ H xs us Q I rs q
  rcases q with q | q
  · exact h pins s σ H xs us Q I rs q
  · exact h' pins s σ H xs us Q I rs q
theorem call_list_of : CallR X (.type "list") (fun xs H Q => ∃ p ys, xs = [.ref p] ∧ (SqL X.K H p ys ∨ SqT X.K H p ys) ∧ ∀ l, H l = none → Q (.ref l) (upd H l (.lst ys))) := by
  intro pins s σ H xs us Q I r h
  obtain ⟨p, ys, rfl, hq, q⟩ := h
  obtain ⟨u, rfl, rx⟩ := vals1 r
  cases rx
  have fin : ∀ (its : List Value), Vals ys its → ys.length ≤ sizeLine → ∀ (h' : Heap) (c' : Nat), (∀ b o', s.heap.get? b = some o' → h'.get? b = some o') →
      h'.get? s.heap.objs.size = some { cls := .type "list", dict := none, data := .seq its.toArray c', slots := #[] } → EP X pins σ Q (.ref s.heap.objs.size) { s with heap := h' } := fun its r' hz h' c' kp e =>
    ⟨.ref s.heap.objs.size, _, I.laid (t' := s.toks) kp (Nat.le_refl _) (show ObjOk X.prog X.w _ h' _ (.lst ys) from ⟨hz, its, c', r', e⟩), rfl, q _ (I.hok.fresh (Nat.le_refl _))⟩
  rcases hq with hq | hq
  · obtain ⟨its, r', pl, hz⟩ := I.list hq
    have hlen := r'.length
    obtain ⟨o, ho, hc, n, hd⟩ := pl.isList
    exact call_list_seq p (.inl rfl) ho hc hd (fun h' c' kp e => fin its r' hz h' c' kp e) (by simp only [List.size_toArray] <;> omega)
  · obtain ⟨its, r', pl, hz⟩ := I.tuple hq
    have hlen := r'.length
    obtain ⟨o, ho, hc, n, hd⟩ := pl
    exact call_list_seq p (.inr rfl) ho hc hd (fun h' c' kp e => fin its r' hz h' c' kp e) (by simp only [List.size_toArray] <;> omega)
theorem call_tuple_of : CallR X (.type "tuple") (fun xs H Q => ∃ p ys, xs = [.ref p] ∧ ((SqL X.K H p ys ∧ ∀ l, H l = none → Q (.ref l) (upd H l (.tup ys))) ∨ (SqT X.K H p ys ∧ Q (.ref p) H))) := by
  intro pins s σ H xs us Q I r h
  obtain ⟨p, ys, rfl, h⟩ := h
  obtain ⟨u, rfl, rx⟩ := vals1 r
  cases rx
  rcases h with ⟨hq, q⟩ | ⟨hq, q⟩
  · obtain ⟨its, r', pl, hz⟩ := I.list hq
    have hlen := r'.length
    refine call_tuple_list pl.isList (fun h' kp => ?_) (by simp only [List.size_toArray] <;> omega)
    have I1 : Inv X pins σ H { s with heap := h' } := I.kept (t' := s.toks) kp
    have I2 : Inv X pins σ (upd H h'.objs.size (.tup ys)) { s with heap := h'.push { cls := .type "tuple", data := .seq its.toArray } } :=
      I1.laid (t' := s.toks) (fun b o e => Heap.get?_push_of_some _ e) (Nat.le_refl _) (show ObjOk X.prog X.w _ _ _ (.tup ys) from ⟨hz, its, r', IsTup.new _ _⟩)
    exact ⟨.ref h'.objs.size, _, I2, rfl, q _ (I1.hok.fresh (Nat.le_refl _))⟩
  · obtain ⟨its, r', pl, hz⟩ := I.tuple hq
    exact call_tuple_same pl ⟨.ref p, H, I, rfl, q⟩

/-! ### the call of a builtin's method: o.m(..) -/
/-- the value is of that builtin type -/
def tyV (K : PySem.W.Frag) (T : String) (x : V) (H : Hp) : Prop := match x with
  | .str _ => T = "str"
  | .int _ => T = "int"
  | .ref p => (T = "list" ∧ ∃ xs, SqL K H p xs) ∨ (T = "tuple" ∧ ∃ o, K.lookup p = some o ∧ o.cls = .type "tuple" ∧ o.dict = none) ∨
      (T = "dict" ∧ ((∃ kvs, H p = some (.dK kvs)) ∨ ∃ kvs, H p = some (.dT kvs))) ∨ (T = "set" ∧ ∃ S n, H p = some (.set S n))
  | _ => False
theorem tyV_is {pins : List (Addr × Obj)} {σ : St} {H : Hp} {s : Shared} {T : String} {x : V} {v : Value} (I : Inv X pins σ H s) (r : RelV x v) (ty : tyV X.K T x H) :
    s.TypeIs v T ∧ ∀ a, v = .ref a → ∃ ob, s.heap.get? a = some ob ∧ ob.dict = none := by
  cases x with
  | str z =>
    obtain ⟨t, rfl⟩ := r
    cases (show T = "str" from ty)
    exact ⟨typeIs_str s z t, fun _ e => nomatch e⟩
  | int i =>
    obtain ⟨t, rfl⟩ := r
    cases (show T = "int" from ty)
    exact ⟨typeIs_int s i t, fun _ e => nomatch e⟩
  | ref p =>
    cases r
    rcases ty with ⟨rfl, xs, hq⟩ | ⟨rfl, o, hk, hc, hd⟩ | ⟨rfl, hk⟩ | ⟨rfl, S, n, hk⟩
    · obtain ⟨its, _, pl, _⟩ := I.list hq
      refine ⟨pl.isList.typeIs, fun a e => ?_⟩
      cases e
      obtain ⟨o, n, e, c, hd, _⟩ := pl
      exact ⟨o, e, hd⟩
    · refine ⟨⟨o, I.kIn p o hk, hc⟩, fun a e => ?_⟩
      cases e
      exact ⟨o, I.kIn _ o hk, hd⟩
    · have z : ∃ o, s.heap.get? p = some o ∧ o.ExactDict := by
        rcases hk with ⟨kvs, hk⟩ | ⟨kvs, hk⟩
        · obtain ⟨_, _, _, _, o, _, _, e, ex, _⟩ := I.hok p _ hk
          exact ⟨o, e, ex⟩
        · obtain ⟨_, _, _, _, o, _, _, e, ex, _⟩ := I.hok p _ hk
          exact ⟨o, e, ex⟩
      obtain ⟨o, e, ex⟩ := z
      refine ⟨⟨o, e, ex.1⟩, fun a e2 => ?_⟩
      cases e2
      exact ⟨o, e, ex.2.1⟩
    · obtain ⟨o, _, _, _, e, ex, _⟩ := I.hok p _ hk
      refine ⟨⟨o, e, ex.1⟩, fun a e2 => ?_⟩
      cases e2
      exact ⟨o, e, ex.2.1⟩
  | _ => exact False.elim ty
def tBM (K : PySem.W.Frag) (T : String) (r : V → List V → Hp → VK → Prop) (to : TE) (t : TA) : TE := fun σ H Q => to σ H fun x H1 => tyV K T x H1 ∧ t σ H1 fun xs H2 => r x xs H2 Q
variable {o e : Expr} {es : List Expr} {to : TE} {t : TA} {name : Str} {apos cpos : Pos} {T id : String} {r : V → List V → Hp → VK → Prop}
theorem pe_bm (pa : PlainAttrs T) (slot : Slot T name id) (hty : typeOf (.builtin id) = pure (.type "method_descriptor")) (hm : MtR X id r) (ho : PE X o to) (ha : PA X (e :: es) t)
    (hbase : attributeBase o name X.env (eval o X.env) = eval o X.env := by rfl)
    (hfew : ((backTo cpos (starEach (e :: es) X.env)).all (fun x => !x.1) && (backToKw cpos (keywordEach [] X.env)).all (fun x => x.1.isSome)
      && decide ((e :: es).length + ([] : List Keyword).length + (if ([] : List Keyword).isEmpty then 0 else 1) < 30)) = true := by rfl)
    (hline : (apos.endLine == cpos.line) = true := by rfl) (hs : starEach (e :: es) X.env = (false, eval e X.env) :: starEach es X.env := by rfl) (hplain : (backTo cpos (starEach es X.env)).any (·.1) = false := by rfl) :
    PE X (.Call (.Attribute o name apos) (e :: es) [] cpos) (tBM X.K T r to t) := by
  intro pins s σ H Q I h
  refine wpAny_Call_method_late hbase hfew hline rfl (thn (ho pins s σ H _ I h) fun v s1 ⟨x, H1, I1, r1, ty, q1⟩ => ?_)
  obtain ⟨h1, h2⟩ := tyV_is I1 r1 ty
  refine ⟨T, id, pa, slot, hty, h1, h2, ?_⟩
  have hA := ha cpos pins s1 σ H1 _ I1 q1
  rw [hs] at hA ⊢
  refine Calls.callWith_builtin (by show (false || (backTo cpos (starEach es X.env)).any (·.1)) = false; rw [hplain] <;> rfl) (Calls.evalArgs_plain ?_)
  exact thn hA fun us s2 ⟨vs, H2, I2, r2, q2⟩ => hm pins s2 σ H2 x vs v us Q I2 r1 r2 q2
/- xs.append(e), list.index on a module's tuple .. are MtR facts of 06m -/
end
end L2

namespace L2
open PySem PySem.Spec PyProof.Rows

def MtM (X : Cx) (id : String) (r : V → List V → Hp → VK → Prop) : Prop :=
  ∀ (pins : List (Addr × Obj)) (s : Shared) (σ : St) (H : Hp) (x : V) (xs : List V) (v : Value) (us : List Value) (Q : VK), Inv X pins σ H s → RelV x v → Vals xs us → r x xs H Q →
    wpAny (model X.prog X.w) X.A (call (.builtin id) (v :: us)) (EP X pins σ Q) X.xe s

/-! ### lists of values -/
theorem Vals.one : ∀ {x : V} {us : List Value}, Vals [x] us → ∃ u, us = [u] ∧ RelV x u
  | _, _, .cons r .nil => ⟨_, rfl, r⟩
theorem Vals.two : ∀ {x y : V} {us : List Value}, Vals [x, y] us → ∃ u v, us = [u, v] ∧ RelV x u ∧ RelV y v
  | _, _, _, .cons r (.cons q .nil) => ⟨_, _, rfl, r, q⟩
theorem Vals.zero : ∀ {us : List Value}, Vals [] us → us = []
  | _, .nil => rfl
theorem Vals.dropLast {xs : List V} {us : List Value} (h : Vals xs us) : Vals xs.dropLast us.dropLast := by
  induction h with
  | nil => exact .nil
  | cons r t ih =>
    cases t with
    | nil => exact .nil
    | cons q t' => exact .cons r ih
theorem Vals.eraseIdx : ∀ {xs : List V} {us : List Value} (i : Nat), Vals xs us → Vals (xs.eraseIdx i) (us.eraseIdx i)
  | _, _, _, .nil => .nil
  | _, _, 0, .cons _ t => t
  | _, _, i + 1, .cons r t => .cons r (Vals.eraseIdx i t)
theorem Vals.reverse {xs : List V} {us : List Value} (h : Vals xs us) : Vals xs.reverse us.reverse := by
  induction h with
  | nil => exact .nil
  | cons r t ih => rw [List.reverse_cons, List.reverse_cons]; exact Vals.append ih (.cons r .nil)
theorem Vals.rep {xs : List V} {us : List Value} (h : Vals xs us) : ∀ k : Nat, Vals (List.replicate k xs).flatten (List.replicate k us).flatten
  | 0 => .nil
  | k + 1 => by
    rw [List.replicate_succ, List.replicate_succ, List.flatten_cons, List.flatten_cons]
    exact Vals.append h (Vals.rep h k)
section
variable {X : Cx} {pins : List (Addr × Obj)} {σ : St} {H : Hp} {s : Shared} {l b : Addr} {xs ys zs : List V}

/-! ### the two steps: a tracked list is rewritten, a new list is laid -/
theorem Inv.lset {its its' : List Value} {n : Nat} {f : Array Value → Array Value} {t' : Nat} (I : Inv X pins σ H s) (hH : H l = some (.lst xs))
    (e : s.heap.get? l = some { cls := .type "list", data := .seq its.toArray n }) (hf : f its.toArray = its'.toArray) (hv : Vals ys its') (hz : ys.length ≤ sizeLine) :
    Inv X pins σ (upd H l (.lst ys)) { s with heap := s.heap.update l (Obj.mapSeq f), toks := t' } := by
  have q := PySem.IsL.update e f
  rw [hf] at q
  refine I.write (x := l) (e := l) (by rw [hH]; exact trivial) (.inl rfl) (fun b' u hb hu => (Heap.get?_update_other s.heap (Obj.mapSeq f) (Ne.symm hb)).trans hu) ⟨_, q⟩ ?_
  exact ⟨hz, its', _, hv, q⟩
theorem Inv.lnew {its : List Value} {t' : Nat} (I : Inv X pins σ H s) (hv : Vals ys its) (hz : ys.length ≤ sizeLine) :
    Inv X pins σ (upd H s.heap.objs.size (.lst ys)) { s with heap := s.heap.push { cls := .type "list", data := .seq its.toArray }, toks := t' } :=
  I.laid (fun _ _ q => Heap.get?_push_of_some _ q) (Nat.le_refl _) ⟨hz, its, 0, hv, Heap.get?_push_size _ rfl⟩
theorem Inv.fresh (I : Inv X pins σ H s) : H s.heap.objs.size = none := I.hok.fresh (Nat.le_refl _)
theorem Inv.lstM (I : Inv X pins σ H s) (hH : H l = some (.lst xs)) : xs.length ≤ sizeLine ∧ ∃ (its : List Value) (n : Nat), Vals xs its ∧ xs.length = its.length ∧ s.heap.get? l = some { cls := .type "list", data := .seq its.toArray n } := by
  obtain ⟨z, its, n, r, e⟩ := I.hok l _ hH
  exact ⟨z, its, n, r, r.length, e⟩

end

section
variable {X : Cx}

/-! ### methods -/
def rAppend : V → List V → Hp → VK → Prop := fun x vs H Q => ∃ l xs y, x = .ref l ∧ vs = [y] ∧ H l = some (.lst xs) ∧ xs.length < sizeLine ∧ Q .non (upd H l (.lst (xs ++ [y])))
theorem mt_append : MtM X "list.append" rAppend := by
  intro pins s σ H x vs v us Q I rx rv h
  obtain ⟨l, xs, y, rfl, rfl, hH, hz, q⟩ := h
  cases rx
  obtain ⟨u, rfl, ru⟩ := rv.one
  obtain ⟨z, its, n, r, hl, e⟩ := I.lstM hH
  refine call_meets F.slot_list_append ⟨_, e, rfl⟩ F.entry_list_append (F.args_list_append_2 _ _) (PySem.list_append l its.toArray n u (by rw [List.size_toArray]; omega)) ⟨e, ?_⟩
  refine ⟨.non, _, I.lset (its' := its ++ [u]) hH e (by simp) (r.append (.cons ru .nil)) ?_, rfl, q⟩
  rw [List.length_append, List.length_singleton]
  omega

/-! ### list + list, list += list, list * int -/
/-! ### del xs[i] -/
end

/-! ### xs[a:b] = ys -/
section
variable {prog : Program} {w : World} {A : Around} {E : Value → Shared → Prop} {s : Shared}
end

section
variable {X : Cx}
end
end L2

namespace Att
open PySem PySem.W PySem.Calls PyProof.Rows

/-! ### the script -/
theorem ints_of_wellAll {P : Params} {h : Heap} : ∀ (ns : List Int) (vs : List Value), WellAll P h vs (ns.map WData.int) → IntsAre vs ns := by
  intro ns
  induction ns with
  | nil =>
    intro vs w
    rw [List.map_nil] at w
    cases w
    exact .nil
  | cons n ns ih =>
    intro vs w
    rw [List.map_cons] at w
    cases w with
    | cons a b =>
      cases a
      exact .cons _ _ (ih _ b)

theorem script_of {l : OpenLaw} {n : Nat} (hn : l.most = some n) {P : Params} {h : Heap} {args : List WData} {vals : List Value}
    (hpre : l.row.toRowW.claim.pre args = true) (hwl : WellAll P h vals args) :
    ∃ a vs ns, vals = [Value.ref a] ∧ args = [WData.list (ns.map WData.int)] ∧ h.get? a = some { cls := .type "list", data := .seq vs.toArray } ∧ IntsAre vs ns ∧ ns.length ≤ n := by
  have hsh : WShape.hasAll [] args [.list .int] = true := (pre_splitW hpre).1
  have hc : l.pre.holds [] { args := args } = true := (pre_splitW hpre).2
  obtain ⟨d, r, rfl, h1, h2⟩ := hasAllW_cons hsh
  obtain rfl := hasAllW_nil h2
  obtain ⟨xs, rfl, h3⟩ := hasW_list h1
  obtain ⟨ns, rfl⟩ := items_int h3
  have hlen : ns.length ≤ n := by
    unfold OpenLaw.pre at hc
    have h4 : (WTm.not (.lt (.lit (.int (n : Int))) (.len (.arg 0)))).holds [] { args := [.list (ns.map .int)] } = true := by
      have h4 := (holds_andW hc).1
      rw [hn] at h4
      exact h4
    have h5 := condW_of h4 (w_not (w_lt w_lit (w_len_list (w_arg rfl))))
    rw [List.length_map] at h5
    refine Nat.le_of_not_lt fun q => ?_
    have q' : (n : Int) < ((ns.length : Nat) : Int) := by omega
    first
      | (rw [decide_eq_true q'] at h5; exact absurd h5 (by decide))
      | (simp at h5; omega)
  cases hwl with
  | cons w1 w2 =>
    cases w2
    cases w1 with
    | list ho hall => exact ⟨_, _, ns, rfl, rfl, ho, ints_of_wellAll ns _ hall, hlen⟩

theorem post_true (l : OpenLaw) (args : List WData) : l.row.toRowW.claim.post args (.bool true) args = true :=
  postW_of (r := l.row.toRowW) (X := (true == true))
    (show WShape.has [] (.bool true) .bool = true by first | rfl | decide | simp [WShape.has, WShape.arms, WShape.armsAll])
    (show (WTm.eq .res (.lit (.bool true))).value [] { args := args, res := some (.bool true), after := args } = some (.bool (true == true)) from w_eq_bool (w_res rfl) w_lit) rfl

/-! ### the attachment: holds_open's last premise (the goal 'hc' behind k_head) from a wpAny of the law's body -/
/-- the same from a codeAny of the CALL (for a layer whose function contracts speak of calls) -/
theorem attach_call {l : OpenLaw} {n : Nat} {q : Program} {loose : List Str} {XP : (Str → Option Value) → Heap → Prop} {YP : World → Heap → Prop} {d : DefRec}
    (hn : l.most = some n) (hdf : d.params.defaults = [])
    (call : ∀ (w : World) (s₀ s₁ : Shared) (mg mb : Str → Option Value) (fa : Addr) (o : Obj) (pm cd doc : Value) (a : Addr) (vs : List Value) (ns : List Int),
      Ground q loose [] XP w s₀ mg mb s₁.heap → YP w s₁.heap →
      s₁.heap.get? fa = some o → o.data = .func (docDef d.name d.params d.body d.scope pm cd doc) → s₁.heap.CodeRec cd d.name → mg d.name = some (.ref fa) →
      s₁.heap.get? a = some { cls := .type "list", data := .seq vs.toArray } → IntsAre vs ns → ns.length ≤ n → s₁.gens = #[] →
      codeAny (model l.prog w) callerA (.call (.ref fa) ⟨[.ref a], []⟩) (fun r s' => r = .ok (.ret (.bool true)) ∧ OldK s₁.heap s'.heap ∧ s'.os = s₁.os ∧ AllBare s'.gens) s₁) :
    WalkO q loose XP YP l.row.toRowW d [] (fun f vs => PySem.call f vs) := by
  intro w s₀ s₁ mg mb G Y fa o pm cd doc dV kV ho hd hcd hD hmg hg args vals as hpre hlay hrd hwl hlo
  obtain rfl : dV = .none := Dflts.none hD hdf
  obtain rfl : kV = .none := Dflts.noKw hD
  obtain ⟨a, vs, ns, rfl, rfl, hobj, hints, hlen⟩ := script_of hn hpre hwl
  refine enter_call (codeAny_mono (call w s₀ s₁ mg mb fa o pm cd doc a vs ns G Y ho (fd_plain hd) hcd hmg hobj hints hlen hg) fun r s' hq => ?_)
  obtain ⟨rfl, h2, h3, h4⟩ := hq
  exact ⟨.inl ⟨.bool true, .bool true, [], rfl, fun _ => rfl, .bool true, post_true l _, fun _ => ⟨List.Pairwise.nil, fun _ hm => (nomatch hm)⟩⟩, h2, h3, h4⟩

/-! ### rules over ANY heap (no ledger) from facts about the written part K: the library's own take a ledger (News) for what they write -/
section
variable {prog : Program} {w : World} {A : Around} {E : Value → Shared → Prop} {s : Shared} {K : Frag}

/-! the whole heap as the ledger: makes every rule that writes through a ledger a rule over any heap -/
def ledger (h : Heap) (L d : Addr) : List (Addr × Obj) := (List.range h.objs.size).filterMap fun a => if a = L ∨ a = d then none else (h.get? a).map fun o => (a, o)
end
end Att

namespace L2
open PySem PySem.Spec PyProof.Rows

theorem vals_ints : ∀ {vs : List Value} {ns : List Int}, IntsAre vs ns → Vals (ns.map V.int) vs
  | _, _, .nil => .nil
  | _, _, .cons n t h => .cons ⟨t, rfl⟩ (vals_ints h)

/-- nothing is tracked but the script, known to the object (or it is an object of the module) -/
def Only (H : Hp) : Prop := ∀ b, H b = none ∨ ∃ o xs, H b = some (.frz o (.lst xs))

/-- THE HEAD: the law's promise, at the heap behind the top. F, the promise of the law's def, may use that base is part of the heap (so K.In base, base.Ns mainGlobals mg stand in Mod) -/
theorem law_call {P : Program} {w : World} {K : PySem.W.Frag} {mg mb : Str → Option Value} {CX : CXT} {k : Nat} {fa a : Addr} {fd : FuncData} {x : Str} {sp : Sp} {s₁ : Shared} {vs : List Value} {ns : List Int}
    (KX : K.In s₁.heap) (hns : s₁.heap.Ns mainGlobals mg) (hb : s₁.heap.Ns builtinsNs mb) (hbb : ∀ x : Str, x ≠ "__name__" → mb x = bootBuiltins x) (hlim : s₁.heap.NoLimit) (hg : s₁.gens = #[])
    (ha : s₁.heap.get? a = some { cls := .type "list", data := .seq vs.toArray }) (hi : IntsAre vs ns) (hl : ns.length ≤ sizeLine) (hr : Room k callerA)
    (F : ∀ base : Heap, K.In base → base.Ns mainGlobals mg → FnOk P w K mg base CX k fa fd [x] sp) (hbind : ∀ (s : Shared) (u : Value), BindsTo s fd ⟨[u], []⟩ [(x, u)])
    (hsp : ∀ H : Hp, Only H → SqL K H a (ns.map V.int) → sp [.ref a] H (fun v _ => v = .bl true) fun _ _ _ => False)
    (hCX : ∀ H e s', CX [] H s₁ (fun _ _ _ => False) e s' → False) :
    codeAny (model P w) callerA (.call (.ref fa) ⟨[.ref a], []⟩) (fun r s' => r = .ok (.ret (.bool true)) ∧ OldK s₁.heap s'.heap ∧ s'.os = s₁.os ∧ AllBare s'.gens) s₁ := by
  have rv := vals_ints hi
  have lenV := hi.length
  -- from an abstract heap in which nothing but the script may be tracked
  have core : ∀ H : Hp, Only H → SqL K H a (ns.map V.int) → HOk P w H s₁.heap → (∀ b, H b ≠ none → b = a) → (H a ≠ none → K.lookup a = none) →
      codeAny (model P w) callerA (.call (.ref fa) ⟨[.ref a], []⟩) (fun r s' => r = .ok (.ret (.bool true)) ∧ OldK s₁.heap s'.heap ∧ s'.os = s₁.os ∧ AllBare s'.gens) s₁ := by
    intro H hO hS hok hA hK
    have base_of : ∀ {b : Addr} {o : Obj}, s₁.heap.get? b = some o → H b = none → (hidT s₁.heap H).get? b = some o := fun e n => hidT_get e n
    have noA : ∀ {b : Addr} {o : Obj} {es : Array DictEntry} {ep : Nat}, s₁.heap.get? b = some o → o.data = .dict es ep → H b = none := fun {b o es ep} e d => by
      cases q : H b with
      | none => rfl
      | some u =>
        have e' : b = a := hA b (by rw [q]; simp)
        subst e'
        rw [ha] at e; cases e
        have d' : Data.seq vs.toArray _ = Data.dict es ep := d
        cases d'
    have nsK : ∀ {b : Addr} {m : Str → Option Value}, s₁.heap.Ns b m → (hidT s₁.heap H).Ns b m := fun {b m} ⟨o, es, ep, e, d, r⟩ => ⟨o, es, ep, base_of e (noA e d), d, r⟩
    have hKb : K.In (hidT s₁.heap H) := fun b o e => base_of (KX b o e) (by
      cases q : H b with
      | none => rfl
      | some u =>
        have e' : b = a := hA b (by rw [q]; simp)
        subst e'
        rw [hK (by rw [q]; simp)] at e; cases e)
    have hM : Mod K mg (hidT s₁.heap H) := ⟨hKb, nsK hns, ⟨mb, nsK hb, hbb⟩, let ⟨mc, h1, h2⟩ := hlim; ⟨mc, nsK h1, h2⟩⟩
    have e0 : Env0 P w K mg (hidT s₁.heap H) callerA [] s₁ H := ⟨rfl, hM, fun b o e => of_hidT e, Nat.le_of_eq (hidT_size _ _), trivial, fun b hb => absurd (show b ∈ ([] : List Addr) from hb) (by simp), hok, .of_eq hg⟩
    refine codeAny_mono ((F _ hKb (nsK hns)).run callerA [] s₁ H ⟨[.ref a], []⟩ [.ref a] [.ref a] _ _ hr e0 (hbind s₁ (.ref a)) (.cons rfl .nil) (hsp H hO hS)) fun r s' h => ?_
    cases r with
    | error e => exact (hCX H e s' h).elim
    | ok fl =>
      cases fl with
      | next => exact False.elim h
      | brk => exact False.elim h
      | cont => exact False.elim h
      | ret u =>
        obtain ⟨v, H', os, bare, un, hok', r', q⟩ := h
        have q' : v = .bl true := q
        subst q'
        obtain rfl : u = Value.bool true := r'
        refine ⟨rfl, OldK.of_keep fun b o e => ?_, os, bare⟩
        cases q : H b with
        | none => exact un.keep b o e q (by intro z; exact absurd (show b ∈ ([] : List Addr) from z) (by simp)) (by simp)
        | some u =>
          rcases hO b with z | ⟨ob, xs, z⟩
          · rw [q] at z; cases z
          · have z2 := un.frzs b ob _ z
            obtain ⟨e1, _⟩ := hok b _ z
            obtain ⟨e2, _⟩ := hok' b _ z2
            rw [e] at e1; cases e1
            exact e2
  cases hk : K.lookup a with
  | some o =>
    -- the script is one of the module's own objects
    have e := KX a o hk
    rw [ha] at e
    cases e
    refine core (fun _ => none) (fun _ => .inl rfl) (.inr ⟨_, vs.toArray, _, hk, rfl, rfl, rfl, by rw [List.size_toArray, lenV]; exact hl, by simpa using rv⟩) (fun b u z => by have z' : (none : Option HO) = some u := z; cases z') (fun b z => absurd rfl z) fun z => absurd rfl z
  | none =>
    refine core (fun b => if b = a then some (.frz { cls := .type "list", data := .seq vs.toArray } (.lst (ns.map V.int))) else none) (fun b => ?_) (.inl (.inr ⟨{ cls := .type "list", data := .seq vs.toArray }, if_pos rfl⟩)) (fun b u z => ?_) (fun b z => ?_) fun _ => hk
    · by_cases hb : b = a
      · exact .inr ⟨_, _, if_pos hb⟩
      · exact .inl (if_neg hb)
    · by_cases hb : b = a
      · have z' := (if_pos hb).symm.trans z
        cases z'
        subst hb
        exact ⟨ha, by rw [List.length_map]; exact hl, vs, _, rv, ha⟩
      · have z' := (if_neg hb).symm.trans z
        cases z'
    · by_cases hb : b = a
      · exact hb
      · exact absurd (if_neg hb) z
end L2

namespace L2
open PySem PySem.Spec PyProof.Rows

abbrev KOf {K : PySem.W.Frag} {h : Heap} (_ : K.In h) : PySem.W.Frag := K

/-- the goal that k_head leaves (case hc), from the law's promise. F gives the function object fd (K's own) once, then the promise over every base -/
theorem walk_of {l : PySem.W.OpenLaw} {n k : Nat} {q : Program} {loose : List Str} {XP : (Str → Option Value) → Heap → Prop} {YP : World → Heap → Prop} {d : DefRec} {K : Params → PySem.W.Frag} {CX : World → CXT} {sp : World → Sp} {x : Str}
    (hn : l.most = some n) (hn2 : n ≤ sizeLine) (hdf : d.params.defaults = []) (hr : Room k callerA)
    (hY : ∀ (w : World) (h : Heap), YP w h → (K w.params).In h)
    (F : ∀ (w : World) (mg : Str → Option Value) (fa : Addr) (h : Heap), (K w.params).In h → h.Ns mainGlobals mg → mg d.name = some (.ref fa) →
      ∃ fd : FuncData, (∀ (s : Shared) (u : Value), BindsTo s fd ⟨[u], []⟩ [(x, u)]) ∧
        ∀ base : Heap, (K w.params).In base → base.Ns mainGlobals mg → FnOk l.prog w (K w.params) mg base (CX w) k fa fd [x] (sp w))
    (hsp : ∀ (w : World) (H : Hp) (a : Addr) (ns : List Int), ns.length ≤ n → Only H → SqL (K w.params) H a (ns.map V.int) → sp w [.ref a] H (fun v _ => v = .bl true) fun _ _ _ => False)
    (hCX : ∀ (w : World) (H : Hp) (s : Shared) (e : Value) (s' : Shared), CX w [] H s (fun _ _ _ => False) e s' → False) :
    PySem.W.WalkO q loose XP YP l.row.toRowW d [] (fun f vs => PySem.call f vs) := by
  refine Att.attach_call hn hdf fun w s₀ s₁ mg mb fa o pm cd doc a vs ns G Y ho hd hcd hmg hobj hints hlen hg => ?_
  have KX := hY w _ Y
  obtain ⟨fd, hb, hF⟩ := F w mg fa _ KX G.T.g hmg
  exact law_call KX G.T.g G.T.b G.T.builtins G.T.nolimit hg hobj hints (Nat.le_trans hlen hn2) hr hF hb (fun H hO hS => hsp w H a ns hlen hO hS) fun H e s' => hCX w H s₁ e s'
end L2

/- THE LAST THEOREM (shape; LID, My.* are yours):
   My.Adr: a structure of the addresses that your layer names (classes, functions); My.Txt K t: a structure (Prop) of the equations over K;
   My.txt_mk : {K} {implicit addresses ..} (e1 : nsIn K mainGlobals "law" = some (some (.ref f))) (e2 : K.lookup f = some ⟨oc, od, .func (fnOf "law" "law" params body scope dV kV doc pm an cdv ct), sl⟩) (e3 : codeIn K cdv "law" = true) .. : ∃ t, My.Txt K t

set_option maxRecDepth 100000 in
set_option maxHeartbeats 0 in
theorem PySem.Challenge.cw_LID_holds : PySem.Challenge.rw_LID.Holds := by
  w_on; o_law; k_head; (case hw => w_witness2)
  k_fill
  refine L2.walk_of (l := PySem.Challenge.rw_LID) (n := 63) (k := 40) (x := "script") (CX := fun w => ..) (sp := fun _ => My.sp_law) rfl (by decide) rfl ⟨rfl, by decide, by decide⟩ (fun w h Y => PySem.W.kIn_of Y) ?F ?S ?C
  case F =>
    intro w mg fa h KX G hmg
    have T : ∃ t, My.Txt (L2.KOf KX) t := by
      dsimp only [L2.KOf]                          -- K must stand as «<heap const> w.params» for k_is
      refine' My.txt_mk ?e1 ?e2 ?e3 ..
      (case e1 => PySem.W.k_is)                    -- in the order: a name -> its address -> its object -> its parts
      (case e2 => PySem.W.k_is)
      ..
    obtain ⟨t, T⟩ := T
    have e0 := hmg.symm.trans (PySem.W.mg_of KX G T.law)
    cases e0                                       -- fa is the law's own address
    exact ⟨_, fun s u => .of_eq rfl, fun base kb nb => My.law_fn T kb nb⟩     -- if «.of_eq rfl» comes too early: refine' ⟨_, ?b, fun base kb nb => My.law_fn T kb nb⟩; exact fun s u => .of_eq rfl
  case S => exact fun w H a ns hl hO hS => ..
  case C => exact ..
(the tactic k_is has no namespace: write k_is) -/

/-! SHORT WORDS over the layer: a def of the text, its body, what a loop and a test want. -/
namespace L2
open PySem PySem.Spec PyProof.Rows

/-! ### the text by places -/
def defArgs (s : Stmt) : Arguments := match s with
  | .FunctionDef _ a _ _ _ _ _ _ _ _ => a
  | _ => { posonlyargs := [], args := [], vararg := none, kwonlyargs := [], kw_defaults := [], kwarg := none, defaults := [] }
def defBody (s : Stmt) : List Stmt := match s with
  | .FunctionDef _ _ b _ _ _ _ _ _ _ => b
  | _ => []
def defScope (s : Stmt) : Scope := match s with
  | .FunctionDef _ _ _ _ _ _ sc _ _ _ => sc
  | _ => { kind := .function, names := [], isGenerator := false, isCoroutine := false }

/-! ### no exception leaves a def -/
abbrev CX0 : CXT := fun _ _ _ _ _ _ => False
abbrev E0 : XK := fun _ _ _ => False
theorem pass0 {X : Cx} : Passes CX0 X E0 := fun _ _ _ _ _ _ _ h => h.elim

/-! ### a def (or method) of the text as it stands behind the top -/
structure Fun (K : PySem.W.Frag) (x qual : Str) (st : Stmt) (f : Addr) (fd : FuncData) : Prop where
  ex : ∃ (oc : Value) (od : Option Addr) (kV doc pm : Value) (an : Option Addr) (cdv ct : Value) (osl : Array (Option Value)),
    fd = PySem.W.fnOf x qual (defArgs st) (defBody st) (defScope st) .none kV doc pm an cdv ct ∧ K.lookup f = some ⟨oc, od, .func fd, osl⟩ ∧ PySem.W.codeIn K cdv qual = true
  kp : PySem.W.keepIn K (.ref f) = true
section
variable {P : Program} {w : World} {K : PySem.W.Frag} {mg : Str → Option Value} {base : Heap}
/-- THE RULE for a def: its body as a term of rules, and the reading of that term -/
theorem Fun.ok {x qual : Str} {st : Stmt} {f : Addr} {fd : FuncData} {N ps : List Str} {k : Nat} {sp : Sp} (F : Fun K x qual st f fd) (S : FnScope N ps (defScope st)) (len : ∀ vs H Q E, sp vs H Q E → vs.length = ps.length)
    (hbody : ∀ (cdv : Value) (A : Around) (outer : List Env) (s : Shared) (H : Hp) (vs : List V) (Q : VK) (E : XK), Room k (A.deeper (envOfC qual (defScope st) s.heap.objs.size f cdv)) → sp vs H Q E →
      ∃ t, PSs (cxOf CX0 P w K mg base N qual (defScope st) f cdv A outer s H E).nox (defBody st) t ∧ t { nx := fun _ H' => Q .non H', rt := Q } (start N vs) H) : FnOk P w K mg base CX0 (k + 1) f fd ps sp := by
  obtain ⟨oc, od, kV, doc, pm, an, cdv, ct, osl, rfl, lk, hcd⟩ := F.ex
  refine fn_of lk hcd S len fun A outer s H vs Q E hr hsp => ?_
  obtain ⟨t, h, q⟩ := hbody cdv A outer s H vs Q E hr hsp
  exact ⟨t, h.nox, q⟩
/-- how its arguments bind (no defaults): h is «fun _ _ _ _ _ _ us hl => match us, hl with | [_, _], _ => rfl», one _ a parameter -/
theorem Fun.binds {x qual : Str} {st : Stmt} {f : Addr} {fd : FuncData} {ps : List Str} (F : Fun K x qual st f fd)
    (h : ∀ (kV doc pm : Value) (an : Option Addr) (cdv ct : Value) (us : List Value), us.length = ps.length → bindArgs (PySem.W.fnOf x qual (defArgs st) (defBody st) (defScope st) .none kV doc pm an cdv ct) ⟨us, []⟩ = pure (ps.zip us)) : Binds K fd ps [] := by
  obtain ⟨oc, od, kV, doc, pm, an, cdv, ct, osl, rfl, lk, hcd⟩ := F.ex
  exact .all (h kV doc pm an cdv ct)
theorem fun_mk {x qual : Str} {st : Stmt} {f : Addr} {oc : Value} {od an : Option Addr} {osl : Array (Option Value)} {kV doc pm cdv ct : Value} (l : K.lookup f = some ⟨oc, od, .func (PySem.W.fnOf x qual (defArgs st) (defBody st) (defScope st) .none kV doc pm an cdv ct), osl⟩)
    (c : PySem.W.codeIn K cdv qual = true) (k : PySem.W.keepIn K (.ref f) = true) : Fun K x qual st f (PySem.W.fnOf x qual (defArgs st) (defBody st) (defScope st) .none kV doc pm an cdv ct) := ⟨⟨oc, od, kV, doc, pm, an, cdv, ct, osl, rfl, l, c⟩, k⟩
end
theorem small1000 {n : Nat} (h : n ≤ 1000) : n < sizeLine := Nat.lt_of_le_of_lt h (by decide)

/-! ### expressions in short: the name that stands in the i-th slot -/
section
variable {X : Cx}
theorem pv (i : Nat) {x : Str} {pos : Pos} (hN : X.N[i]? = some x := by rfl) (hv : Vis X.env.scope x := by first | exact Or.inl rfl | exact Or.inr (Or.inl rfl) | exact Or.inr (Or.inr rfl)) (hd : (x == ("__debug__" : Str)) = false := by decide)
    (hcd : (x == ("__classdict__" : Str)) = false := by decide) : PE X (.Name x pos) (tVar i) := pe_var hN hv hd hcd
end

/-! ### tests -/
theorem iteF {A B : Prop} (h : B) : if false = true then A else B := by
  rw [if_neg Bool.false_ne_true]
  exact h
theorem iteT {A B : Prop} (h : A) : if true = true then A else B := by
  rw [if_pos rfl]
  exact h
theorem ite2 {c A B : Prop} [Decidable c] (h1 : c → A) (h2 : ¬ c → B) : if c then A else B := by
  by_cases h : c
  · rw [if_pos h]
    exact h1 h
  · rw [if_neg h]
    exact h2 h
/-! ### heaps -/
/-- all that was tracked is as it was -/
def Same (H H' : Hp) : Prop := ∀ b o, H b = some o → H' b = some o
theorem Same.refl (H : Hp) : Same H H := fun _ _ h => h
theorem Same.trans {H H1 H2 : Hp} (a : Same H H1) (b : Same H1 H2) : Same H H2 := fun c o h => b c o (a c o h)
theorem Same.seq {K : PySem.W.Frag} {H H' : Hp} {a : Addr} {xs : List V} (e : Same H H') (h : SqL K H a xs) : SqL K H' a xs := by
  rcases h with (h | ⟨o, h⟩) | h
  · exact .inl (.inl (e _ _ h))
  · exact .inl (.inr ⟨o, e _ _ h⟩)
  · exact .inr h

end L2

namespace My
/-! whole numbers of at most k bits -/
def Sm (k : Nat) (x : Int) : Prop := x.natAbs < 2 ^ k
theorem Sm.mono {k l : Nat} {x : Int} (h : Sm k x) (e : k ≤ l) : Sm l x := Nat.lt_of_lt_of_le h (Nat.pow_le_pow_right (by decide) e)
theorem Sm.mul {k l : Nat} {x y : Int} (h : Sm k x) (g : Sm l y) : Sm (k + l) (x * y) := by
  unfold Sm at *
  rw [Int.natAbs_mul, Nat.pow_add]
  rcases Nat.eq_zero_or_pos y.natAbs with e | e
  · rw [e, Nat.mul_zero]; exact Nat.mul_pos (Nat.two_pow_pos _) (Nat.two_pow_pos _)
  · exact Nat.lt_of_lt_of_le (Nat.mul_lt_mul_of_pos_right h e) (Nat.mul_le_mul_left _ (Nat.le_of_lt g))
theorem Sm.add {k : Nat} {x y : Int} (h : Sm k x) (g : Sm k y) : Sm (k + 1) (x + y) := by
  unfold Sm at *
  rw [Nat.pow_succ]
  have := Int.natAbs_add_le x y
  omega
theorem Sm.neg {k : Nat} {x : Int} (h : Sm k x) : Sm k (-x) := by
  unfold Sm at *
  rw [Int.natAbs_neg]; exact h
theorem Sm.sub {k : Nat} {x y : Int} (h : Sm k x) (g : Sm k y) : Sm (k + 1) (x - y) := by
  rw [Int.sub_eq_add_neg]; exact h.add g.neg
theorem Sm.le {k : Nat} {x y : Int} (h : Sm k x) (g : y.natAbs ≤ x.natAbs) : Sm k y := Nat.lt_of_le_of_lt g h
theorem Sm.log {k : Nat} {x : Int} (h : Sm k x) (hk : 0 < k) : x.natAbs.log2 < k := by
  by_cases h0 : x.natAbs = 0
  · rw [h0]; exact hk
  · exact (Nat.log2_lt h0).mpr h
/-! the greatest common divisor, gone down by rests -/
theorem gcd_mod (a b : Int) : Int.gcd b (a % b) = Int.gcd a b := by
  have h : a % b = a + b * (-(a / b)) := by
    have := Int.emod_def a b
    rw [this, Int.mul_neg]; omega
  rw [h, Int.gcd_add_mul_left_right, Int.gcd_comm]
theorem gcd_abs (a b : Int) : Int.gcd (if a < 0 then -a else a) (if b < 0 then -b else b) = Int.gcd a b := by
  unfold Int.gcd
  congr 1
  · split <;> omega
  · split <;> omega
theorem gcd_zero (a : Int) (h : 0 ≤ a) : ((Int.gcd a 0 : Nat) : Int) = a := by
  rw [Int.gcd_zero_right]; omega
/-! fractions -/
def sh (t b : Int) : Int := if b < 0 then -((Int.gcd t b : Nat) : Int) else ((Int.gcd t b : Nat) : Int)
theorem sh_ne {t b : Int} (h : b ≠ 0) : sh t b ≠ 0 := by
  have : Int.gcd t b ≠ 0 := fun e => h (Int.gcd_eq_zero_iff.mp e).2
  unfold sh; split <;> omega
theorem sh_abs (t b : Int) : (sh t b).natAbs = Int.gcd t b := by
  unfold sh; split <;> omega
theorem sh_dvd_t (t b : Int) : sh t b ∣ t := by
  unfold sh; split
  · exact Int.neg_dvd.mpr (Int.gcd_dvd_left ..)
  · exact Int.gcd_dvd_left ..
theorem sh_dvd_b (t b : Int) : sh t b ∣ b := by
  unfold sh; split
  · exact Int.neg_dvd.mpr (Int.gcd_dvd_right ..)
  · exact Int.gcd_dvd_right ..
theorem low_num {t b : Int} (h : b ≠ 0) : t.fdiv (sh t b) = (Rat.divInt t b).num := by
  rw [Int.fdiv_eq_ediv_of_dvd (sh_dvd_t t b), Rat.num_divInt, Int.gcd_comm b t]
  unfold sh
  split
  · rename_i h1
    rw [Int.sign_eq_neg_one_of_neg h1, Int.ediv_neg, Int.neg_one_mul, Int.neg_ediv_of_dvd (Int.gcd_dvd_left ..)]
  · rename_i h1
    rw [Int.sign_eq_one_of_pos (by omega), Int.one_mul]
theorem low_den {t b : Int} (h : b ≠ 0) : b.fdiv (sh t b) = ((Rat.divInt t b).den : Int) := by
  rw [Int.fdiv_eq_ediv_of_dvd (sh_dvd_b t b), Rat.den_divInt, if_neg h, Int.gcd_comm b t]
  unfold sh
  split
  · rename_i h1
    rw [Int.ediv_neg, Int.natCast_ediv]
    have e : (b.natAbs : Int) = -b := by omega
    rw [e, Int.neg_ediv_of_dvd (Int.gcd_dvd_right ..)]
  · rename_i h1
    rw [Int.natCast_ediv]
    have e : (b.natAbs : Int) = b := by omega
    rw [e]
theorem num_le (t b : Int) : (Rat.divInt t b).num.natAbs ≤ t.natAbs := by
  by_cases h : b = 0
  · subst h; simp [Rat.divInt_zero]
  · rw [← low_num h, Int.fdiv_eq_ediv_of_dvd (sh_dvd_t t b)]
    have := Int.natAbs_ediv_le_natAbs t (sh t b)
    exact this
theorem den_le {t b : Int} (h : b ≠ 0) : (Rat.divInt t b).den ≤ b.natAbs := by
  rw [Rat.den_divInt, if_neg h]
  exact Nat.div_le_self _ _
def SmQ (k : Nat) (q : Rat) : Prop := Sm k q.num ∧ Sm k (q.den : Int)
theorem den0 (q : Rat) : (q.den : Int) ≠ 0 := by have := q.den_nz; omega
theorem denp (q : Rat) : 0 < (q.den : Int) := by have := q.den_nz; omega
theorem den2 (p q : Rat) : (p.den : Int) * (q.den : Int) ≠ 0 := Int.mul_ne_zero (den0 p) (den0 q)
theorem q_add (p q : Rat) : Rat.divInt (p.num * q.den + q.num * p.den) ((p.den : Int) * q.den) = p + q := by
  rw [← Rat.divInt_add_divInt _ _ (den0 p) (den0 q), Rat.num_divInt_den, Rat.num_divInt_den]
theorem q_sub (p q : Rat) : Rat.divInt (p.num * q.den - q.num * p.den) ((p.den : Int) * q.den) = p - q := by
  rw [← Rat.divInt_sub_divInt _ _ (den0 p) (den0 q), Rat.num_divInt_den, Rat.num_divInt_den]
theorem q_mul (p q : Rat) : Rat.divInt (p.num * q.num) ((p.den : Int) * q.den) = p * q := by
  rw [← Rat.divInt_mul_divInt, Rat.num_divInt_den, Rat.num_divInt_den]
theorem q_div (p q : Rat) : Rat.divInt (p.num * q.den) ((p.den : Int) * q.num) = p / q := by
  rw [Rat.div_def, Rat.inv_def, ← Rat.divInt_mul_divInt, Rat.num_divInt_den]
/-! sums of many -/
def W : List Rat → Nat
  | [] => 1
  | q :: r => q.den * W r
def S : List Rat → Rat
  | [] => 0
  | q :: r => q + S r
/-- B bounds every one of them -/
def Bd (B : Nat) (a : List Rat) : Prop := ∀ q ∈ a, -(B : Rat) ≤ q ∧ q ≤ (B : Rat)
end My

namespace My
/-- numerator and denominator of so many bits -/
def SmR (n d : Nat) (q : Rat) : Prop := Sm n q.num ∧ Sm d (q.den : Int)
theorem SmR.mono {n d n' d' : Nat} {q : Rat} (h : SmR n d q) (h1 : n ≤ n') (h2 : d ≤ d') : SmR n' d' q := ⟨h.1.mono h1, h.2.mono h2⟩
theorem SmR.q {n d : Nat} {q : Rat} (h : SmR n d q) (h1 : n ≤ 3900) (h2 : d ≤ 3900) : SmQ 3900 q := ⟨h.1.mono h1, h.2.mono h2⟩
theorem SmR.low {n d : Nat} {t b : Int} (h : Sm n t) (g : Sm d b) (hb : b ≠ 0) : SmR n d (Rat.divInt t b) :=
  ⟨h.le (num_le t b), g.le (by simpa using den_le hb)⟩
theorem SmR.add {a b c e : Nat} {p q : Rat} (h : SmR a b p) (g : SmR c e q) : SmR (max (a + e) (c + b) + 1) (b + e) (p + q) := by
  rw [← q_add]
  exact SmR.low (((h.1.mul g.2).mono (Nat.le_max_left ..)).add ((g.1.mul h.2).mono (Nat.le_max_right ..))) (h.2.mul g.2) (den2 p q)
theorem SmR.sub {a b c e : Nat} {p q : Rat} (h : SmR a b p) (g : SmR c e q) : SmR (max (a + e) (c + b) + 1) (b + e) (p - q) := by
  rw [← q_sub]
  exact SmR.low (((h.1.mul g.2).mono (Nat.le_max_left ..)).sub ((g.1.mul h.2).mono (Nat.le_max_right ..))) (h.2.mul g.2) (den2 p q)
theorem SmR.mul {a b c e : Nat} {p q : Rat} (h : SmR a b p) (g : SmR c e q) : SmR (a + c) (b + e) (p * q) := by
  rw [← q_mul]
  exact SmR.low (h.1.mul g.1) (h.2.mul g.2) (den2 p q)
theorem num_ne {q : Rat} (h : q ≠ 0) : q.num ≠ 0 := fun e => h (Rat.num_eq_zero.mp e)
theorem num_pos {q : Rat} (h : 0 < q) : 0 < q.num := by
  have := (Rat.lt_iff 0 q).mp h
  simpa using this
theorem SmR.div {a b c e : Nat} {p q : Rat} (h : SmR a b p) (g : SmR c e q) (hq : q ≠ 0) : SmR (a + e) (b + c) (p / q) := by
  rw [← q_div]
  exact SmR.low (h.1.mul g.2) (h.2.mul g.1) (Int.mul_ne_zero (den0 p) (num_ne hq))
theorem q_nonneg {t b : Int} (h : 0 ≤ t) (hb : 0 < b) : 0 ≤ Rat.divInt t b := (Rat.divInt_nonneg_iff_of_pos_right hb).mpr h
theorem q_pos {t b : Int} (h : 0 < t) (hb : 0 < b) : 0 < Rat.divInt t b := by
  refine Rat.lt_of_le_of_ne (q_nonneg (by omega) hb) fun e => ?_
  have h1 : Rat.divInt 0 b = Rat.divInt t b := by rw [Rat.zero_divInt]; exact e
  have := (Rat.divInt_eq_divInt_iff (by omega) (by omega)).mp h1
  have h2 : t * b = 0 := by simpa using this.symm
  rcases Int.mul_eq_zero.mp h2 with z | z <;> omega
theorem less_iff (p q : Rat) : decide (p.num * q.den < q.num * p.den) = decide (p < q) := by
  rw [Bool.eq_iff_iff, decide_eq_true_iff, decide_eq_true_iff, Rat.lt_iff]
/-- the shape of an offer: at least one corner, times falling -/
def Dec : List (Rat × Rat) → Prop
  | [] => True
  | [_] => True
  | c :: d :: r => d.1 < c.1 ∧ Dec (d :: r)
theorem Dec.tail {c : Rat × Rat} {r : List (Rat × Rat)} (h : Dec (c :: r)) : Dec r := by
  cases r with
  | nil => trivial
  | cons d r => exact h.2
theorem Dec.lt {c : Rat × Rat} {r : List (Rat × Rat)} (h : Dec (c :: r)) : ∀ d ∈ r, d.1 < c.1 := by
  induction r generalizing c with
  | nil => intro d hd; exact absurd hd (by simp)
  | cons e r ih =>
    intro d hd
    rcases List.mem_cons.mp hd with rfl | hd
    · exact h.1
    · have h3 := ih h.2 d hd
      have h4 : e.1 < c.1 := h.1
      grind
theorem Dec.snoc : ∀ {r : List (Rat × Rat)} {c d : Rat × Rat}, Dec (r ++ [c]) → d.1 < c.1 → Dec (r ++ [c] ++ [d])
  | [], c, d, _, h => ⟨h, trivial⟩
  | [e], c, d, hd, h => ⟨hd.1, h, trivial⟩
  | e :: f :: r, c, d, hd, h => ⟨hd.1, Dec.snoc (r := f :: r) hd.2 h⟩
theorem Dec.scale {s : Rat} (hs : 0 < s) (f : Rat → Rat) : ∀ {l : List (Rat × Rat)}, Dec l → Dec (l.map fun c => (c.1 * s, f c.2))
  | [], _ => trivial
  | [_], _ => trivial
  | c :: d :: r, h => ⟨Rat.mul_lt_mul_of_pos_right h.1 hs, Dec.scale hs f (l := d :: r) h.2⟩
theorem Dec.get : ∀ {l : List (Rat × Rat)} {i j : Nat} {c d : Rat × Rat}, Dec l → l[i]? = some c → l[j]? = some d → i < j → d.1 < c.1
  | [], i, j, c, d, _, h, _, _ => by simp at h
  | e :: r, 0, j + 1, c, d, hd, h, g, _ => by
    have h' : e = c := by simpa using h
    subst h'
    exact hd.lt d (List.mem_of_getElem? (by simpa using g))
  | e :: r, i + 1, j + 1, c, d, hd, h, g, hij => Dec.get (l := r) hd.tail (by simpa using h) (by simpa using g) (by omega)
end My

/-! ### rules of my own over the layer -/
namespace L2
open PySem PySem.Spec PyProof.Rows
section
variable {X : Cx}
theorem bits_of_sm {x : Int} (h : My.Sm 8000 x) : Builtin.Int.intBits x ≤ 2 ^ 20 := by
  have e : (2 : Nat) ^ 20 = 1048576 := by decide
  have h2 := h.log (by decide)
  unfold Builtin.Int.intBits
  split <;> omega
def CMulB (i j : Int) : Prop := My.Sm 8000 i ∧ My.Sm 8000 j
def CDivB (_ j : Int) : Prop := j ≠ 0 ∧ My.Sm 8000 j
theorem op_mulB : OpR X (binaryOp .Mult) (rI CMulB fun i j => .int (i * j)) := opI fun _ _ _ _ _ _ _ hc q => mul_int q (.of_bits (bits_of_sm hc.1) (bits_of_sm hc.2))
theorem op_fdivB : OpR X (binaryOp .FloorDiv) (rI CDivB fun i j => .int (i.fdiv j)) := opI fun _ _ _ _ _ _ _ hc q =>
  floordiv_int hc.1 q (.inl (PyProof.noPylong_of_log2 (Nat.lt_of_lt_of_le (hc.2.log (by decide)) (by decide))))
/-! isinstance of built-in kinds -/
def kitB (T c : String) : Option Bool := if (Value.type T == Value.type c) = true then some true else if PySem.W.kitMeta c = true then (fastBuiltinMro T).map (·.contains (Value.type c)) else none
theorem kitB_kit (K : PySem.W.Frag) {T c : String} {b : Bool} (h : kitB T c = some b) : PySem.W.kitOne K (.type T) (.type c) = some b := h
def TyV (K : PySem.W.Frag) (H : Hp) (x : V) (T : String) : Prop := match x with
  | .non => T = "NoneType"
  | .bl _ => T = "bool"
  | .int _ => T = "int"
  | .str _ => T = "str"
  | .ref a => (T = "list" ∧ ∃ xs, SqL K H a xs) ∨ (T = "tuple" ∧ ∃ xs, SqT K H a xs) ∨ (T = "dict" ∧ ∃ kvs, H a = some (.dK kvs))
  | _ => False
theorem call_isinst : CallR X (.builtin "isinstance") (fun xs H Q => ∃ x c T b, xs = [x, .ty c] ∧ TyV X.K H x T ∧ kitB T c = some b ∧ Q (.bl b) H) := by
  intro pins s σ H xs us Q I r h
  obtain ⟨x, c, T, b, rfl, ty, e, q⟩ := h
  obtain ⟨u, v, rfl, ru, rv⟩ := Vals.two r
  cases (show v = Value.type c from rv)
  have fin : ∀ tk, EP X pins σ Q (.bool b) { s with toks := tk } := fun tk => ⟨.bl b, H, I.tok tk, rfl, q⟩
  have e' := kitB_kit X.K e
  cases x with
  | non => cases (show T = _ from ty); cases (show u = Value.none from ru); exact PySem.W.kia_one PySem.W.kitx_none I.kIn True.intro e' (fun z => nomatch z) fin
  | bl y => cases (show T = _ from ty); cases (show u = Value.bool y from ru); exact PySem.W.kia_one PySem.W.kitx_bool I.kIn True.intro e' (fun z => nomatch z) fin
  | int i => cases (show T = _ from ty); obtain ⟨t, q'⟩ := (show ∃ t, u = Value.int i t from ru); cases q'; exact PySem.W.kia_one PySem.W.kitx_int I.kIn True.intro e' (fun z => nomatch z) fin
  | str y => cases (show T = _ from ty); obtain ⟨t, q'⟩ := (show ∃ t, u = Value.str y t from ru); cases q'; exact PySem.W.kia_one PySem.W.kitx_str I.kIn True.intro e' (fun z => nomatch z) fin
  | ref a =>
    cases (show u = Value.ref a from ru)
    rcases (show _ ∨ _ ∨ _ from ty) with ⟨rfl, xs, h⟩ | ⟨rfl, xs, h⟩ | ⟨rfl, kvs, h⟩
    · obtain ⟨its, _, ⟨o, n, h1, h2, _⟩, _⟩ := I.list h
      exact PySem.W.kia_one PySem.W.kitx_list I.kIn ⟨o, h1, h2⟩ e' (fun z => nomatch z) fin
    · obtain ⟨its, _, ⟨o, h1, h2, _⟩, _⟩ := I.tuple h
      exact PySem.W.kia_one PySem.W.kitx_tuple I.kIn ⟨o, h1, h2⟩ e' (fun z => nomatch z) fin
    · obtain ⟨_, _, vs, _, p⟩ := (show ObjOk X.prog X.w H s.heap a (.dK kvs) from I.hok a _ h)
      obtain ⟨o, es, ep, h1, h2, _⟩ := p
      exact PySem.W.kia_one PySem.W.kitx_dict I.kIn ⟨o, h1, h2.1⟩ e' (fun z => nomatch z) fin
  | byt _ => exact (show False from ty).elim
  | flt _ => exact (show False from ty).elim
  | ty _ => exact (show False from ty).elim
end
/-! data by the abstract heap; == and != of data -/
mutual
inductive Den (K : PySem.W.Frag) (H : Hp) : V → PyData → Prop
  | non : Den K H .non .none
  | bl (b : Bool) : Den K H (.bl b) (.bool b)
  | int (i : Int) : Den K H (.int i) (.int i)
  | str (x : Str) : Den K H (.str x) (.str x)
  | lst {a : Addr} {xs : List V} {ds : List PyData} : SqL K H a xs → DenAll K H xs ds → Den K H (.ref a) (.list ds)
  | tup {a : Addr} {xs : List V} {ds : List PyData} : SqT K H a xs → DenAll K H xs ds → Den K H (.ref a) (.tuple ds)
  | dct {a : Addr} {kvs : List (Key × V)} : H a = some (.dK kvs) → Den K H (.ref a) (.dict (kvs.map fun _ => (.none, .none)))
inductive DenAll (K : PySem.W.Frag) (H : Hp) : List V → List PyData → Prop
  | nil : DenAll K H [] []
  | cons {x : V} {xs : List V} {d : PyData} {ds : List PyData} : Den K H x d → DenAll K H xs ds → DenAll K H (x :: xs) (d :: ds)
end
section
variable {X : Cx} {pins : List (Addr × Obj)} {σ : St} {H : Hp} {s : Shared}
mutual
theorem Den.reads (I : Inv X pins σ H s) : ∀ {x : V} {d : PyData} {u : Value}, Den X.K H x d → RelV x u → d.canLay0 = true → ∃ as, Reads s.heap u d as
  | _, _, u, .non, r, _ => by cases (show u = Value.none from r); exact ⟨_, .none⟩
  | _, _, u, .bl b, r, _ => by cases (show u = Value.bool b from r); exact ⟨_, .bool b⟩
  | _, _, u, .int i, r, _ => by obtain ⟨t, q⟩ := (show ∃ t, u = Value.int i t from r); cases q; exact ⟨_, .int i t⟩
  | _, _, u, .str x, r, _ => by obtain ⟨t, q⟩ := (show ∃ t, u = Value.str x t from r); cases q; exact ⟨_, .str x t⟩
  | _, _, u, .lst (a := a) h ds, r, cl => by
    cases (show u = Value.ref a from r)
    obtain ⟨its, rv, ⟨o, n, h1, h2, _, h3⟩, _⟩ := I.list h
    obtain ⟨as, q⟩ := DenAll.reads I ds rv cl
    exact ⟨_, .list h1 h2 h3 (by simpa using q)⟩
  | _, _, u, .tup (a := a) h ds, r, cl => by
    cases (show u = Value.ref a from r)
    obtain ⟨its, rv, ⟨o, h1, h2, n, h3⟩, _⟩ := I.tuple h
    obtain ⟨as, q⟩ := DenAll.reads I ds rv cl
    exact ⟨_, .tuple h1 h2 h3 (by simpa using q)⟩
  | _, _, _, .dct _, _, cl => absurd (show false = true from cl) Bool.false_ne_true
theorem DenAll.reads (I : Inv X pins σ H s) : ∀ {xs : List V} {ds : List PyData} {us : List Value}, DenAll X.K H xs ds → Vals xs us → PyData.canLayAll0 ds = true → ∃ as, ReadsAll s.heap us ds as
  | _, _, _, .nil, .nil, _ => ⟨_, .nil⟩
  | _, d :: ds, _, .cons h t, .cons r rs, cl => by
    have cl' : (d.canLay0 && PyData.canLayAll0 ds) = true := cl
    rw [Bool.and_eq_true] at cl'
    obtain ⟨as, q⟩ := Den.reads I h r cl'.1
    obtain ⟨bs, q'⟩ := DenAll.reads I t rs cl'.2
    exact ⟨_, .cons q q'⟩
end
end
section
variable {X : Cx}
def rEqD (K : PySem.W.Frag) : R2 := fun x y H Q => ∃ dx dy, Den K H x dx ∧ Den K H y dy ∧ dx.canLay0 = true ∧ dy.canLay0 = true ∧ dx.depth ≤ 60 ∧ Q (.bl (PyData.eqv dx dy)) H
def rNeD (K : PySem.W.Frag) : R2 := fun x y H Q => ∃ dx dy, Den K H x dx ∧ Den K H y dy ∧ dx.canLay0 = true ∧ dy.canLay0 = true ∧ dx.depth ≤ 60 ∧ Q (.bl (!PyData.eqv dx dy)) H
theorem op_eqD (hu : X.A.units + 64 < cLine) : OpR X (compareOp .Eq) (rEqD X.K) := by
  intro pins s σ H x y v u Q I rx ry h
  obtain ⟨dx, dy, h1, h2, c1, c2, hd, q⟩ := h
  obtain ⟨as, r1⟩ := h1.reads I rx c1
  obtain ⟨bs, r2⟩ := h2.reads I ry c2
  exact PySem.SeqAt.compareEq_reads r1 r2 c1 c2 (by omega) ⟨.bl _, H, I, rfl, q⟩
theorem op_neD (hu : X.A.units + 64 < cLine) : OpR X (compareOp .NotEq) (rNeD X.K) := by
  intro pins s σ H x y v u Q I rx ry h
  obtain ⟨dx, dy, h1, h2, c1, c2, hd, q⟩ := h
  obtain ⟨as, r1⟩ := h1.reads I rx c1
  obtain ⟨bs, r2⟩ := h2.reads I ry c2
  exact PySem.SeqAt.compareNe_reads r1 r2 c1 c2 (by omega) ⟨.bl _, H, I, rfl, q⟩
/-! xs[::-1] -/
end
/-! what stays when one object is written, or new ones are laid -/
def Kp (p : Addr) (H H' : Hp) : Prop := ∀ b o, b ≠ p → H b = some o → H' b = some o
theorem Kp.upd {p : Addr} {H : Hp} {o : HO} : Kp p H (upd H p o) := fun b u n e => by rw [upd_ne n]; exact e
theorem Kp.trans {p : Addr} {H H1 H2 : Hp} (a : Kp p H H1) (b : Kp p H1 H2) : Kp p H H2 := fun c o n e => b c o n (a c o n e)
theorem Kp.refl {p : Addr} {H : Hp} : Kp p H H := fun _ _ _ e => e
theorem Same.kp {p : Addr} {H H' : Hp} (a : Same H H') : Kp p H H' := fun b o _ e => a b o e
theorem Same.upd {p : Addr} {H : Hp} {o : HO} (h : H p = none) : Same H (upd H p o) := fun b u e => by rw [upd_ne (ne_of_none e h)]; exact e
theorem SqT.same {K : PySem.W.Frag} {H H' : Hp} {a : Addr} {xs : List V} (e : Same H H') (h : SqT K H a xs) : SqT K H' a xs := by
  rcases h with (h | ⟨o, h⟩) | h
  · exact .inl (.inl (e _ _ h))
  · exact .inl (.inr ⟨o, e _ _ h⟩)
  · exact .inr h
theorem at0 {α : Type} {x : α} {xs : List α} : atI (x :: xs) 0 = some x := atI_nat (j := 0) rfl
theorem at1 {α : Type} {x y : α} {xs : List α} : atI (x :: y :: xs) 1 = some y := atI_nat (j := 1) rfl
theorem at2 {α : Type} {x y z : α} {xs : List α} : atI (x :: y :: z :: xs) 2 = some z := atI_nat (j := 2) rfl
theorem at3 {α : Type} {x y z w : α} {xs : List α} : atI (x :: y :: z :: w :: xs) 3 = some w := atI_nat (j := 3) rfl
end L2

/-! ### list comprehensions of one clause -/
namespace L2
open PySem PySem.Spec PyProof.Rows
theorem compLoop_any {prog : Program} {w : World} {A : Around} {R : Result → Shared → Prop} {s : Shared} {elt target iter : Expr} {ifs : List Expr} {scope : Scope} {pos : Pos} {it acc : Value} {env : Env} (I : Nat → Shared → Prop)
    (turn : ∀ n s, I n s → wpAny (model prog w) A (pyNext it) (fun r s₁ => match r with
      | none => R (.ok .next) s₁
      | some v => wpAny (model prog w) A (letOwnedTupleGo target it v) (fun _ s₁' => wpAny (model prog w) A (assign target env v) (fun _ s₂ =>
          wpAny (model prog w) A (forIn ifs true fun c r => if r = true then do let ok ← isTrue c env (eval c env); pure (ForInStep.yield ok) else pure (ForInStep.yield r)) (fun ok s₃ =>
            if ok = true then wpAny (model prog w) A (eval elt env) (fun x s₄ =>
              wpAny (model prog w) A (call (.builtin "list.append") [acc, x]) (fun _ s₅ => ∃ m, m < n ∧ I m s₅) (fun _ _ => False) s₄) (fun _ _ => False) s₃
            else ∃ m, m < n ∧ I m s₃) (fun _ _ => False) s₂) (fun _ _ => False) s₁') (fun _ _ => False) s₁) (fun _ _ => False) s)
    (n : Nat) (h : I n s) : codeAny (model prog w) A (.compLoop (.ListComp elt [⟨target, iter, ifs, 0⟩] scope pos) 0 it acc env) R s := by
  refine codeAny_loop rfl I (fun n s hI => ?_) n h
  show wpAny _ A ((compTurn (.ListComp elt [⟨target, iter, ifs, 0⟩] scope pos) 0 it acc env).onRaise (fun x => do noteFrame x env; theTreesLotGoes x)) _ _ s
  refine wpAny_noted ?_
  rw [compTurn_list]
  refine wpAny_bind (wpAny_standAt (wpAny_bind (wpAny_mono (turn n s hI) (fun r s₁ h₁ => ?_) fun _ _ h' => h'.elim)))
  cases r with
  | none => exact wpAny_pure h₁
  | some v =>
    refine wpAny_bind (wpAny_mono h₁ (fun _ s₁' h₁' => ?_) fun _ _ h' => h'.elim)
    refine wpAny_bind (wpAny_mono h₁' (fun _ s₂ h₂ => wpAny_bind (wpAny_mono h₂ (fun ok s₃ h₃ => ?_) fun _ _ h' => h'.elim)) fun _ _ h' => h'.elim)
    cases ok with
    | false => exact wpAny_pure ⟨rfl, h₃⟩
    | true =>
      exact wpAny_bind (wpAny_bind (wpAny_mono h₃ (fun x s₄ h₄ => wpAny_bind (wpAny_mono h₄ (fun _ s₅ h₅ => wpAny_pure (wpAny_pure ⟨rfl, h₅⟩)) fun _ _ h' => h'.elim)) fun _ _ h' => h'.elim))
/-- the tests of a clause -/
def PTs (X : Cx) (ifs : List Expr) (t : TT) : Prop :=
  ∀ (pins : List (Addr × Obj)) (s : Shared) (σ : St) (H : Hp) (Q : Bool → Hp → Prop), Inv X pins σ H s → t σ H Q →
    wpAny (model X.prog X.w) X.A (forIn ifs true fun c r => if r = true then do let ok ← isTrue c X.env (eval c X.env); pure (ForInStep.yield ok) else pure (ForInStep.yield r)) (TP X pins σ Q) X.xe s
def tYes : TT := fun _ H Q => Q true H
theorem pts_nil {X : Cx} : PTs X [] tYes := fun pins s σ H Q I h => wpAny_tests_nil ⟨H, I, h⟩
/-- the context of a comprehension's block -/
def Cx.block (X : Cx) (scope : Scope) (cl : List (Str × Addr)) (N' : List Str) (s2 : Shared) (H2 : Hp) (fp : List Addr) : Cx where
  prog := X.prog
  w := X.w
  K := X.K
  mg := X.mg
  base := X.base
  A := X.A
  N := N'
  s₀ := s2
  H₀ := H2
  env := compEnvC scope cl s2.heap.objs.size X.env
  outer := X.stack
  stack := X.stack
  ex := fp
  fn := fun _ => false
  calm := X.calm
  pn := []
  xe := fun _ _ => False
/-- what a comprehension's scope must be: cl its closure, N' its names, cap where the captured ones stand in the def's own names -/
structure CompSc (X : Cx) (scope : Scope) (cl : List (Str × Addr)) (N' : List Str) (cap : List (Option Nat)) : Prop where
  clos : closureFor scope X.env = pure cl
  sub : ∀ x c, cl.lookup x = some c → X.env.cells.lookup x = some c
  has : ∀ x, ((relabel scope X.env).names.lookup x = some .cell ∨ (relabel scope X.env).names.lookup x = some .free) → ∃ c, cl.lookup x = some c
  kind : scope.kind = .function
  cell : ∀ y ∈ scope.names, y.2 ≠ .cell
  names : ∀ y ∈ scope.names, y.2 = .local → scope.names.lookup y.1 = some .local
  nd : N'.Nodup
  len : cap.length = N'.length
  noloc : ∀ x c, cl.lookup x = some c → X.env.kindOf x ≠ some .local
  capt : ∀ (i : Nat) (x : Str) (j : Nat), N'[i]? = some x → cap[i]? = some (some j) → X.N[j]? = some x ∧ ((relabel scope X.env).names.lookup x = some .cell ∨ (relabel scope X.env).names.lookup x = some .free) ∧ Vis X.env.scope x ∧ ∃ c, cl.lookup x = some c
def capσ (cap : List (Option Nat)) (σ : St) : St := cap.map fun o => o.bind fun j => (σ[j]?).join
section
variable {X : Cx} {pins : List (Addr × Obj)} {σ : St} {H : Hp} {s : Shared} {scope : Scope} {cl : List (Str × Addr)} {N' : List Str} {cap : List (Option Nat)} {fp : List Addr}
theorem block_ok (I : Inv X pins σ H s) (C : CompSc X scope cl N' cap) (hf : ∀ b ∈ fp, FpOk X pins H b) (ho : ∀ b ∈ fp, ∃ o, s.heap.get? b = some o) : (X.block scope cl N' s H fp).Ok where
  mod := I.ok.mod
  kind := C.kind
  glob := I.ok.glob
  blt := I.ok.blt
  above := Nat.le_refl _
  inj := fun x y c h1 h2 => I.ok.inj x y c (C.sub x c h1) (C.sub y c h2)
  has := fun x h => C.has x h
  cab := fun x c h _ => absurd (show false = true from h) Bool.false_ne_true
  hd := I.ok.hd
  frames := I.ok.frames
  stk := .inl rfl
  exf := fun b hb => ⟨fun z => by
    obtain ⟨o, e⟩ := ho b hb
    exact absurd (Heap.lt_size e) (by rw [z]; exact Nat.lt_irrefl _), fun x c h => (hf b hb).2.2.2.2.1 x c (C.sub x c h)⟩
  bs := I.bs
  bsz := Nat.le_trans I.ok.bsz I.sz
  noex := fun b o e hb => by
    rcases (hf b hb).2.2.2.1 with z | z
    · exact I.ok.noex b o e z
    · exact absurd (Nat.lt_of_lt_of_le (Heap.lt_size e) (Nat.le_trans I.ok.bsz z)) (Nat.lt_irrefl _)
  exfs := fun b hb z => by
    rcases List.mem_cons.mp (I.stkSub b z) with e | e
    · exact (hf b hb).2.1 e
    · exact (hf b hb).2.2.1 e
  funs := I.stack
  frf := I.stkFree
theorem block_inv {h1 : Heap} {tk : Nat} {m : Str → Option Value} (I : Inv X pins σ H s) (C : CompSc X scope cl N' cap) (hf : ∀ b ∈ fp, FpOk X pins H b) (ho : ∀ b ∈ fp, ∃ o, s.heap.get? b = some o)
    (hn : h1.Ns s.heap.objs.size m) (hk : ∀ b o, s.heap.get? b = some o → h1.get? b = some o) : Inv (X.block scope cl N' s H fp) [] (capσ cap σ) H { s with heap := h1, toks := tk } where
  ok := block_ok I C hf ho
  os := rfl
  bare := I.bare
  base := Un.kept hk
  loc := ⟨m, hn, fun i x v h1' h2 h3 => by
    unfold capσ at h2
    rw [List.getElem?_map] at h2
    cases e : cap[i]? with
    | none => rw [e] at h2; cases h2
    | some o =>
      rw [e] at h2
      cases o with
      | none => cases h2
      | some j =>
        obtain ⟨q1, q2, q3, c, q4⟩ := C.capt i x j h1' e
        have hv : (σ[j]?).join = some v := Option.some.inj h2
        have hσ : σ[j]? = some (some v) := by
          cases z : σ[j]? with
          | none => rw [z] at hv; cases hv
          | some y => rw [z] at hv; cases (show y = some v from hv); rfl
        obtain ⟨m0, hn0, hl0⟩ := I.loc
        obtain ⟨u, r, l⟩ := hl0 j x v q1 hσ q3
        refine ⟨u, r, .inr ⟨q2, c, q4, ?_⟩⟩
        rcases l with ⟨l1, _⟩ | ⟨_, c', l2, l3⟩
        · exact absurd l1 (C.noloc x c q4)
        · have := C.sub x c q4
          rw [l2] at this
          cases this
          exact l3.keeps hk⟩
  cell := fun x c h => by
    obtain ⟨v, z⟩ := I.cell x c (C.sub x c h)
    exact ⟨v, z.keeps hk⟩
  free := I.hok.fresh (Nat.le_refl _)
  freeC := fun x c h => I.freeC x c (C.sub x c h)
  pin := fun p hp => absurd (show p ∈ ([] : List (Addr × Obj)) from hp) (by simp)
  hok := I.hok.kept hk
  len := by unfold capσ; rw [List.length_map]; exact C.len
/-- behind the block -/
theorem block_out {H' : Hp} {s' : Shared} {h' : Heap} {σ' : St} {pl : List (Addr × Obj)} (I : Inv X pins σ H s) (J : Inv (X.block scope cl N' s H fp) pl σ' H' s') (hf : ∀ b ∈ fp, FpOk X pins H b) (hs : Heap.SameBut s.heap.objs.size s'.heap h') :
    Inv X pins σ H' { s' with heap := h' } := by
  have ne : ∀ b o, s.heap.get? b = some o → b ≠ s.heap.objs.size := fun b o e => Nat.ne_of_lt (Heap.lt_size e)
  have B : Un (frs X.stack) fp H H' s.heap s'.heap := J.base
  refine I.call' (s' := { s' with heap := h' }) (ch := fp) J.os ⟨fun b o e n h1 h2 => ?_, fun b o e n h1 h2 => ?_, B.free, fun b o e h2 => ?_, B.tups, B.frzs, B.tbls⟩ ?_ J.bare (fun b hb => ?_)
  · show h'.get? b = some o
    rw [hs.2 b (ne b o e)]; exact B.keep b o e n h1 h2
  · show ∃ sl, h'.get? b = _
    rw [hs.2 b (ne b o e)]; exact B.slot b o e n h1 h2
  · show ∃ o', h'.get? b = _
    rw [hs.2 b (ne b o e)]; exact B.there b o e h2
  · intro b u e
    have hfree : H' s.heap.objs.size = none := J.free
    have nC : ∀ c v, H' c = some v → c ≠ s.heap.objs.size := fun c v q z => by rw [z, hfree] at q; cases q
    refine (J.hok b u e).stay (fun c v hc q => ?_) (fun _ q => q) fun _ _ q => q
    show h'.get? c = some v
    have : c ≠ s.heap.objs.size := by
      rcases hc with z | z
      · rw [z]; exact nC b u e
      · exact nC c _ z
    rw [hs.2 c this]; exact q
  · obtain ⟨f0, f1, f2, f3, f4, f5⟩ := hf b hb
    exact ⟨f3, f1, f4, f5⟩
end
/-- D: the new list; W: what holds ahead of turn i, ys what the list has by then -/
def compGo (J : It) (g : TG) (tt : TT) (te : TE) (D : Addr) (Fin : Hp → Prop) (σ0 : St) (H1 : Hp) : Prop :=
  ∃ W : Nat → Nat → St → Hp → List V → Prop, (∃ m, W 0 m σ0 (upd H1 D (.lst [])) []) ∧ ∀ i m σ' H' ys, W i m σ' H' ys → H' D = some (.lst ys) ∧ ys.length < sizeLine ∧
    ((J.stop i H' ∧ Fin H') ∨ (J.go i H' ∧ ∀ x H2, J.yld i H' x H2 → g x σ' H2 fun σ2 H3 => tt σ2 H3 fun b H4 => if b = true then
      te σ2 H4 fun y H5 => ∃ zs, H5 D = some (.lst zs) ∧ zs.length < sizeLine ∧ ∃ m', m' < m ∧ W (i + 1) m' σ2 (upd H5 D (.lst (zs ++ [y]))) (zs ++ [y])
      else ∃ m', m' < m ∧ W (i + 1) m' σ2 H4 ys))
def tComp (wi : TI) (g : TG) (tt : TT) (te : TE) (cap : List (Option Nat)) : TE := fun σ H Q => wi σ H fun J H1 => ∀ D, H1 D = none → compGo J g tt te D (fun H' => Q (.ref D) H') (capσ cap σ) H1
section
variable {X : Cx} {scope : Scope} {cl : List (Str × Addr)} {N' : List Str} {cap : List (Option Nat)} {elt tg iter : Expr} {ifs : List Expr} {wi : TI} {g : TG} {tt : TT} {te : TE} {pos : Pos}
theorem block_run {pins : List (Addr × Obj)} {σ : St} {H2 : Hp} {s2 : Shared} {it : Addr} {fp : List Addr} {tn : Nat → Heap → Prop} {J : It} {E : Value → Shared → Prop} {RR : Value → Addr → Result → Shared → Prop} {Fin : Addr → Hp → Prop}
    (hc : X.calm = true) (C : CompSc X scope cl N' cap) (I2 : Inv X pins σ H2 s2) (T : Turn X.prog X.w X.K tg J fp it tn) (st2 : tn 0 s2.heap) (f2 : ∀ b ∈ fp, FpOk X pins H2 b)
    (hg : ∀ s3 H3 fp, PG (X.block scope cl N' s3 H3 fp) tg g) (ht : ∀ s3 H3 fp, PTs (X.block scope cl N' s3 H3 fp) ifs tt) (he : ∀ s3 H3 fp, PE (X.block scope cl N' s3 H3 fp) elt te)
    (go : ∀ D, H2 D = none → compGo J g tt te D (Fin D) (capσ cap σ) H2)
    (out : ∀ (D C : Addr) (s' : Shared) (m : Str → Option Value) (H' : Hp), s'.heap.Ns C m → C ≠ X.env.locals → H' C = none → X.s₀.heap.objs.size ≤ C → (∀ x c, X.env.cells.lookup x = some c → c ≠ C) → (∀ p ∈ X.pn ++ pins, p.1 ≠ C) → Fin D H' → Inv X pins σ H' s' → RR (.ref D) C (.ok .next) s') :
    wpAny (model X.prog X.w) X.A (newList []) (fun acc s₃ => wpAny (model X.prog X.w) X.A (newFunctionEnv scope X.env.globals cl [] X.env.qual none .none (some X.env)) (fun cenv s₄ =>
      codeAny (model X.prog X.w) X.A (.compStart (.ListComp elt [⟨tg, iter, ifs, 0⟩] scope pos) 0 (.ref it) acc { cenv with scope := relabel scope X.env }) (RR acc cenv.locals) s₄) E s₃) E s2 := by
  refine wpAny_newObj_type (wpAny_newFunctionEnv C.cell (by intro y hy; simp at hy) (fun h₁ hns₁ hsb₁ => ?_) C.kind)
  have hD : H2 s2.heap.objs.size = none := I2.hok.fresh (Nat.le_refl _)
  obtain ⟨W, ⟨m0, w0⟩, turn⟩ := go _ hD
  have I3 : Inv X pins σ (upd H2 s2.heap.objs.size (.lst [])) { s2 with heap := s2.heap.push { cls := .type "list", dict := none, data := .seq ([] : List Value).toArray } } :=
    I2.laid (t' := s2.toks) (o := .lst []) (fun b u e => Heap.get?_push_of_some _ e) (Nat.le_refl _) ⟨Nat.zero_le _, [], 0, .nil, Heap.get?_push_size _ rfl⟩
  have f3 : ∀ b ∈ fp, FpOk X pins (upd H2 s2.heap.objs.size (.lst [])) b := fun b hb => by
    obtain ⟨f0, fr⟩ := f2 b hb
    obtain ⟨o, e, _⟩ := T.obj _ _ st2 b hb
    exact ⟨by rw [upd_ne (Nat.ne_of_lt (Heap.lt_size e))]; exact f0, fr⟩
  generalize hs3 : ({ s2 with heap := s2.heap.push { cls := .type "list", dict := none, data := .seq ([] : List Value).toArray } } : Shared) = s3 at hns₁ hsb₁ I3 ⊢
  have o3 : ∀ b o, s2.heap.get? b = some o → s3.heap.get? b = some o := fun b o e => by rw [← hs3]; exact Heap.get?_push_of_some _ e
  have hk : ∀ b o, s3.heap.get? b = some o → h₁.get? b = some o := fun b o e => by
    rw [hsb₁.2 b (Nat.ne_of_lt (Heap.lt_size e))]; exact Heap.get?_push_of_some _ e
  have st3 : tn 0 s3.heap := T.keep _ _ _ st2 fun b _ o e => o3 b o e
  have ho : ∀ b ∈ fp, ∃ o, s3.heap.get? b = some o := fun b hb => let ⟨o, e, _⟩ := T.obj _ _ st3 b hb; ⟨o, e⟩
  have I4 := block_inv (tk := s3.toks + ([] : List (Str × Value)).length) I3 C f3 ho hns₁ hk
  have st4 : tn 0 h₁ := T.keep _ _ _ st3 fun b _ o e => hk b o e
  have hX : ∀ {H' : Hp} {pl : List (Addr × Obj)}, (∀ b ∈ fp, H' b = none) → (∀ p ∈ pl, p.1 ∉ fp) → ∀ b ∈ fp, FpOk (X.block scope cl N' s3 (upd H2 s2.heap.objs.size (.lst [])) fp) pl H' b := fun {H' pl} hn hp b hb => by
    refine ⟨hn b hb, I4.ok.exf b hb |>.1, I4.ok.exfs b hb, .inl hb, (I4.ok.exf b hb).2, fun p hp' z => ?_⟩
    have hp'' : p ∈ pl := by simpa [Cx.block] using hp'
    exact hp p hp'' (by rw [z]; exact hb)
  have fr3 : ∀ b ∈ fp, (upd H2 s2.heap.objs.size (.lst [])) b = none := fun b hb => (f3 b hb).1
  have loop : ∀ s₅ : Shared, s₅ = { s3 with heap := h₁, toks := s3.toks + ([] : List (Str × Value)).length } →
      codeAny (model X.prog X.w) X.A (.compLoop (.ListComp elt [⟨tg, iter, ifs, 0⟩] scope pos) 0 (.ref it) (.ref s2.heap.objs.size) (compEnvC scope cl s3.heap.objs.size X.env)) (RR (.ref s2.heap.objs.size) s3.heap.objs.size) s₅ := by
    rintro s₅ rfl
    refine compLoop_any (fun n s' => ∃ i σ' H' ys, Inv (X.block scope cl N' s3 (upd H2 s2.heap.objs.size (.lst [])) fp) [] σ' H' s' ∧ tn i s'.heap ∧ (∀ b ∈ fp, H' b = none) ∧ W i n σ' H' ys) ?_ m0 ⟨0, _, _, [], I4, st4, fr3, w0⟩
    rintro n s6 ⟨i, σ6, H6, ys, I6, st6, fr6, w6⟩
    obtain ⟨hl6, hz6, hgo⟩ := turn i n σ6 H6 ys w6
    rcases hgo with ⟨stop, fin⟩ | ⟨go', step⟩
    · refine wpAny_mono (T.done (X.block scope cl N' s3 (upd H2 s2.heap.objs.size (.lst [])) fp) rfl rfl rfl hc i [] s6 σ6 H6 (fun _ _ => False) I6 (hX fr6 (fun _ z => nomatch z)) st6 stop) (fun r s7 ⟨hr, I7⟩ => ?_) fun _ _ z => z.elim
      subst hr
      obtain ⟨m7, hn7, _⟩ := id I7.loc
      refine out _ _ s7 m7 H6 hn7 (Nat.ne_of_gt I3.lt) I7.free I3.sz (fun x c e z => ?_) (fun p hp z => ?_) fin (block_out I3 I7 f3 (.refl ..))
      · obtain ⟨v, q⟩ := I3.cell x c e
        exact absurd q.lt (by rw [z]; exact Nat.lt_irrefl _)
      · exact absurd (Heap.lt_size (I3.pin p hp).1) (by rw [z]; exact Nat.lt_irrefl _)
    · refine wpAny_mono (T.item (X.block scope cl N' s3 (upd H2 s2.heap.objs.size (.lst [])) fp) rfl rfl rfl hc i [] s6 σ6 H6 (fun _ _ => False) I6 (hX fr6 (fun _ z => nomatch z)) st6 go') (fun r s7 ⟨u, hr, h7⟩ => ?_) fun _ _ z => z.elim
      subst hr
      refine wpAny_mono h7 (fun _ s8 ⟨x, H8, I8, r8, y8, st8, fr8⟩ => ?_) fun _ _ z => z.elim
      have I8' := I8.pinned (hX fr8 (fun _ z => nomatch z)) (T.obj _ _ st8)
      have again : ∀ {s9 : Shared} {σ9 : St} {H9 : Hp}, Inv (X.block scope cl N' s3 (upd H2 s2.heap.objs.size (.lst [])) fp) ([] ++ pinsAt fp s8.heap) σ9 H9 s9 → ∀ {zs : List V}, (∃ m', m' < n ∧ W (i + 1) m' σ9 H9 zs) →
          ∃ m, m < n ∧ ∃ i σ' H' ys, Inv (X.block scope cl N' s3 (upd H2 s2.heap.objs.size (.lst [])) fp) [] σ' H' s9 ∧ tn i s9.heap ∧ (∀ b ∈ fp, H' b = none) ∧ W i m σ' H' ys := fun {s9 σ9 H9} I9 {zs} ⟨m', hm, w9⟩ => by
        refine ⟨m', hm, i + 1, σ9, H9, zs, I9.unpinned, T.keep _ _ _ st8 fun b hb o e => (I9.pin (b, o) (List.mem_append_right _ (List.mem_append_right _ (mem_pinsAt hb e)))).1, fun b hb => ?_, w9⟩
        obtain ⟨o, e, d⟩ := T.obj _ _ st8 b hb
        exact (I9.pin (b, o) (List.mem_append_right _ (List.mem_append_right _ (mem_pinsAt hb e)))).2.1
      refine wpAny_mono (hg _ _ _ _ s8 σ6 H8 x u _ I8' r8 (step x H8 y8)) (fun _ s9 ⟨σ9, H9, I9, q9⟩ => ?_) fun _ _ z => z.elim
      refine wpAny_mono (ht _ _ _ _ s9 σ9 H9 _ I9 q9) (fun ok s10 ⟨H10, I10, q10⟩ => ?_) fun _ _ z => z.elim
      cases ok with
      | false => exact again I10 q10
      | true =>
        rw [if_pos rfl]
        refine wpAny_mono (he _ _ _ _ s10 σ9 H10 _ I10 q10) (fun yv s11 ⟨y, H11, I11, r11, zs, hz, hlen, q11⟩ => ?_) fun _ _ z => z.elim
        refine wpAny_mono (mt_append (X := X.block scope cl N' s3 (upd H2 s2.heap.objs.size (.lst [])) fp) _ s11 σ9 H11 (.ref s2.heap.objs.size) [y] (.ref s2.heap.objs.size) [yv] (fun _ H' => ∃ m', m' < n ∧ W (i + 1) m' σ9 H' (zs ++ [y])) I11 rfl (.cons r11 .nil) ⟨_, zs, y, rfl, rfl, hz, hlen, q11⟩) (fun _ s12 ⟨_, H12, I12, _, q12⟩ => ?_) fun _ _ z => z.elim
        exact again I12 q12
  exact codeAny_compStart_list (loop _ rfl) (T.self _ 0 _ _ _ st4 (loop _ rfl))
theorem pe_comp (hc : X.calm = true) (C : CompSc X scope cl N' cap) (hi : PI X tg iter wi) (hg : ∀ s3 H3 fp, PG (X.block scope cl N' s3 H3 fp) tg g) (ht : ∀ s3 H3 fp, PTs (X.block scope cl N' s3 H3 fp) ifs tt)
    (he : ∀ s3 H3 fp, PE (X.block scope cl N' s3 H3 fp) elt te) (hs : ∀ x, foldedSetIterable iter X.env x = pure x := by intro _; rfl) : PE X (.ListComp elt [⟨tg, iter, ifs, 0⟩] scope pos) (tComp wi g tt te cap) := by
  intro pins s σ H Q I h
  rw [eval_ListComp]
  refine wpAny_comprehension_free (use := none) rfl hs C.clos C.kind C.names (thn (hi pins s σ H _ I h) fun v s1 h1 => thn h1 fun itv s2 h2 => ?_)
  obtain ⟨it, fp, tn, J, H2, e, I2, T, st2, f2, go⟩ := h2
  subst e
  refine block_run (RR := fun acc C => compPost (model X.prog X.w) X.A X.xe none (EP X pins σ Q) acc C) (Fin := fun D H' => Q (.ref D) H') hc C I2 T st2 f2 hg ht he go ?_
  intro D C' s' m H' hn n1 n2 n3 n4 n5 fin inv
  exact ⟨m, hn, fun h' hs' => ⟨.ref D, H', inv.turned (t' := s'.toks) (fun b o hb e => (hs'.2 b hb).trans e) n2 n1 (.inr n3) n4 n5, rfl, fin⟩⟩
end
end L2

namespace L2
open PySem PySem.Spec PyProof.Rows
/-! the closure of a comprehension's scope, reckoned -/
def clAcc (env : Env) : List (Str × NameKind) → List (Str × Addr) → List (Str × Addr)
  | [], acc => acc
  | (n, k) :: r, acc => clAcc env r (if (k == .free) = true then (n, (env.cells.lookup n).getD 0) :: acc else acc)
theorem clAcc_eq {env : Env} : ∀ (l : List (Str × NameKind)) (acc : List (Str × Addr)), (∀ p ∈ l, p.2 = .free → (env.cells.lookup p.1).isSome = true) →
    (forIn l acc (fun x s => match x with
      | (name, kind) => if (kind == NameKind.free) = true then do
          let a ← cellOf env name
          pure (ForInStep.yield ((name, a) :: s))
        else pure (ForInStep.yield s)) : Sem (List (Str × Addr))) = pure (clAcc env l acc)
  | [], acc, _ => rfl
  | (n, k) :: r, acc, h => by
    rw [List.forIn_cons]
    have hr := fun p hp => h p (List.mem_cons_of_mem _ hp)
    by_cases hk : (k == NameKind.free) = true
    · have h1 := h (n, k) List.mem_cons_self (by simpa using hk)
      obtain ⟨c, hc⟩ := Option.isSome_iff_exists.mp h1
      have hc : env.cells.lookup n = some c := hc
      have e1 : cellOf env n = pure c := by unfold cellOf; rw [hc]
      simp only [hk, if_true, e1, pure_bind]
      rw [clAcc_eq r _ hr]
      show _ = pure (clAcc env r (if (k == .free) = true then (n, (env.cells.lookup n).getD 0) :: acc else acc))
      rw [if_pos hk, hc]
      rfl
    · simp only [hk, Bool.false_eq_true, if_false, pure_bind]
      rw [clAcc_eq r _ hr]
      show _ = pure (clAcc env r (if (k == .free) = true then (n, (env.cells.lookup n).getD 0) :: acc else acc))
      rw [if_neg hk]
theorem clAcc_mem {env : Env} : ∀ (l : List (Str × NameKind)) (acc : List (Str × Addr)) (p : Str × Addr), p ∈ clAcc env l acc → p ∈ acc ∨ ((p.1, NameKind.free) ∈ l ∧ p.2 = (env.cells.lookup p.1).getD 0)
  | [], acc, p, h => .inl h
  | (n, k) :: r, acc, p, h => by
    rcases clAcc_mem r _ p h with z | ⟨z, e⟩
    · by_cases hk : (k == NameKind.free) = true
      · rw [if_pos hk] at z
        rcases List.mem_cons.mp z with rfl | z
        · right
          have : k = .free := by simpa using hk
          subst this
          exact ⟨List.mem_cons_self, rfl⟩
        · exact .inl z
      · rw [if_neg hk] at z
        exact .inl z
    · exact .inr ⟨List.mem_cons_of_mem _ z, e⟩
theorem clAcc_has {env : Env} : ∀ (l : List (Str × NameKind)) (acc : List (Str × Addr)) (x : Str), ((∃ c, (x, c) ∈ acc) ∨ (x, NameKind.free) ∈ l) → ∃ c, (x, c) ∈ clAcc env l acc
  | [], acc, x, h => by
    rcases h with h | h
    · exact h
    · exact absurd h (by simp)
  | (n, k) :: r, acc, x, h => by
    refine clAcc_has r _ x ?_
    rcases h with ⟨c, h⟩ | h
    · left
      by_cases hk : (k == NameKind.free) = true
      · rw [if_pos hk]; exact ⟨c, List.mem_cons_of_mem _ h⟩
      · rw [if_neg hk]; exact ⟨c, h⟩
    · rcases List.mem_cons.mp h with e | h
      · left
        cases e
        rw [if_pos (by rfl)]
        exact ⟨_, List.mem_cons_self⟩
      · exact .inr h
theorem lookup_of_mem {β : Type} {x : Str} : ∀ {l : List (Str × β)} {c : β}, (x, c) ∈ l → ∃ c', l.lookup x = some c'
  | (n, d) :: r, c, h => by
    by_cases e : x = n
    · subst e; exact ⟨d, by simp [List.lookup_cons]⟩
    · rcases List.mem_cons.mp h with z | z
      · cases z; exact absurd rfl e
      · obtain ⟨c', q⟩ := lookup_of_mem z
        refine ⟨c', ?_⟩
        rw [List.lookup_cons]
        have : (x == n) = false := by simpa using e
        rw [this]; exact q
theorem relabel_lookup {scope : Scope} {env : Env} {x : Str} {k : NameKind} (hcell : ∀ y ∈ scope.names, y.2 ≠ .cell) (h : (relabel scope env).names.lookup x = some k) (hk : k = .cell ∨ k = .free) : (x, NameKind.free) ∈ scope.names := by
  have h1 := PySem.mem_of_lookup h
  obtain ⟨⟨n, k'⟩, hm, e⟩ := List.mem_map.mp (show (x, k) ∈ scope.names.map _ from h1)
  dsimp only at e
  split at e
  · rename_i q
    cases e
    simp only [Bool.and_eq_true] at q
    have : k' = .free := by simpa using q.1.1
    subst this
    exact hm
  · cases e
    rcases hk with rfl | rfl
    · exact absurd rfl (hcell _ hm)
    · exact hm
theorem relabel_free_go {env : Env} {x : Str} : ∀ {l : List (Str × NameKind)}, l.lookup x = some .free →
    (l.map fun (n, k) => if (k == NameKind.free && env.scope.kind == .function && env.kindOf n == some .cell) then (n, NameKind.cell) else (n, k)).lookup x = some .cell ∨
    (l.map fun (n, k) => if (k == NameKind.free && env.scope.kind == .function && env.kindOf n == some .cell) then (n, NameKind.cell) else (n, k)).lookup x = some .free
  | [], h => by simp at h
  | (n, k) :: r, h => by
    rw [List.lookup_cons] at h
    rw [List.map_cons]
    dsimp only
    by_cases e : (x == n) = true
    · rw [e] at h
      have hk : k = .free := by simpa using h
      subst hk
      by_cases q : (NameKind.free == NameKind.free && env.scope.kind == .function && env.kindOf n == some .cell) = true
      · left; rw [if_pos q, List.lookup_cons, e]
      · right; rw [if_neg q, List.lookup_cons, e]
    · have e' : (x == n) = false := by simpa using e
      rw [e'] at h
      have := relabel_free_go (env := env) h
      by_cases q : (k == NameKind.free && env.scope.kind == .function && env.kindOf n == some .cell) = true
      · rw [if_pos q, List.lookup_cons, e']; exact this
      · rw [if_neg q, List.lookup_cons, e']; exact this
theorem relabel_free {scope : Scope} {env : Env} {x : Str} (h : scope.names.lookup x = some .free) : (relabel scope env).names.lookup x = some .cell ∨ (relabel scope env).names.lookup x = some .free := relabel_free_go h
theorem compSc_of {X : Cx} {scope : Scope} {N' : List Str} {cap : List (Option Nat)}
    (h1 : scope.names.all (fun p => !(p.2 == .free) || ((X.env.cells.lookup p.1).isSome && !(X.env.kindOf p.1 == some .local))) = true)
    (hk : scope.kind = .function) (h2 : scope.names.all (fun p => !(p.2 == .cell)) = true) (h3 : scope.names.all (fun p => !(p.2 == .local) || scope.names.lookup p.1 == some .local) = true)
    (nd : N'.Nodup) (len : cap.length = N'.length)
    (h4 : (N'.zip cap).all (fun q => match q.2 with | none => true | some j => (X.N[j]? == some q.1) && (scope.names.lookup q.1 == some .free) && (X.env.scope.names.lookup q.1 == some .cell || X.env.scope.names.lookup q.1 == some .free)) = true) :
    CompSc X scope (clAcc X.env scope.names []) N' cap := by
  have hfree : ∀ p ∈ scope.names, p.2 = .free → (X.env.cells.lookup p.1).isSome = true ∧ X.env.kindOf p.1 ≠ some .local := fun p hp e => by
    have := List.all_eq_true.mp h1 p hp
    rw [e] at this
    have this : ((X.env.cells.lookup p.1).isSome && !(X.env.kindOf p.1 == some .local)) = true := this
    rw [Bool.and_eq_true] at this
    refine ⟨this.1, fun z => ?_⟩
    rw [z] at this
    exact absurd this.2 (by decide)
  have hcell : ∀ y ∈ scope.names, y.2 ≠ .cell := fun y hy e => by
    have := List.all_eq_true.mp h2 y hy
    rw [e] at this
    exact absurd this (by decide)
  have memsub : ∀ x c, (clAcc X.env scope.names []).lookup x = some c → (x, NameKind.free) ∈ scope.names ∧ X.env.cells.lookup x = some c := fun x c h => by
    rcases clAcc_mem _ _ _ (PySem.mem_of_lookup h) with z | ⟨z, e⟩
    · exact absurd z (by simp)
    · refine ⟨z, ?_⟩
      obtain ⟨c', hc'⟩ := Option.isSome_iff_exists.mp (hfree _ z rfl).1
      have hc' : X.env.cells.lookup x = some c' := hc'
      have e : c = (X.env.cells.lookup x).getD 0 := e
      rw [hc'] at e ⊢
      exact congrArg some e.symm
  refine ⟨?_, fun x c h => (memsub x c h).2, fun x h => ?_, hk, hcell, fun y hy e => ?_, nd, len, fun x c h => (hfree _ (memsub x c h).1 rfl).2, fun i x j hi hc => ?_⟩
  · unfold closureFor
    show (forIn scope.names [] _ >>= fun r => pure r) = _
    rw [clAcc_eq scope.names [] fun p hp e => (hfree p hp e).1]
    rfl
  · have hm : (x, NameKind.free) ∈ scope.names := by
      rcases h with h | h
      · exact relabel_lookup hcell h (.inl rfl)
      · exact relabel_lookup hcell h (.inr rfl)
    obtain ⟨c, hc⟩ := clAcc_has (env := X.env) scope.names [] x (.inr hm)
    exact lookup_of_mem hc
  · have := List.all_eq_true.mp h3 y hy
    rw [e] at this
    simpa using this
  · have hz : (x, some j) ∈ N'.zip cap := by
      refine List.mem_iff_getElem?.mpr ⟨i, ?_⟩
      rw [List.getElem?_zip_eq_some]
      exact ⟨hi, hc⟩
    have := List.all_eq_true.mp h4 _ hz
    simp only [Bool.and_eq_true, Bool.or_eq_true, beq_iff_eq] at this
    obtain ⟨⟨q1, q2⟩, q3⟩ := this
    refine ⟨q1, relabel_free q2, ?_, ?_⟩
    · rcases q3 with q | q
      · exact .inr (.inl q)
      · exact .inr (.inr q)
    · obtain ⟨c, hc⟩ := clAcc_has (env := X.env) scope.names [] x (.inr (PySem.mem_of_lookup q2))
      exact lookup_of_mem hc
/-! name = [.. for ..] -/
def tSetComp (wi : TI) (g : TG) (tt : TT) (te : TE) (cap : List (Option Nat)) (i : Nat) : TS := fun D σ H => wi σ H fun J H1 => ∀ l, H1 l = none → compGo J g tt te l (fun H' => D.nx (σ.set i (some (.ref l))) H') (capσ cap σ) H1
section
variable {X : Cx} {scope : Scope} {cl : List (Str × Addr)} {N' : List Str} {cap : List (Option Nat)} {elt tg iter : Expr} {ifs : List Expr} {wi : TI} {g : TG} {tt : TT} {te : TE} {pos spos py : Pos} {y : Str} {i : Nat}
theorem ps_setComp (hc : X.calm = true) (hN : X.N.Nodup) (hi : X.N[i]? = some y) (hy : X.env.scope.names.lookup y = some .local) (C : CompSc X scope cl N' cap) (hit : PI X tg iter wi) (hg : ∀ s3 H3 fp, PG (X.block scope cl N' s3 H3 fp) tg g)
    (ht : ∀ s3 H3 fp, PTs (X.block scope cl N' s3 H3 fp) ifs tt) (he : ∀ s3 H3 fp, PE (X.block scope cl N' s3 H3 fp) elt te)
    (hsw : swapsWith (.ListComp elt [⟨tg, iter, ifs, 0⟩] scope pos) (some (.Name y py)) spos.line X.env = pure true) (hs : ∀ x, foldedSetIterable iter X.env x = pure x := by intro _; rfl) :
    PS X (.Assign [.Name y py] (.ListComp elt [⟨tg, iter, ifs, 0⟩] scope pos) spos) (tSetComp wi g tt te cap i) := by
  intro pins s σ H D I h
  rw [exec_Assign_Name_used _ _ _ _ hsw]
  refine wpAny_bind (wpAny_standAt (wpAny_bind ?_))
  show wpAny _ X.A (do let _ ← comprehension (.ListComp elt [⟨tg, iter, ifs, 0⟩] scope pos) scope X.env _ (newList []) false (eval iter X.env) (some (assign (.Name y py) X.env))) _ _ s
  refine wpAny_bind (wpAny_mono (wpAny_comprehension_free (use := some (assign (.Name y py) X.env)) (Q := fun _ s' => SP X pins D .next s') rfl hs C.clos C.kind C.names
    (thn (hit pins s σ H _ I h) fun v s1 h1 => thn h1 fun itv s2 h2 => ?_)) (fun _ s' hq => wpAny_pure (wpAny_pure hq)) fun _ _ e => e)
  obtain ⟨it, fp, tn, J, H2, e, I2, T, st2, f2, go⟩ := h2
  subst e
  refine block_run (RR := fun acc C => compPost (model X.prog X.w) X.A X.xe (some (assign (.Name y py) X.env)) (fun _ s' => SP X pins D .next s') acc C) (Fin := fun l H' => D.nx (σ.set i (some (.ref l))) H') hc C I2 T st2 f2 hg ht he go ?_
  intro l C' s' m H' hn n1 n2 n3 n4 n5 fin inv
  show wpAny _ X.A (assign (.Name y py) X.env (.ref l)) _ _ _
  refine wpAny_assign_Name (store_ok2 (v := .ref l) inv hN hi (.inl hy) rfl (fun s'' I'' ⟨a, sb, ha⟩ => ?_) (.inr hy))
  have na : C' ≠ a := by
    rcases ha with e | e
    · rw [e]; exact n1
    · exact (n4 _ _ e).symm
  exact ⟨m, hn.sameBut sb na, fun h' hs' => ⟨_, H', I''.turned (t' := s''.toks) (fun b o hb e => (hs'.2 b hb).trans e) n2 n1 (.inr n3) n4 n5, fin⟩⟩
end
/-! the same rules, the part of the top named (within a block) -/
section
variable {X : Cx} {K : PySem.W.Frag}
theorem pg_tupK {pos : Pos} {es : List Expr} {k : Nat} {t : TGs} {n : Nat} (h : X.K = K) (hc : X.calm = true) (hg : PGs X es t)
    (hn : (assignEach es X.env).length = n := by rfl) (hst : (assignEach es X.env).findIdx? (·.1) = none := by rfl) : PG X (.Tuple es k pos) (gTup K n t) := by subst h; exact pg_tup hc hg hn hst
end
end L2

/-! ### what all my laws share: fractions on the heap, the drawing of numbers -/
namespace Prf
open PySem L2 My
abbrev Hpp := L2.Hp
theorem ifD {p : Prop} [Decidable p] {A B : Prop} (h1 : p → A) (h2 : ¬ p → B) : if decide p = true then A else B := by
  by_cases h : p
  · rw [decide_eq_true h]; exact h1 h
  · rw [decide_eq_false h]; exact h2 h
/-! the draw -/
structure StAt (H : Hpp) (p : Addr) : Prop where
  ex : ∃ (c m : Int) (f : Bool), H p = some (.lst [.int c, .int m, .bl f]) ∧ 0 ≤ m ∧ m < 2147483648
theorem StAt.same {H H' : Hpp} {p : Addr} (h : StAt H p) (e : Same H H') : StAt H' p := by
  obtain ⟨c, m, f, h, r⟩ := h.ex; exact ⟨c, m, f, e _ _ h, r⟩
theorem StAt.kp {H H' : Hpp} {p l : Addr} (h : StAt H p) (n : p ≠ l) (e : Kp l H H') : StAt H' p := by
  obtain ⟨c, m, f, h, r⟩ := h.ex; exact ⟨c, m, f, e _ _ n h, r⟩
def sp_begun (K : PySem.W.Frag) : Sp := fun vs H Q _ => ∃ (a : Addr) (ns : List Int) (k : Int), vs = [.ref a, .int k] ∧ SqL K H a (ns.map V.int) ∧ 0 ≤ k ∧ k ≤ 63 ∧ ∀ p H', H p = none → StAt H' p → Kp p H H' → Q (.ref p) H'
def sp_take : Sp := fun vs H Q _ => ∃ (p : Addr) (n : Int), vs = [.ref p, .int n] ∧ StAt H p ∧ 0 < n ∧ Sm 4000 n ∧ ∀ d H', 0 ≤ d → d < n → StAt H' p → Kp p H H' → Q (.int d) H'
def spLaw (K : PySem.W.Frag) : Sp := fun vs H Q _ => ∃ (a : Addr) (ns : List Int), vs = [.ref a] ∧ SqL K H a (ns.map V.int) ∧ ns.length ≤ 63 ∧ ∀ H', Q (.bl true) H'
theorem sm32 {m : Int} (h0 : 0 ≤ m) (h1 : m < 2147483648) : Sm 8000 m := Sm.mono (k := 32) (by unfold Sm; omega) (by decide)
theorem sm_lit {m : Int} (n : Nat) (h : m.natAbs < 2 ^ 64 := by decide) : Sm 8000 m := Sm.mono (k := 64) h (by decide)
theorem sm_gcd {k : Nat} {t b : Int} (h : Sm k b) (hb : b ≠ 0) : Sm k ((Int.gcd t b : Nat) : Int) := by
  have h1 : Int.gcd t b ∣ b.natAbs := Nat.gcd_dvd_right _ _
  have h2 := Nat.le_of_dvd (by omega) h1
  exact h.le (by simpa using h2)
theorem sm_sh {k : Nat} {t b : Int} (h : Sm k b) (hb : b ≠ 0) : Sm k (sh t b) := by
  have h1 : Int.gcd t b ∣ b.natAbs := Nat.gcd_dvd_right _ _
  have h2 := Nat.le_of_dvd (by omega) h1
  exact h.le (by rw [sh_abs]; exact h2)
end Prf

namespace Prf
open PySem L2 My
theorem cpow10 (n : Nat) (h : (n : Int) ≤ 1000000 := by decide) : CPow 10 (n : Int) := ⟨by omega, h, by decide⟩
theorem sm4 (n : Int) (h : n.natAbs < 2 ^ 64 := by decide) : Sm 4000 n := Sm.mono (k := 64) h (by decide)
theorem sm_small {k : Int} (h0 : 0 ≤ k) (h1 : k ≤ 63) : Sm 8000 k := sm32 h0 (by omega)
theorem sm_s20 {k : Int} (h0 : 0 ≤ k) (h1 : k ≤ 63) : Sm 20 k := by unfold Sm; omega
theorem sm_bit (b : Bool) : Sm 8000 (if b = true then (1 : Int) else 0) := by cases b <;> exact sm_lit 0
theorem kit_tt : kitB "tuple" "tuple" = some true := by decide +kernel
theorem kit_ib : kitB "int" "bool" = some false := by decide +kernel
end Prf

/-! ### what the laws of offers share -/
namespace Prf
open PySem L2 My
/-- a list of things, one for each -/
inductive R2L {α : Type} (P : Addr → α → Prop) : List V → List α → Prop
  | nil : R2L P [] []
  | cons {a : Addr} {q : α} {rs : List V} {qs : List α} : P a q → R2L P rs qs → R2L P (.ref a :: rs) (q :: qs)
section
variable {α : Type} {P P' : Addr → α → Prop}
theorem R2L.get : ∀ {rs qs} {i : Nat} {x : V}, R2L P rs qs → rs[i]? = some x → ∃ a q, x = .ref a ∧ qs[i]? = some q ∧ P a q
  | _, _, _, _, .nil, e => by simp at e
  | _, _, 0, _, .cons h _, e => by simp at e; subst e; exact ⟨_, _, rfl, rfl, h⟩
  | _, _, i + 1, x, .cons _ t, e => by
    obtain ⟨a, q, h1, h2, h3⟩ := R2L.get (i := i) (x := x) t (by simpa using e)
    exact ⟨a, q, h1, by simpa using h2, h3⟩
end
/-- the offers that are drawn -/
structure OfOk (cs : List (Rat × Rat)) (a b c d : Nat) : Prop where
  ne : 1 ≤ cs.length
  le : cs.length ≤ 5
  dec : Dec cs
  sm : ∀ x ∈ cs, SmR a b x.1 ∧ SmR c d x.2
def dq (q : Rat) : PyData := .tuple [.int q.num, .int q.den]
def dcn (c : Rat × Rat) : PyData := .tuple [dq c.1, dq c.2]
theorem dcs_lay : ∀ cs : List (Rat × Rat), PyData.canLayAll0 (cs.map dcn) = true
  | [] => rfl
  | c :: r => by
    show ((dcn c).canLay0 && PyData.canLayAll0 (r.map dcn)) = true
    rw [show (dcn c).canLay0 = true from rfl, dcs_lay r]; rfl
theorem dcs_depth : ∀ cs : List (Rat × Rat), PyData.depthAll (cs.map dcn) ≤ 2
  | [] => Nat.zero_le _
  | c :: r => by
    show max (dcn c).depth (PyData.depthAll (r.map dcn)) ≤ 2
    have h1 := dcs_depth r
    have h2 : (dcn c).depth = 2 := rfl
    omega
theorem sm_of {k : Nat} {z : Int} {B : Nat} (h0 : -(B : Int) ≤ z) (h1 : z ≤ B) (hB : B < 2 ^ k) : Sm k z := by
  unfold Sm; omega
/-! comprehensions by a word -/
end Prf

set_option maxHeartbeats 4000000
/-! ### a layer of plain data over the hand layer: no heaps in the readings -/
namespace L2
open PySem
mutual
theorem Den.same {K : PySem.W.Frag} {F F' : Hp} (e : Same F F') : ∀ {v : V} {x : PyData}, Den K F v x → Den K F' v x
  | _, _, .non => .non
  | _, _, .bl b => .bl b
  | _, _, .int i => .int i
  | _, _, .str x => .str x
  | _, _, .lst h t => .lst (e.seq h) (DenAll.same e t)
  | _, _, .tup h t => .tup (SqT.same e h) (DenAll.same e t)
  | _, _, .dct h => .dct (e _ _ h)
theorem DenAll.same {K : PySem.W.Frag} {F F' : Hp} (e : Same F F') : ∀ {vs : List V} {xs : List PyData}, DenAll K F vs xs → DenAll K F' vs xs
  | _, _, .nil => .nil
  | _, _, .cons h t => .cons (Den.same e h) (DenAll.same e t)
end
section
variable {K : PySem.W.Frag} {F : Hp}
theorem Den.intE {v : V} {i : Int} (h : Den K F v (.int i)) : v = .int i := by cases h; rfl
theorem Den.blE {v : V} {b : Bool} (h : Den K F v (.bool b)) : v = .bl b := by cases h; rfl
theorem Den.nonE {v : V} (h : Den K F v .none) : v = .non := by cases h; rfl
theorem Den.tupE {v : V} {xs : List PyData} (h : Den K F v (.tuple xs)) : ∃ a vs, v = .ref a ∧ SqT K F a vs ∧ DenAll K F vs xs := by cases h; exact ⟨_, _, rfl, ‹_›, ‹_›⟩
theorem Den.lstE {v : V} {xs : List PyData} (h : Den K F v (.list xs)) : ∃ a vs, v = .ref a ∧ SqL K F a vs ∧ DenAll K F vs xs := by cases h; exact ⟨_, _, rfl, ‹_›, ‹_›⟩
theorem DenAll.len : ∀ {vs : List V} {xs : List PyData}, DenAll K F vs xs → vs.length = xs.length
  | _, _, .nil => rfl
  | _, _, .cons _ t => congrArg (· + 1) (DenAll.len t)
theorem DenAll.get : ∀ {vs : List V} {xs : List PyData} {i : Nat} {v : V}, DenAll K F vs xs → vs[i]? = some v → ∃ x, xs[i]? = some x ∧ Den K F v x
  | _, _, _, _, .nil, e => by simp at e
  | _, _, 0, _, .cons h _, e => by simp at e; subst e; exact ⟨_, rfl, h⟩
  | _, _, i + 1, v, .cons _ t, e => by
    obtain ⟨x, h1, h2⟩ := DenAll.get (i := i) (v := v) t (by simpa using e)
    exact ⟨x, by simpa using h1, h2⟩
theorem DenAll.at : ∀ {vs : List V} {xs : List PyData} {i : Nat} {x : PyData}, DenAll K F vs xs → xs[i]? = some x → ∃ v, vs[i]? = some v ∧ Den K F v x
  | _, _, _, _, .nil, e => by simp at e
  | _, _, 0, _, .cons h _, e => by simp at e; subst e; exact ⟨_, rfl, h⟩
  | _, _, i + 1, x, .cons _ t, e => by
    obtain ⟨v, h1, h2⟩ := DenAll.at (i := i) (x := x) t (by simpa using e)
    exact ⟨v, by simpa using h1, h2⟩
theorem DenAll.app : ∀ {vs us : List V} {xs ys : List PyData}, DenAll K F vs xs → DenAll K F us ys → DenAll K F (vs ++ us) (xs ++ ys)
  | _, _, _, _, .nil, h => h
  | _, _, _, _, .cons h t, h' => .cons h (DenAll.app t h')
theorem DenAll.drop : ∀ {vs : List V} {xs : List PyData} (n : Nat), DenAll K F vs xs → DenAll K F (vs.drop n) (xs.drop n)
  | _, _, 0, h => by simpa using h
  | _, _, _ + 1, .nil => by simpa using DenAll.nil
  | _, _, n + 1, .cons _ t => by simpa using DenAll.drop n t
theorem DenAll.take : ∀ {vs : List V} {xs : List PyData} (n : Nat), DenAll K F vs xs → DenAll K F (vs.take n) (xs.take n)
  | _, _, 0, _ => by simpa using DenAll.nil
  | _, _, _ + 1, .nil => by simpa using DenAll.nil
  | _, _, n + 1, .cons h t => by simpa using DenAll.cons h (DenAll.take n t)
theorem DenAll.dropLast {vs : List V} {xs : List PyData} (h : DenAll K F vs xs) : DenAll K F vs.dropLast xs.dropLast := by
  rw [List.dropLast_eq_take, List.dropLast_eq_take, h.len]; exact h.take _
theorem DenAll.atIE {vs : List V} {xs : List PyData} {i : Int} {x : PyData} (h : DenAll K F vs xs) (e : L2.atI xs i = some x) : ∃ v, L2.atI vs i = some v ∧ Den K F v x := by
  unfold L2.atI at *
  rw [h.len]
  cases q : ixN xs.length i with
  | none => rw [q] at e; cases e
  | some j => rw [q] at e; exact DenAll.at h e
end
end L2
namespace Pu
open PySem L2 My Prf
abbrev Frag := PySem.W.Frag
/-- a thing of one's own of several lists and tuples, with their places -/
inductive OT where
  | leaf (x : PyData) | nd (b : Bool) (a : Addr) (k : OT) | nil | cons (h t : OT)
def OT.fp : OT → List Addr
  | .leaf _ => []
  | .nd _ a k => a :: k.fp
  | .nil => []
  | .cons h t => h.fp ++ t.fp
def OT.dat : OT → List PyData
  | .leaf x => [x]
  | .nd true _ k => [.list k.dat]
  | .nd false _ k => [.tuple k.dat]
  | .nil => []
  | .cons h t => h.dat ++ t.dat
def OT.put (a : Addr) (n : OT) : OT → OT
  | .leaf x => .leaf x
  | .nd b a' k => .nd b a' (if a' = a then n else OT.put a n k)
  | .nil => .nil
  | .cons h t => .cons (OT.put a n h) (OT.put a n t)
inductive SV where
  | d (x : PyData) | own (xs : List PyData) | bor (xs : List PyData) | st | tr (t : OT) | bt (t : OT)
def SV.foot (v : V) : SV → Addr → Prop
  | .own _, a => v = .ref a
  | .tr t, a => a ∈ t.fp
  | _, _ => False
def SV.isRes : SV → Bool
  | .bor _ => false
  | .bt _ => false
  | _ => true
abbrev PEnv := List (Option SV)
/-! worlds -/
structure Wd where
  M : Addr → Prop
  H : Hpp
  F : Hpp
structure Wd.Ok (w : Wd) : Prop where
  sub : Same w.F w.H
  st : ∀ p, w.M p → StAt w.H p
  nf : ∀ p, w.M p → w.F p = none
structure Lw (w w' : Wd) : Prop where
  f : Same w.F w'.F
  h : ∀ b o, w.H b = some o → ¬ w.M b → w'.H b = some o
  m : ∀ b, w.M b → w'.M b
  mn : ∀ b, w'.M b → w.M b ∨ w.H b = none
  dom : ∀ b, w'.H b = none → w.H b = none
structure Le (w w' : Wd) : Prop extends Lw w w' where
  n : ∀ a o, w'.F a = some o → w.F a = some o ∨ w.H a = none
theorem Lw.refl (w : Wd) : Lw w w := ⟨Same.refl _, fun _ _ h _ => h, fun _ h => h, fun _ h => .inl h, fun _ h => h⟩
theorem Le.refl (w : Wd) : Le w w := ⟨Lw.refl w, fun _ _ h => .inl h⟩
theorem Lw.nm {w w' : Wd} (a : Lw w w') {b : Addr} (h : w.H b ≠ none) (n : ¬ w.M b) : ¬ w'.M b := fun z => (a.mn b z).elim n h
theorem Lw.trans {w w1 w2 : Wd} (a : Lw w w1) (b : Lw w1 w2) : Lw w w2 :=
  ⟨a.f.trans b.f, fun c o h n => b.h c o (a.h c o h n) (a.nm (by rw [h]; simp) n), fun c h => b.m c (a.m c h),
   fun c h => (b.mn c h).elim (a.mn c) fun z => .inr (a.dom c z), fun c h => a.dom c (b.dom c h)⟩
theorem Le.trans {w w1 w2 : Wd} (a : Le w w1) (b : Le w1 w2) : Le w w2 :=
  ⟨a.toLw.trans b.toLw, fun c o h => (b.n c o h).elim (a.n c o) fun z => .inr (a.dom c z)⟩
theorem Le.fnone {w w' : Wd} (a : Le w w') {l : Addr} (h : w.F l = none) (h' : w.H l ≠ none) : w'.F l = none := by
  cases q : w'.F l with
  | none => rfl
  | some o => rcases a.n l o q with z | z
              · rw [h] at z; cases z
              · exact absurd z h'
structure Ct where
  K : Frag
  w0 : Wd
  Z : Addr → Prop
def VV (K : Frag) (w : Wd) (v : V) (x : PyData) : Prop := Den K w.F v x ∨ ∃ l vs xs, v = .ref l ∧ x = .list xs ∧ w.H l = some (.lst vs) ∧ ¬ w.M l ∧ DenAll K w.F vs xs
def ho : Bool → List V → HO
  | true, vs => .lst vs
  | false, vs => .tup vs
def Tre (K : Frag) (w : Wd) : OT → List V → Prop
  | .leaf x, vs => ∃ v, vs = [v] ∧ Den K w.F v x
  | .nd b a k, vs => vs = [.ref a] ∧ ∃ us, w.H a = some (ho b us) ∧ Tre K w k us
  | .nil, vs => vs = []
  | .cons h t, vs => ∃ v r, vs = v :: r ∧ Tre K w h [v] ∧ Tre K w t r
theorem Tre.mono {K : Frag} {w w' : Wd} (a : Lw w w') : ∀ {t : OT} {vs : List V}, Tre K w t vs → (∀ a ∈ t.fp, ¬ w.M a) → Tre K w' t vs
  | .leaf _, _, ⟨v, e, h⟩, _ => ⟨v, e, Den.same a.f h⟩
  | .nd _ p _, _, ⟨e, us, h, k⟩, n => ⟨e, us, a.h _ _ h (n p (by simp [OT.fp])), Tre.mono a k fun q hq => n q (by simp [OT.fp, hq])⟩
  | .nil, _, e, _ => e
  | .cons _ _, _, ⟨v, r, e, h, t⟩, n => ⟨v, r, e, Tre.mono a h fun q hq => n q (by simp [OT.fp, hq]), Tre.mono a t fun q hq => n q (by simp [OT.fp, hq])⟩
theorem Tre.sameF {K : Frag} {M : Addr → Prop} {H F F' : Hpp} (e : Same F F') : ∀ {t : OT} {vs : List V}, Tre K ⟨M, H, F⟩ t vs → Tre K ⟨M, H, F'⟩ t vs
  | .leaf _, _, ⟨v, q, h⟩ => ⟨v, q, Den.same e h⟩
  | .nd _ _ _, _, ⟨q, us, h, k⟩ => ⟨q, us, h, Tre.sameF e k⟩
  | .nil, _, q => q
  | .cons _ _, _, ⟨v, r, q, h, t⟩ => ⟨v, r, q, Tre.sameF e h, Tre.sameF e t⟩
def VR (c : Ct) (w : Wd) (v : V) : SV → Prop
  | .d x => Den c.K w.F v x
  | .own xs => ∃ l vs, v = .ref l ∧ w.H l = some (.lst vs) ∧ w.F l = none ∧ ¬ w.M l ∧ c.w0.H l = none ∧ DenAll c.K w.F vs xs
  | .bor xs => Den c.K w.F v (.list xs) ∨ ∃ l vs, v = .ref l ∧ c.w0.H l = some (.lst vs) ∧ ¬ c.w0.M l ∧ DenAll c.K w.F vs xs
  | .st => ∃ p, v = .ref p ∧ w.M p
  | .tr t => Tre c.K w t [v] ∧ ∀ a ∈ t.fp, w.H a ≠ none ∧ w.F a = none ∧ ¬ w.M a ∧ c.w0.H a = none
  | .bt t => Tre c.K ⟨c.w0.M, c.w0.H, w.F⟩ t [v] ∧ ∀ a ∈ t.fp, ¬ c.w0.M a
theorem updNone' {H : Hpp} {p b : Addr} {o : HO} (h : upd H p o b = none) : H b = none := by
  unfold upd at h; split at h
  · cases h
  · exact h
theorem VR.foot {c : Ct} {w : Wd} {v : V} {a : Addr} : ∀ {s : SV}, VR c w v s → s.foot v a → w.H a ≠ none ∧ w.F a = none ∧ ¬ w.M a ∧ c.w0.H a = none
  | .own _, ⟨l, vs, e, h1, h2, h3, h4, _⟩, f => by
    have : V.ref l = .ref a := e.symm.trans f
    cases this
    exact ⟨by rw [h1]; simp, h2, h3, h4⟩
  | .tr _, h, f => h.2 a f
theorem VV.mono {K : Frag} {w w' : Wd} {v : V} {x : PyData} (a : Lw w w') (h : VV K w v x) : VV K w' v x := by
  rcases h with h | ⟨l, vs, xs, e, e', h1, h2, h3⟩
  · exact .inl (Den.same a.f h)
  · exact .inr ⟨l, vs, xs, e, e', a.h _ _ h1 h2, a.nm (by rw [h1]; simp) h2, DenAll.same a.f h3⟩
theorem VV.den {K : Frag} {w : Wd} {v : V} {x : PyData} (o : w.Ok) (h : VV K w v x) : Den K w.H v x := by
  rcases h with h | ⟨l, vs, xs, e, e', h1, h2, h3⟩
  · exact Den.same o.sub h
  · rw [e, e']; exact .lst (SqL.of h1) (DenAll.same o.sub h3)
theorem VR.mono {c : Ct} {w w' : Wd} {v : V} (a : Le w w') : ∀ {s : SV}, VR c w v s → VR c w' v s
  | .d _, h => Den.same a.f h
  | .own xs, ⟨l, vs, e, h1, h2, h3, h4, h5⟩ => ⟨l, vs, e, a.h _ _ h1 h3, a.fnone h2 (by rw [h1]; simp), a.nm (by rw [h1]; simp) h3, h4, DenAll.same a.f h5⟩
  | .bor xs, .inl h => .inl (Den.same a.f h)
  | .bor xs, .inr ⟨l, vs, e, h1, h2, h3⟩ => .inr ⟨l, vs, e, h1, h2, DenAll.same a.f h3⟩
  | .st, ⟨p, e, h⟩ => ⟨p, e, a.m p h⟩
  | .bt t, ⟨h, o⟩ => ⟨h.sameF a.f, o⟩
  | .tr t, ⟨h, o⟩ => ⟨h.mono a.toLw fun q hq => (o q hq).2.2.1, fun q hq => let ⟨h1, h2, h3, h4⟩ := o q hq; ⟨fun z => h1 (a.dom q z), a.fnone h2 h1, a.nm h1 h3, h4⟩⟩
theorem Tre.writ {K : Frag} {w : Wd} {l : Addr} {us : List V} : ∀ {t : OT} {vs : List V}, Tre K w t vs → l ∉ t.fp → Tre K ⟨w.M, upd w.H l (.lst us), w.F⟩ t vs
  | .leaf _, _, h, _ => h
  | .nd _ p _, _, ⟨e, ys, h, k⟩, n => ⟨e, ys, by show upd w.H l _ p = _; rw [upd_ne (fun z => n (by simp [OT.fp, z]))]; exact h, Tre.writ k fun q => n (by simp [OT.fp, q])⟩
  | .nil, _, e, _ => e
  | .cons _ _, _, ⟨v, r, e, h, t⟩, n => ⟨v, r, e, Tre.writ h fun q => n (by simp [OT.fp, q]), Tre.writ t fun q => n (by simp [OT.fp, q])⟩
theorem VR.writ {c : Ct} {w : Wd} {v : V} {l : Addr} {us : List V} (hl : w.H l ≠ none) : ∀ {s : SV}, VR c w v s → ¬ s.foot v l → VR c ⟨w.M, upd w.H l (.lst us), w.F⟩ v s
  | .d _, h, _ => h
  | .own _, ⟨l', vs, e, k1, k2, k3, k4, k5⟩, n => ⟨l', vs, e, by show upd w.H l _ l' = _; rw [upd_ne (fun z => n (by rw [← z]; exact e))]; exact k1, k2, k3, k4, k5⟩
  | .bor _, h, _ => h
  | .st, h, _ => h
  | .bt _, h, _ => h
  | .tr _, ⟨h, o⟩, n => ⟨h.writ n, fun a ha => ⟨fun z => (o a ha).1 (updNone' z), (o a ha).2⟩⟩
structure EnvOk (c : Ct) (w : Wd) (env : PEnv) (σ : St) : Prop where
  wok : w.Ok
  le0 : Le c.w0 w
  len : env.length = σ.length
  at' : ∀ (i : Nat) s, env[i]? = some (some s) → ∃ v, σ[i]? = some (some v) ∧ VR c w v s
  own : ∀ (i j : Nat) s t v u a, env[i]? = some (some s) → env[j]? = some (some t) → σ[i]? = some (some v) → σ[j]? = some (some u) → s.foot v a → t.foot u a → i = j
  zf : ∀ a, c.Z a → w.F a = none ∧ w.H a ≠ none ∧ ¬ w.M a
  zo : ∀ a (j : Nat) t u, c.Z a → env[j]? = some (some t) → σ[j]? = some (some u) → ¬ t.foot u a
/-- what is new -/
def New (c : Ct) (env : PEnv) (σ : St) (v : V) (s : SV) : Prop := ∀ a, s.foot v a → (∀ (j : Nat) t u, env[j]? = some (some t) → σ[j]? = some (some u) → ¬ t.foot u a) ∧ ¬ c.Z a
theorem EnvOk.look {c : Ct} {w : Wd} {env : PEnv} {σ : St} (E : EnvOk c w env σ) {j : Nat} {t : SV} {u : V} (h : env[j]? = some (some t)) (hu : σ[j]? = some (some u)) : VR c w u t := by
  obtain ⟨v, h1, h2⟩ := E.at' j t h
  rw [hu] at h1; cases h1; exact h2
theorem EnvOk.fresh {c : Ct} {w : Wd} {env : PEnv} {σ : St} (E : EnvOk c w env σ) {p : Addr} (hp : w.H p = none) : (∀ (j : Nat) t u, env[j]? = some (some t) → σ[j]? = some (some u) → ¬ t.foot u p) ∧ ¬ c.Z p :=
  ⟨fun _ _ _ h hu f => ((E.look h hu).foot f).1 hp, fun z => (E.zf p z).2.1 hp⟩
theorem Lw.hsome {w w' : Wd} (a : Lw w w') {l : Addr} (h : w.H l ≠ none) : w'.H l ≠ none := fun z => h (a.dom l z)
theorem EnvOk.mono {c : Ct} {w w' : Wd} {env : PEnv} {σ : St} (E : EnvOk c w env σ) (ok : w'.Ok) (a : Le w w') : EnvOk c w' env σ :=
  ⟨ok, E.le0.trans a, E.len, fun i s e => let ⟨v, h1, h2⟩ := E.at' i s e; ⟨v, h1, h2.mono a⟩, E.own, fun b z => let ⟨h1, h2, h3⟩ := E.zf b z; ⟨a.fnone h1 h2, a.hsome h2, a.nm h2 h3⟩, E.zo⟩
/-- what an expression comes to -/
structure Res (c : Ct) (w : Wd) (env : PEnv) (σ : St) (w' : Wd) (v : V) (s : SV) : Prop where
  ev : EnvOk c w' env σ
  lw : Lw w w'
  val : VR c w' v s
  new : New c env σ v s
  res : s.isRes = true
theorem Res.data {c : Ct} {w : Wd} {env : PEnv} {σ : St} {v : V} {x : PyData} (E : EnvOk c w env σ) (h : Den c.K w.F v x) : Res c w env σ w v (.d x) :=
  ⟨E, Lw.refl w, h, fun _ e => (nomatch e), rfl⟩
/-- a new tuple -/
def Wd.tup (w : Wd) (p : Addr) (o : HO) : Wd := ⟨w.M, upd w.H p o, upd w.F p o⟩
def Wd.lay (w : Wd) (p : Addr) (o : HO) : Wd := ⟨w.M, upd w.H p o, w.F⟩
theorem Wd.Ok.fnone {w : Wd} (o : w.Ok) {p : Addr} (h : w.H p = none) : w.F p = none := by
  cases q : w.F p with
  | none => rfl
  | some u => have := o.sub p u q; rw [h] at this; cases this
theorem Wd.Ok.mne {w : Wd} (o : w.Ok) {p q : Addr} (h : w.H p = none) (hq : w.M q) : q ≠ p := by
  obtain ⟨c, m, f, e, _⟩ := (o.st q hq).ex
  exact ne_of_none e h
theorem updNone {H : Hpp} {p b : Addr} {o : HO} (h : upd H p o b = none) : H b = none := by
  unfold upd at h; split at h
  · cases h
  · exact h
theorem Wd.tup_ok {w : Wd} {p : Addr} {o : HO} (ok : w.Ok) (h : w.H p = none) : (w.tup p o).Ok :=
  ⟨fun b u e => by
    show upd w.H p o b = some u
    have e' : upd w.F p o b = some u := e
    unfold upd at e' ⊢
    split at e'
    · rename_i z; rw [if_pos z]; exact e'
    · rename_i z; rw [if_neg z]; exact ok.sub b u e',
   fun q hq => (ok.st q hq).same (Same.upd h), fun q hq => by
    show upd w.F p o q = none
    rw [upd_ne (ok.mne h hq)]; exact ok.nf q hq⟩
theorem Wd.lay_ok {w : Wd} {p : Addr} {o : HO} (ok : w.Ok) (h : w.H p = none) : (w.lay p o).Ok :=
  ⟨ok.sub.trans (Same.upd h), fun q hq => (ok.st q hq).same (Same.upd h), ok.nf⟩
theorem Wd.tup_le {w : Wd} {p : Addr} {o : HO} (ok : w.Ok) (h : w.H p = none) : Le w (w.tup p o) :=
  ⟨⟨Same.upd (ok.fnone h), fun b u e _ => Same.upd h b u e, fun _ z => z, fun _ z => .inl z, fun b z => updNone z⟩, fun a u e => by
    have e' : upd w.F p o a = some u := e
    unfold upd at e'
    split at e'
    · rename_i z; rw [z]; exact .inr h
    · exact .inl e'⟩
theorem Wd.lay_le {w : Wd} {p : Addr} {o : HO} (h : w.H p = none) : Le w (w.lay p o) :=
  ⟨⟨Same.refl _, fun b u e _ => Same.upd h b u e, fun _ z => z, fun _ z => .inl z, fun b z => updNone z⟩, fun a u e => .inl e⟩
theorem Res.tup {c : Ct} {w : Wd} {env : PEnv} {σ : St} {p : Addr} {vs : List V} {xs : List PyData} (E : EnvOk c w env σ) (h : w.H p = none) (hd : DenAll c.K w.F vs xs) : Res c w env σ (w.tup p (.tup vs)) (.ref p) (.d (.tuple xs)) :=
  ⟨E.mono (Wd.tup_ok E.wok h) (Wd.tup_le E.wok h), (Wd.tup_le E.wok h).toLw, .tup (SqT.of upd_same) (DenAll.same (Wd.tup_le E.wok h).f hd), fun _ e => (nomatch e), rfl⟩
theorem Res.lst {c : Ct} {w : Wd} {env : PEnv} {σ : St} {p : Addr} {vs : List V} {xs : List PyData} (E : EnvOk c w env σ) (h : w.H p = none) (hd : DenAll c.K w.F vs xs) : Res c w env σ (w.lay p (.lst vs)) (.ref p) (.own xs) :=
  ⟨E.mono (Wd.lay_ok E.wok h) (Wd.lay_le h), (Wd.lay_le h).toLw, ⟨p, vs, rfl, upd_same, E.wok.fnone h, fun z => E.wok.mne h z rfl, E.le0.dom p h, hd⟩,
   fun a f => (by
    have : V.ref p = .ref a := f
    cases this
    exact E.fresh h), rfl⟩
/-- a thing comes to stay -/
theorem Res.frz {c : Ct} {w w1 : Wd} {env : PEnv} {σ : St} {v : V} {xs : List PyData} (R : Res c w env σ w1 v (.own xs)) : ∃ w', w'.H = w1.H ∧ EnvOk c w' env σ ∧ Lw w w' ∧ Den c.K w'.F v (.list xs) := by
  obtain ⟨E, lw, ⟨l, vs, e, h1, h2, h3, h4, h5⟩, new, _⟩ := R
  subst e
  obtain ⟨n1, n2⟩ := new l rfl
  have up : Same w1.F (upd w1.F l (.lst vs)) := Same.upd h2
  have lw' : Lw w1 ⟨w1.M, w1.H, upd w1.F l (.lst vs)⟩ := ⟨up, fun _ _ h _ => h, fun _ h => h, fun _ h => .inl h, fun _ h => h⟩
  refine ⟨⟨w1.M, w1.H, upd w1.F l (.lst vs)⟩, rfl, ⟨⟨fun b u q => ?_, E.wok.st, fun p hp => ?_⟩, ⟨E.le0.toLw.trans lw', fun a u q => ?_⟩, E.len, fun i s q => ?_, E.own, fun a za => ?_, E.zo⟩, lw.trans lw', .lst (SqL.of upd_same) (DenAll.same up h5)⟩
  · have q' : upd w1.F l (.lst vs) b = some u := q
    unfold upd at q'
    split at q'
    · rename_i z; rw [z]; exact h1.trans q'
    · exact E.wok.sub b u q'
  · show upd w1.F l (.lst vs) p = none
    rw [upd_ne (fun z => h3 (by rw [← z]; exact hp))]; exact E.wok.nf p hp
  · have q' : upd w1.F l (.lst vs) a = some u := q
    unfold upd at q'
    split at q'
    · rename_i z; rw [z]; exact .inr h4
    · exact E.le0.n a u q'
  · obtain ⟨v, g1, g2⟩ := E.at' i s q
    refine ⟨v, g1, ?_⟩
    cases s with
    | d x => exact Den.same up g2
    | own ys =>
      obtain ⟨l', us, e', k1, k2, k3, k4, k5⟩ := g2
      subst e'
      refine ⟨l', us, rfl, k1, ?_, k3, k4, DenAll.same up k5⟩
      show upd w1.F l (.lst vs) l' = none
      rw [upd_ne (fun z => n1 i _ _ q g1 (by subst z; rfl))]; exact k2
    | bor ys =>
      rcases g2 with g | ⟨l', us, e', k1, k2, k3⟩
      · exact .inl (Den.same up g)
      · exact .inr ⟨l', us, e', k1, k2, DenAll.same up k3⟩
    | st => exact g2
    | bt t => exact ⟨g2.1.sameF up, g2.2⟩
    | tr t =>
      obtain ⟨k1, k2⟩ := g2
      refine ⟨k1.mono lw' fun p hp => (k2 p hp).2.2.1, fun p hp => ⟨(k2 p hp).1, ?_, (k2 p hp).2.2⟩⟩
      show upd w1.F l (.lst vs) p = none
      rw [upd_ne (fun z => n1 i _ _ q g1 (by subst z; exact hp))]; exact (k2 p hp).2.1
  · obtain ⟨z1, z2, z3⟩ := E.zf a za
    refine ⟨?_, z2, z3⟩
    show upd w1.F l (.lst vs) a = none
    rw [upd_ne (fun z => n2 (by subst z; exact za))]; exact z1
theorem EnvOk.set {c : Ct} {w : Wd} {env : PEnv} {σ : St} {v : V} {s : SV} {i : Nat} (E : EnvOk c w env σ) (h : VR c w v s) (new : New c env σ v s) :
    EnvOk c w (env.set i (some s)) (σ.set i (some v)) := by
  have hl := E.len
  have hd : ∀ {j : Nat} {t : SV} {u : V}, (env.set i (some s))[j]? = some (some t) → (σ.set i (some v))[j]? = some (some u) → (i = j ∧ t = s ∧ u = v) ∨ (i ≠ j ∧ env[j]? = some (some t) ∧ σ[j]? = some (some u)) := by
    intro j t u q q'
    rw [List.getElem?_set] at q q'
    by_cases e : i = j
    · subst e
      rw [if_pos rfl] at q q'
      split at q
      · rename_i z
        rw [if_pos (by omega)] at q'
        cases q; cases q'; exact .inl ⟨rfl, rfl, rfl⟩
      · cases q
    · rw [if_neg e] at q q'
      exact .inr ⟨e, q, q'⟩
  refine ⟨E.wok, E.le0, by simpa using hl, fun j t q => ?_, fun j k s1 t1 v1 u1 a q1 q2 q3 q4 f1 f2 => ?_, E.zf, fun a j t u za q q' => ?_⟩
  · rw [List.getElem?_set] at q ⊢
    by_cases e : i = j
    · subst e
      rw [if_pos rfl] at q ⊢
      split at q
      · rename_i z
        rw [if_pos (by omega)]
        cases q
        exact ⟨v, rfl, h⟩
      · cases q
    · rw [if_neg e] at q ⊢
      exact E.at' j t q
  · rcases hd q1 q3 with ⟨e1, rfl, rfl⟩ | ⟨e1, p1, p3⟩
    · rcases hd q2 q4 with ⟨e2, rfl, rfl⟩ | ⟨e2, q2, q4⟩
      · exact e1.symm.trans e2
      · exact absurd f2 ((new a f1).1 k _ _ q2 q4)
    · rcases hd q2 q4 with ⟨e2, rfl, rfl⟩ | ⟨e2, p2, p4⟩
      · exact absurd f1 ((new a f2).1 j _ _ p1 p3)
      · exact E.own j k _ _ _ _ a p1 p2 p3 p4 f1 f2
  · rcases hd q q' with ⟨_, rfl, rfl⟩ | ⟨_, q, q'⟩
    · exact fun f => (new a f).2 za
    · exact E.zo a j t u za q q'
end Pu

namespace Pu
open PySem L2 My Prf
abbrev PX := PEnv → (SV → PEnv → Prop) → Prop
abbrev PDt := PEnv → (PyData → PEnv → Prop) → Prop
abbrev PTt := PEnv → (Bool → PEnv → Prop) → Prop
abbrev PAr := PEnv → (List PyData → PEnv → Prop) → Prop
abbrev PAs := PEnv → (List SV → PEnv → Prop) → Prop
theorem Res.pre {c : Ct} {w w1 w2 : Wd} {env : PEnv} {σ : St} {v : V} {s : SV} (a : Lw w w1) (R : Res c w1 env σ w2 v s) : Res c w env σ w2 v s := ⟨R.ev, a.trans R.lw, R.val, R.new, R.res⟩
/-- an expression; one that is used as data; one that is looked at -/
class RE (K : Frag) (te : TE) (pe : outParam PX) : Prop where
  ok : ∀ (c : Ct) (w : Wd) (env : PEnv) (σ : St) (Qp : SV → PEnv → Prop) (Q : VK), c.K = K → EnvOk c w env σ → pe env Qp → (∀ v s env' w', Res c w env' σ w' v s → Qp s env' → Q v w'.H) → te σ w.H Q
class RD (K : Frag) (te : TE) (pd : outParam PDt) : Prop where
  ok : ∀ (c : Ct) (w : Wd) (env : PEnv) (σ : St) (Qp : PyData → PEnv → Prop) (Q : VK), c.K = K → EnvOk c w env σ → pd env Qp → (∀ v x env' w', EnvOk c w' env' σ → Lw w w' → Den K w'.F v x → Qp x env' → Q v w'.H) → te σ w.H Q
class RW (K : Frag) (te : TE) (pd : outParam PDt) : Prop where
  ok : ∀ (c : Ct) (w : Wd) (env : PEnv) (σ : St) (Qp : PyData → PEnv → Prop) (Q : VK), c.K = K → EnvOk c w env σ → pd env Qp → (∀ v x env' w', EnvOk c w' env' σ → Lw w w' → VV K w' v x → Qp x env' → Q v w'.H) → te σ w.H Q
def SV.asD (s : SV) (k : PyData → Prop) : Prop := match s with
  | .d x => k x
  | .own xs => k (.list xs)
  | _ => False
def pdat (pe : PX) (env : PEnv) (Q : PyData → PEnv → Prop) : Prop := pe env fun s e => s.asD fun x => Q x e
instance rd_of {K : Frag} {te : TE} {pe : PX} [h : RE K te pe] : RD K te (pdat pe) where
  ok := by
    rintro c w env σ Qp Q rfl E p k
    refine h.ok c w env σ _ Q rfl E p fun v s env' w' R q => ?_
    cases s with
    | d x => exact k v x env' w' R.ev R.lw R.val q
    | own xs =>
      obtain ⟨w2, e, E2, l2, d2⟩ := R.frz
      rw [← e]
      exact k v _ env' w2 E2 l2 d2 q
    | bor xs => exact (show False from q).elim
    | st => exact (show False from q).elim
    | tr t => exact (show False from q).elim
    | bt t => exact (show False from q).elim
instance (priority := low) rw_of {K : Frag} {te : TE} {pd : PDt} [h : RD K te pd] : RW K te pd where
  ok := fun c w env σ Qp Q e E p k => h.ok c w env σ Qp Q e E p fun v x env' w' E' l d q => k v x env' w' E' l (.inl d) q
/-! names, constants -/
def pVar (i : Nat) (env : PEnv) (Q : SV → PEnv → Prop) : Prop := match env[i]? with
  | some (some (.d x)) => Q (.d x) env
  | some (some (.own xs)) => Q (.d (.list xs)) (env.set i (some (.d (.list xs))))
  | some (some .st) => Q .st env
  | _ => False
def pVarV (i : Nat) (env : PEnv) (Q : PyData → PEnv → Prop) : Prop := match env[i]? with
  | some (some (.d x)) => Q x env
  | some (some (.own xs)) => Q (.list xs) env
  | some (some (.bor xs)) => Q (.list xs) env
  | _ => False
theorem EnvOk.frz {c : Ct} {w : Wd} {env : PEnv} {σ : St} {i : Nat} {xs : List PyData} (E : EnvOk c w env σ) (h : env[i]? = some (some (.own xs))) :
    ∃ w' v, w'.H = w.H ∧ σ[i]? = some (some v) ∧ EnvOk c w' (env.set i (some (.d (.list xs)))) σ ∧ Lw w w' ∧ Den c.K w'.F v (.list xs) := by
  obtain ⟨v, hv, hV⟩ := E.at' i _ h
  have hV' := hV
  obtain ⟨l, vs, e, h1, h2, h3, h4, h5⟩ := hV'
  have up : ∀ {j : Nat} {t : SV}, (env.set i none)[j]? = some (some t) → i ≠ j ∧ env[j]? = some (some t) := by
    intro j t q
    rw [List.getElem?_set] at q
    split at q
    · split at q <;> cases q
    · rename_i z; exact ⟨z, q⟩
  have E' : EnvOk c w (env.set i none) σ := ⟨E.wok, E.le0, by simpa using E.len, fun j s q => E.at' j s (up q).2, fun j k s t v u a q1 q2 => E.own j k s t v u a (up q1).2 (up q2).2, E.zf, fun a j t u za q => E.zo a j t u za (up q).2⟩
  have R : Res c w (env.set i none) σ w v (.own xs) := ⟨E', Lw.refl w, hV, fun a f => ⟨fun j t u q z g => (up q).1 (E.own i j _ _ _ _ a h (up q).2 hv z f g), fun za => E.zo a i _ _ za h hv f⟩, rfl⟩
  obtain ⟨w', e', E2, l2, d2⟩ := R.frz
  refine ⟨w', v, e', hv, ?_, l2, d2⟩
  have E3 := E2.set (i := i) (v := v) (s := .d (.list xs)) d2 (fun _ z => nomatch z)
  rw [List.set_set] at E3
  have hi : i < σ.length := (List.getElem?_eq_some_iff.mp hv).1
  rwa [show σ.set i (some v) = σ by
    refine List.ext_getElem? fun j => ?_
    rw [List.getElem?_set]
    split
    · rename_i z; subst z; simp [hv]
    · rfl] at E3
instance re_var {K : Frag} {i : Nat} : RE K (tVar i) (pVar i) where
  ok := by
    rintro c w env σ Qp Q rfl E p k
    unfold pVar at p
    split at p
    · rename_i x e
      obtain ⟨v, h1, h2⟩ := E.at' i _ e
      exact ⟨v, h1, k v _ env w (Res.data E h2) p⟩
    · rename_i xs e
      obtain ⟨w', v, e', hv, E', l, d⟩ := E.frz e
      refine ⟨v, hv, ?_⟩
      rw [← e']
      exact k v (.d (.list xs)) _ w' ⟨E', l, d, fun _ z => (nomatch z), rfl⟩ p
    · rename_i e
      obtain ⟨v, h1, h2⟩ := E.at' i _ e
      exact ⟨v, h1, k v _ env w ⟨E, Lw.refl w, h2, fun _ z => (nomatch z), rfl⟩ p⟩
    · exact p.elim
theorem VR.vv {c : Ct} {w : Wd} {v : V} {xs : List PyData} (l : Le c.w0 w) (h : VR c w v (.bor xs)) : VV c.K w v (.list xs) := by
  rcases h with h | ⟨l', vs, e, h1, h2, h3⟩
  · exact .inl h
  · exact .inr ⟨l', vs, xs, e, rfl, l.h _ _ h1 h2, l.nm (by rw [h1]; simp) h2, h3⟩
instance rw_var {K : Frag} {i : Nat} : RW K (tVar i) (pVarV i) where
  ok := by
    rintro c w env σ Qp Q rfl E p k
    unfold pVarV at p
    split at p
    · rename_i x e
      obtain ⟨v, h1, h2⟩ := E.at' i _ e
      exact ⟨v, h1, k v _ env w E (Lw.refl w) (.inl h2) p⟩
    · rename_i xs e
      obtain ⟨v, h1, l, vs, e', g1, g2, g3, g4, g5⟩ := E.at' i _ e
      exact ⟨v, h1, k v _ env w E (Lw.refl w) (.inr ⟨l, vs, xs, e', rfl, g1, g3, g5⟩) p⟩
    · rename_i xs e
      obtain ⟨v, h1, h2⟩ := E.at' i _ e
      exact ⟨v, h1, k v _ env w E (Lw.refl w) (h2.vv E.le0) p⟩
    · exact p.elim
def pC (x : PyData) (env : PEnv) (Q : SV → PEnv → Prop) : Prop := Q (.d x) env
theorem re_const {K : Frag} {v : V} {x : PyData} (h : ∀ F, Den K F v x) : RE K (tC v) (pC x) where
  ok := by
    rintro c w env σ Qp Q rfl E p k
    exact k _ _ env w (Res.data E (h _)) p
instance re_int {K : Frag} {i : Int} : RE K (tC (.int i)) (pC (.int i)) := re_const fun _ => .int i
instance re_bl {K : Frag} {b : Bool} : RE K (tC (.bl b)) (pC (.bool b)) := re_const fun _ => .bl b
instance re_non {K : Frag} : RE K (tC .non) (pC .none) := re_const fun _ => .non
instance re_str {K : Frag} {x : Str} : RE K (tC (.str x)) (pC (.str x)) := re_const fun _ => .str x
class GD (K : Frag) (a : Addr) (x : outParam PyData) : Prop where
  ok : ∀ F, Den K F (.ref a) x
instance re_glob {K : Frag} {a : Addr} {x : PyData} [h : GD K a x] : RE K (tC (.ref a)) (pC x) := re_const h.ok
/-! operations of two -/
class RO (K : Frag) (r : R2) (pr : outParam (PyData → PyData → (SV → Prop) → Prop)) : Prop where
  ok : ∀ (c : Ct) (w : Wd) (env : PEnv) (σ : St) (x y : V) (dx dy : PyData) (Qp : SV → Prop) (Q : VK), c.K = K → EnvOk c w env σ → VV K w x dx → VV K w y dy → pr dx dy Qp → (∀ v s w', Res c w env σ w' v s → Qp s → Q v w'.H) → r x y w.H Q
def pOp (pr : PyData → PyData → (SV → Prop) → Prop) (pa pb : PDt) (env : PEnv) (Q : SV → PEnv → Prop) : Prop := pa env fun x e1 => pb e1 fun y e2 => pr x y fun s => Q s e2
instance re_op {K : Frag} {r : R2} {ta tb : TE} {pr : PyData → PyData → (SV → Prop) → Prop} {pa pb : PDt} [h : RO K r pr] [ha : RW K ta pa] [hb : RW K tb pb] : RE K (tOp r ta tb) (pOp pr pa pb) where
  ok := by
    rintro c w env σ Qp Q rfl E p k
    refine ha.ok c w env σ _ _ rfl E p fun x dx e1 w1 E1 l1 v1 q1 => ?_
    refine hb.ok c w1 e1 σ _ _ rfl E1 q1 fun y dy e2 w2 E2 l2 v2 q2 => ?_
    exact h.ok c w2 e2 σ x y dx dy _ _ rfl E2 (v1.mono l2) v2 q2 fun v s w' R q => k v s e2 w' (R.pre (l1.trans l2)) q
class SG (g : Int → Int → V) (gd : outParam (Int → Int → PyData)) : Prop where
  ok : ∀ i j K F, Den K F (g i j) (gd i j)
instance sg_int {f : Int → Int → Int} : SG (fun i j => .int (f i j)) (fun i j => .int (f i j)) := ⟨fun _ _ _ _ => .int _⟩
instance sg_bl {f : Int → Int → Bool} : SG (fun i j => .bl (f i j)) (fun i j => .bool (f i j)) := ⟨fun _ _ _ _ => .bl _⟩
def pI (C : Int → Int → Prop) (gd : Int → Int → PyData) (x y : PyData) (Q : SV → Prop) : Prop := match x, y with
  | .int i, .int j => C i j ∧ Q (.d (gd i j))
  | _, _ => False
def pI0 (gd : Int → Int → PyData) (x y : PyData) (Q : SV → Prop) : Prop := match x, y with
  | .int i, .int j => Q (.d (gd i j))
  | _, _ => False
theorem VV.intE {K : Frag} {w : Wd} {v : V} {i : Int} (h : VV K w v (.int i)) : v = .int i := by
  rcases h with h | ⟨l, vs, xs, e, e', _⟩
  · exact h.intE
  · cases e'
theorem VV.blE {K : Frag} {w : Wd} {v : V} {b : Bool} (h : VV K w v (.bool b)) : v = .bl b := by
  rcases h with h | ⟨l, vs, xs, e, e', _⟩
  · exact h.blE
  · cases e'
instance ro_I {K : Frag} {C : Int → Int → Prop} {g : Int → Int → V} {gd : Int → Int → PyData} [s : SG g gd] : RO K (rI C g) (pI C gd) where
  ok := by
    rintro c w env σ x y dx dy Qp Q rfl E vx vy p k
    unfold pI at p
    split at p
    · rename_i i j
      exact ⟨i, j, vx.intE, vy.intE, p.1, k _ _ w (Res.data E (s.ok i j _ _)) p.2⟩
    · exact p.elim
instance ro_I0 {K : Frag} {g : Int → Int → V} {gd : Int → Int → PyData} [s : SG g gd] : RO K (rI0 g) (pI0 gd) where
  ok := by
    rintro c w env σ x y dx dy Qp Q rfl E vx vy p k
    unfold pI0 at p
    split at p
    · rename_i i j
      exact ⟨i, j, vx.intE, vy.intE, k _ _ w (Res.data E (s.ok i j _ _)) p⟩
    · exact p.elim
def pEqD (x y : PyData) (Q : SV → Prop) : Prop := x.canLay0 = true ∧ y.canLay0 = true ∧ x.depth ≤ 60 ∧ Q (.d (.bool (PyData.eqv x y)))
def pNeD (x y : PyData) (Q : SV → Prop) : Prop := x.canLay0 = true ∧ y.canLay0 = true ∧ x.depth ≤ 60 ∧ Q (.d (.bool (!PyData.eqv x y)))
def isNo : PyData → Bool
  | .none => true
  | _ => false
def rNotN : R2 := fun x y H Q => y = .non ∧ Q (.bl (!decide (x = .non))) H
theorem op_notN' {X : Cx} : OpR X (compareOp .IsNot) rNotN := op_notN
theorem Den.no {K : Frag} {F : Hpp} {v : V} {x : PyData} (h : Den K F v x) : decide (v = .non) = isNo x := by cases h <;> rfl
theorem VV.no {K : Frag} {w : Wd} {v : V} {x : PyData} (h : VV K w v x) : decide (v = .non) = isNo x := by
  rcases h with h | ⟨l, vs, xs, e, e', _⟩
  · exact Den.no h
  · subst e; subst e'; rfl
def pIsN (x y : PyData) (Q : SV → Prop) : Prop := y = .none ∧ Q (.d (.bool (isNo x)))
def pNotN (x y : PyData) (Q : SV → Prop) : Prop := y = .none ∧ Q (.d (.bool (!isNo x)))
theorem VV.nonE {K : Frag} {w : Wd} {v : V} (h : VV K w v .none) : v = .non := by
  rcases h with h | ⟨l, vs, xs, e, e', _⟩
  · exact h.nonE
  · cases e'
instance ro_notN {K : Frag} : RO K rNotN pNotN where
  ok := by
    rintro c w env σ x y dx dy Qp Q rfl E vx vy ⟨rfl, p⟩ k
    refine ⟨vy.nonE, k _ _ w (Res.data E ?_) p⟩
    rw [vx.no]; exact .bl _
/-! xs[i] -/
def pGet (xs : List PyData) (i : Int) (Q : SV → Prop) : Prop := match atI xs i with
  | some z => Q (.d z)
  | none => False
def pIx (x y : PyData) (Q : SV → Prop) : Prop := match x, y with
  | .list xs, .int i => pGet xs i Q
  | .tuple xs, .int i => pGet xs i Q
  | _, _ => False
theorem VV.lst {K : Frag} {w : Wd} {v : V} {xs : List PyData} (o : w.Ok) (h : VV K w v (.list xs)) : ∃ a vs, v = .ref a ∧ SqL K w.H a vs ∧ DenAll K w.F vs xs := by
  rcases h with h | ⟨l, vs, ys, e, e', h1, h2, h3⟩
  · obtain ⟨a, vs, e, h1, h2⟩ := h.lstE
    exact ⟨a, vs, e, o.sub.seq h1, h2⟩
  · cases e'; exact ⟨l, vs, e, SqL.of h1, h3⟩
theorem VV.tup {K : Frag} {w : Wd} {v : V} {xs : List PyData} (o : w.Ok) (h : VV K w v (.tuple xs)) : ∃ a vs, v = .ref a ∧ SqT K w.H a vs ∧ DenAll K w.F vs xs := by
  rcases h with h | ⟨l, vs, ys, e, e', h1, h2, h3⟩
  · obtain ⟨a, vs, e, h1, h2⟩ := h.tupE
    exact ⟨a, vs, e, SqT.same o.sub h1, h2⟩
  · cases e'
instance ro_ix {K : Frag} : RO K (rIx K) pIx where
  ok := by
    rintro c w env σ x y dx dy Qp Q rfl E vx vy p k
    unfold pIx at p
    split at p
    · rename_i xs i
      unfold pGet at p
      split at p
      · rename_i z hz
        obtain ⟨a, vs, e, h1, h2⟩ := vx.lst E.wok
        obtain ⟨v, g1, g2⟩ := h2.atIE hz
        exact .inl ⟨a, vs, i, v, e, vy.intE, h1, g1, k _ _ w (Res.data E g2) p⟩
      · exact p.elim
    · rename_i xs i
      unfold pGet at p
      split at p
      · rename_i z hz
        obtain ⟨a, vs, e, h1, h2⟩ := vx.tup E.wok
        obtain ⟨v, g1, g2⟩ := h2.atIE hz
        exact .inr (.inl ⟨a, vs, i, v, e, vy.intE, h1, g1, k _ _ w (Res.data E g2) p⟩)
      · exact p.elim
    · exact p.elim
theorem ix_seqK {X : Cx} {K : Frag} (h : X.K = K) : IxR X (rIx K) := by subst h; exact ix_seq
/-! one thing -/
def pU (gd : Int → PyData) (x : PyData) (Q : SV → Prop) : Prop := match x with
  | .int i => Q (.d (gd i))
  | _ => False
def pUn (f : PyData → (SV → Prop) → Prop) (pa : PDt) (env : PEnv) (Q : SV → PEnv → Prop) : Prop := pa env fun x e => f x fun s => Q s e
instance re_neg {K : Frag} {ta : TE} {pa : PDt} {f : Int → Int} [ha : RW K ta pa] : RE K (tUn (rU fun i => .int (f i)) ta) (pUn (pU fun i => .int (f i)) pa) where
  ok := by
    rintro c w env σ Qp Q rfl E p k
    refine ha.ok c w env σ _ _ rfl E p fun x dx e1 w1 E1 l1 v1 q1 => ?_
    unfold pU at q1
    split at q1
    · rename_i i
      exact ⟨i, v1.intE, k _ _ e1 w1 ((Res.data E1 (.int _)).pre l1) q1⟩
    · exact q1.elim
/-! argument lists -/
inductive VVs (K : Frag) (w : Wd) : List V → List PyData → Prop
  | nil : VVs K w [] []
  | cons {v : V} {x : PyData} {vs : List V} {xs : List PyData} : VV K w v x → VVs K w vs xs → VVs K w (v :: vs) (x :: xs)
class RAv (K : Frag) (ta : TA) (pa : outParam PAr) : Prop where
  ok : ∀ (c : Ct) (w : Wd) (env : PEnv) (σ : St) (Qp : List PyData → PEnv → Prop) (Q : List V → Hpp → Prop), c.K = K → EnvOk c w env σ → pa env Qp → (∀ vs xs env' w', EnvOk c w' env' σ → Lw w w' → VVs K w' vs xs → Qp xs env' → Q vs w'.H) → ta σ w.H Q
class RAd (K : Frag) (ta : TA) (pa : outParam PAr) : Prop where
  ok : ∀ (c : Ct) (w : Wd) (env : PEnv) (σ : St) (Qp : List PyData → PEnv → Prop) (Q : List V → Hpp → Prop), c.K = K → EnvOk c w env σ → pa env Qp → (∀ vs xs env' w', EnvOk c w' env' σ → Lw w w' → DenAll K w'.F vs xs → Qp xs env' → Q vs w'.H) → ta σ w.H Q
def pNil (env : PEnv) (Q : List PyData → PEnv → Prop) : Prop := Q [] env
def pCons (pa : PDt) (pr : PAr) (env : PEnv) (Q : List PyData → PEnv → Prop) : Prop := pa env fun x e1 => pr e1 fun xs e2 => Q (x :: xs) e2
instance rav_nil {K : Frag} : RAv K tNil pNil := ⟨fun c w env σ Qp Q _ E p k => k [] [] env w E (Lw.refl w) .nil p⟩
instance rad_nil {K : Frag} : RAd K tNil pNil := ⟨fun c w env σ Qp Q _ E p k => k [] [] env w E (Lw.refl w) .nil p⟩
instance rav_cons {K : Frag} {ta : TE} {tr : TA} {pa : PDt} {pr : PAr} [ha : RW K ta pa] [hr : RAv K tr pr] : RAv K (tCons ta tr) (pCons pa pr) where
  ok := by
    rintro c w env σ Qp Q rfl E p k
    refine ha.ok c w env σ _ _ rfl E p fun x dx e1 w1 E1 l1 v1 q1 => ?_
    refine hr.ok c w1 e1 σ _ _ rfl E1 q1 fun vs xs e2 w2 E2 l2 v2 q2 => ?_
    exact k _ _ e2 w2 E2 (l1.trans l2) (.cons (v1.mono l2) v2) q2
instance rad_cons {K : Frag} {ta : TE} {tr : TA} {pa : PDt} {pr : PAr} [ha : RD K ta pa] [hr : RAd K tr pr] : RAd K (tCons ta tr) (pCons pa pr) where
  ok := by
    rintro c w env σ Qp Q rfl E p k
    refine ha.ok c w env σ _ _ rfl E p fun x dx e1 w1 E1 l1 v1 q1 => ?_
    refine hr.ok c w1 e1 σ _ _ rfl E1 q1 fun vs xs e2 w2 E2 l2 v2 q2 => ?_
    exact k _ _ e2 w2 E2 (l1.trans l2) (.cons (Den.same l2.f v1) v2) q2
def pTup (pa : PAr) (env : PEnv) (Q : SV → PEnv → Prop) : Prop := pa env fun xs e => xs.length ≤ 1000 ∧ Q (.d (.tuple xs)) e
def pLst (pa : PAr) (env : PEnv) (Q : SV → PEnv → Prop) : Prop := pa env fun xs e => xs.length ≤ 1000 ∧ Q (.own xs) e
instance re_tup {K : Frag} {ta : TA} {pa : PAr} [ha : RAd K ta pa] : RE K (tTup ta) (pTup pa) where
  ok := by
    rintro c w env σ Qp Q rfl E p k
    refine ha.ok c w env σ _ _ rfl E p fun vs xs e1 w1 E1 l1 v1 q1 => ⟨?_, fun p hp => ?_⟩
    · rw [v1.len]; exact Nat.le_of_lt (small1000 q1.1)
    · exact k _ _ e1 _ ((Res.tup E1 hp v1).pre l1) q1.2
instance re_lst {K : Frag} {ta : TA} {pa : PAr} [ha : RAd K ta pa] : RE K (tLst ta) (pLst pa) where
  ok := by
    rintro c w env σ Qp Q rfl E p k
    refine ha.ok c w env σ _ _ rfl E p fun vs xs e1 w1 E1 l1 v1 q1 => ⟨?_, fun p hp => ?_⟩
    · rw [v1.len]; exact Nat.le_of_lt (small1000 q1.1)
    · exact k _ _ e1 _ ((Res.lst E1 hp v1).pre l1) q1.2
/-! built-in calls -/
class RB (K : Frag) (r : List V → Hpp → VK → Prop) (pr : outParam (List PyData → (SV → Prop) → Prop)) : Prop where
  ok : ∀ (c : Ct) (w : Wd) (env : PEnv) (σ : St) (vs : List V) (xs : List PyData) (Qp : SV → Prop) (Q : VK), c.K = K → EnvOk c w env σ → VVs K w vs xs → pr xs Qp → (∀ v s w', Res c w env σ w' v s → Qp s → Q v w'.H) → r vs w.H Q
def pCB (pr : List PyData → (SV → Prop) → Prop) (pa : PAr) (env : PEnv) (Q : SV → PEnv → Prop) : Prop := pa env fun xs e => pr xs fun s => Q s e
instance re_cb {K : Frag} {r : List V → Hpp → VK → Prop} {ta : TA} {pr : List PyData → (SV → Prop) → Prop} {pa : PAr} [h : RB K r pr] [ha : RAv K ta pa] : RE K (tCB r ta) (pCB pr pa) where
  ok := by
    rintro c w env σ Qp Q rfl E p k
    refine ha.ok c w env σ _ _ rfl E p fun vs xs e1 w1 E1 l1 v1 q1 => ?_
    exact h.ok c w1 e1 σ vs xs _ _ rfl E1 v1 q1 fun v s w' R q => k v s e1 w' (R.pre l1) q
def rAbs : List V → Hpp → VK → Prop := fun xs H Q => ∃ i, xs = [.int i] ∧ Q (.int (if i < 0 then -i else i)) H
def rMax : List V → Hpp → VK → Prop := fun xs H Q => ∃ i j, xs = [.int i, .int j] ∧ Q (.int (if j > i then j else i)) H
def rMin : List V → Hpp → VK → Prop := fun xs H Q => ∃ i j, xs = [.int i, .int j] ∧ Q (.int (if j < i then j else i)) H
def rLstOf (K : Frag) : List V → Hpp → VK → Prop := fun xs H Q => ∃ p ys, xs = [.ref p] ∧ (SqL K H p ys ∨ SqT K H p ys) ∧ ∀ l, H l = none → Q (.ref l) (upd H l (.lst ys))
def rIsi (K : Frag) : List V → Hpp → VK → Prop := fun xs H Q => ∃ x c T b, xs = [x, .ty c] ∧ TyV K H x T ∧ kitB T c = some b ∧ Q (.bl b) H
section
variable {X : Cx}
theorem call_absN : CallR X (.builtin "abs") rAbs := call_abs
theorem call_maxN (hc : X.calm = true) : CallR X (.builtin "max") rMax := call_max2 hc
theorem call_minN (hc : X.calm = true) : CallR X (.builtin "min") rMin := call_min2 hc
theorem call_lstK {K : Frag} (h : X.K = K) : CallR X (.type "list") (rLstOf K) := by subst h; exact call_list_of
theorem call_isiK {K : Frag} (h : X.K = K) : CallR X (.builtin "isinstance") (rIsi K) := by subst h; exact call_isinst
end
def pLen (xs : List PyData) (Q : SV → Prop) : Prop := match xs with
  | [.list ys] => Q (.d (.int ys.length))
  | [.tuple ys] => Q (.d (.int ys.length))
  | _ => False
def pAbs (xs : List PyData) (Q : SV → Prop) : Prop := match xs with
  | [.int i] => Q (.d (.int (if i < 0 then -i else i)))
  | _ => False
def pMax (xs : List PyData) (Q : SV → Prop) : Prop := match xs with
  | [.int i, .int j] => Q (.d (.int (if j > i then j else i)))
  | _ => False
def pMin (xs : List PyData) (Q : SV → Prop) : Prop := match xs with
  | [.int i, .int j] => Q (.d (.int (if j < i then j else i)))
  | _ => False
def pInt (xs : List PyData) (Q : SV → Prop) : Prop := match xs with
  | [.int i] => Q (.d (.int i))
  | [.bool k] => Q (.d (.int (if k then 1 else 0)))
  | _ => False
def pLstOf (xs : List PyData) (Q : SV → Prop) : Prop := match xs with
  | [.list ys] => Q (.own ys)
  | [.tuple ys] => Q (.own ys)
  | _ => False
instance rb_abs {K : Frag} : RB K rAbs pAbs where
  ok := by
    rintro c w env σ vs xs Qp Q rfl E vv p k
    unfold pAbs at p
    split at p
    · cases vv with | cons h t => cases t; exact ⟨_, by rw [h.intE], k _ _ w (Res.data E (.int _)) p⟩
    · exact p.elim
instance rb_max {K : Frag} : RB K rMax pMax where
  ok := by
    rintro c w env σ vs xs Qp Q rfl E vv p k
    unfold pMax at p
    split at p
    · cases vv with | cons h t => cases t with | cons h' t => cases t; exact ⟨_, _, by rw [h.intE, h'.intE], k _ _ w (Res.data E (.int _)) p⟩
    · exact p.elim
instance rb_min {K : Frag} : RB K rMin pMin where
  ok := by
    rintro c w env σ vs xs Qp Q rfl E vv p k
    unfold pMin at p
    split at p
    · cases vv with | cons h t => cases t with | cons h' t => cases t; exact ⟨_, _, by rw [h.intE, h'.intE], k _ _ w (Res.data E (.int _)) p⟩
    · exact p.elim
instance rb_lst {K : Frag} : RB K (rLstOf K) pLstOf where
  ok := by
    rintro c w env σ vs xs Qp Q rfl E vv p k
    unfold pLstOf at p
    split at p
    · cases vv with | cons h t => cases t; obtain ⟨a, us, e, h1, h2⟩ := h.lst E.wok; exact ⟨a, us, by rw [e], .inl h1, fun l hl => k _ _ _ (Res.lst E hl h2) p⟩
    · cases vv with | cons h t => cases t; obtain ⟨a, us, e, h1, h2⟩ := h.tup E.wok; exact ⟨a, us, by rw [e], .inr h1, fun l hl => k _ _ _ (Res.lst E hl h2) p⟩
    · exact p.elim
def tyD : PyData → String
  | .none => "NoneType"
  | .bool _ => "bool"
  | .int _ => "int"
  | .str _ => "str"
  | .list _ => "list"
  | .tuple _ => "tuple"
  | .dict _ => "dict"
theorem Den.ty {K : Frag} {H : Hpp} {v : V} {x : PyData} (h : Den K H v x) : TyV K H v (tyD x) := by
  cases h with
  | non => rfl
  | bl => rfl
  | int => rfl
  | str => rfl
  | lst h _ => exact .inl ⟨rfl, _, h⟩
  | tup h _ => exact .inr (.inl ⟨rfl, _, h⟩)
  | dct h => exact .inr (.inr ⟨rfl, _, h⟩)
def pIsi (c : String) (pa : PDt) (env : PEnv) (Q : SV → PEnv → Prop) : Prop := pa env fun x e => match kitB (tyD x) c with
  | some b => Q (.d (.bool b)) e
  | none => False
instance (priority := high) re_isi {K : Frag} {ta : TE} {pa : PDt} {c : String} [ha : RW K ta pa] : RE K (tCB (rIsi K) (tCons ta (tCons (tC (.ty c)) tNil))) (pIsi c pa) where
  ok := by
    rintro ct w env σ Qp Q rfl E p k
    refine ha.ok ct w env σ _ _ rfl E p fun x dx e1 w1 E1 l1 v1 q1 => ?_
    split at q1
    · rename_i b hb
      exact ⟨x, c, _, b, rfl, Den.ty (v1.den E1.wok), hb, k _ _ e1 w1 ((Res.data E1 (.bl _)).pre l1) q1⟩
    · exact q1.elim
end Pu

namespace Pu
open PySem L2 My Prf
/-! tests -/
class RT (K : Frag) (tt : TT) (pt : outParam PTt) : Prop where
  ok : ∀ (c : Ct) (w : Wd) (env : PEnv) (σ : St) (Qp : Bool → PEnv → Prop) (Q : Bool → Hpp → Prop), c.K = K → EnvOk c w env σ → pt env Qp → (∀ b env' w', EnvOk c w' env' σ → Lw w w' → Qp b env' → Q b w'.H) → tt σ w.H Q
def asB (x : PyData) (k : Bool → Prop) : Prop := match x with
  | .bool b => k b
  | _ => False
def pTest (pa : PDt) (env : PEnv) (Q : Bool → PEnv → Prop) : Prop := pa env fun x e => asB x fun b => Q b e
instance rt_test {K : Frag} {ta : TE} {pa : PDt} [ha : RW K ta pa] : RT K (tTest ta) (pTest pa) where
  ok := by
    rintro c w env σ Qp Q rfl E p k
    refine ha.ok c w env σ _ _ rfl E p fun x dx e1 w1 E1 l1 v1 q1 => ?_
    unfold asB at q1
    split at q1
    · exact ⟨_, v1.blE, k _ e1 w1 E1 l1 q1⟩
    · exact q1.elim
instance rt_B {K : Frag} {ta : TE} {pa : PDt} [ha : RW K ta pa] : RT K (tB ta) (pTest pa) where
  ok := by
    rintro c w env σ Qp Q rfl E p k
    refine ha.ok c w env σ _ _ rfl E p fun x dx e1 w1 E1 l1 v1 q1 => ?_
    unfold asB at q1
    split at q1
    · exact ⟨_, v1.blE, k _ e1 w1 E1 l1 q1⟩
    · exact q1.elim
def pYes (env : PEnv) (Q : Bool → PEnv → Prop) : Prop := Q true env
instance rt_yes {K : Frag} : RT K tYes pYes := ⟨fun c w env σ Qp Q _ E p k => k true env w E (Lw.refl w) p⟩
def pNot (pa : PTt) (env : PEnv) (Q : Bool → PEnv → Prop) : Prop := pa env fun b e => Q (!b) e
def pAnd (pa pb : PTt) (env : PEnv) (Q : Bool → PEnv → Prop) : Prop := pa env fun b e => if b = true then pb e Q else Q false e
def pOr (pa pb : PTt) (env : PEnv) (Q : Bool → PEnv → Prop) : Prop := pa env fun b e => if b = true then Q true e else pb e Q
instance rt_not {K : Frag} {ta : TT} {pa : PTt} [ha : RT K ta pa] : RT K (tNot ta) (pNot pa) where
  ok := by
    rintro c w env σ Qp Q rfl E p k
    exact ha.ok c w env σ _ _ rfl E p fun b e1 w1 E1 l1 q1 => k _ e1 w1 E1 l1 q1
instance rt_and {K : Frag} {ta tb : TT} {pa pb : PTt} [ha : RT K ta pa] [hb : RT K tb pb] : RT K (tAnd ta tb) (pAnd pa pb) where
  ok := by
    rintro c w env σ Qp Q rfl E p k
    refine ha.ok c w env σ _ _ rfl E p fun b e1 w1 E1 l1 q1 => ?_
    cases b with
    | true => exact hb.ok c w1 e1 σ _ _ rfl E1 q1 fun b e2 w2 E2 l2 q2 => k _ e2 w2 E2 (l1.trans l2) q2
    | false => exact k _ e1 w1 E1 l1 q1
instance rt_or {K : Frag} {ta tb : TT} {pa pb : PTt} [ha : RT K ta pa] [hb : RT K tb pb] : RT K (tOr ta tb) (pOr pa pb) where
  ok := by
    rintro c w env σ Qp Q rfl E p k
    refine ha.ok c w env σ _ _ rfl E p fun b e1 w1 E1 l1 q1 => ?_
    cases b with
    | false => exact hb.ok c w1 e1 σ _ _ rfl E1 q1 fun b e2 w2 E2 l2 q2 => k _ e2 w2 E2 (l1.trans l2) q2
    | true => exact k _ e1 w1 E1 l1 q1
def pNotV (pa : PDt) (env : PEnv) (Q : SV → PEnv → Prop) : Prop := pa env fun x e => asB x fun b => Q (.d (.bool (!b))) e
def pAndV (pa : PDt) (pb : PX) (env : PEnv) (Q : SV → PEnv → Prop) : Prop := pa env fun x e => asB x fun b => if b = true then pb e Q else Q (.d (.bool false)) e
def pOrV (pa : PDt) (pb : PX) (env : PEnv) (Q : SV → PEnv → Prop) : Prop := pa env fun x e => asB x fun b => if b = true then Q (.d (.bool true)) e else pb e Q
instance re_notV {K : Frag} {ta : TE} {pa : PDt} [ha : RW K ta pa] : RE K (tNotV ta) (pNotV pa) where
  ok := by
    rintro c w env σ Qp Q rfl E p k
    refine ha.ok c w env σ _ _ rfl E p fun x dx e1 w1 E1 l1 v1 q1 => ?_
    unfold asB at q1
    split at q1
    · exact ⟨_, v1.blE, k _ _ e1 w1 ((Res.data E1 (.bl _)).pre l1) q1⟩
    · exact q1.elim
instance re_andV {K : Frag} {ta tb : TE} {pa : PDt} {pb : PX} [ha : RW K ta pa] [hb : RE K tb pb] : RE K (tAndV ta tb) (pAndV pa pb) where
  ok := by
    rintro c w env σ Qp Q rfl E p k
    refine ha.ok c w env σ _ _ rfl E p fun x dx e1 w1 E1 l1 v1 q1 => ?_
    unfold asB at q1
    split at q1
    · rename_i b
      refine ⟨_, v1.blE, ?_⟩
      cases b with
      | true => exact hb.ok c w1 e1 σ _ _ rfl E1 q1 fun v s e2 w2 R q2 => k _ _ e2 w2 (R.pre l1) q2
      | false => exact k _ _ e1 w1 ((Res.data E1 (.bl _)).pre l1) q1
    · exact q1.elim
instance re_orV {K : Frag} {ta tb : TE} {pa : PDt} {pb : PX} [ha : RW K ta pa] [hb : RE K tb pb] : RE K (tOrV ta tb) (pOrV pa pb) where
  ok := by
    rintro c w env σ Qp Q rfl E p k
    refine ha.ok c w env σ _ _ rfl E p fun x dx e1 w1 E1 l1 v1 q1 => ?_
    unfold asB at q1
    split at q1
    · rename_i b
      refine ⟨_, v1.blE, ?_⟩
      cases b with
      | false => exact hb.ok c w1 e1 σ _ _ rfl E1 q1 fun v s e2 w2 R q2 => k _ _ e2 w2 (R.pre l1) q2
      | true => exact k _ _ e1 w1 ((Res.data E1 (.bl _)).pre l1) q1
    · exact q1.elim
def pIfE (pt : PTt) (pa pb : PX) (env : PEnv) (Q : SV → PEnv → Prop) : Prop := pt env fun b e => if b = true then pa e Q else pb e Q
instance re_if {K : Frag} {tt : TT} {ta tb : TE} {pt : PTt} {pa pb : PX} [ht : RT K tt pt] [ha : RE K ta pa] [hb : RE K tb pb] : RE K (tIf tt ta tb) (pIfE pt pa pb) where
  ok := by
    rintro c w env σ Qp Q rfl E p k
    refine ht.ok c w env σ _ _ rfl E p fun b e1 w1 E1 l1 q1 => ?_
    cases b with
    | true => exact ha.ok c w1 e1 σ _ _ rfl E1 q1 fun v s e2 w2 R q2 => k _ _ e2 w2 (R.pre l1) q2
    | false => exact hb.ok c w1 e1 σ _ _ rfl E1 q1 fun v s e2 w2 R q2 => k _ _ e2 w2 (R.pre l1) q2
/-! calls of defs -/
inductive Md where
  | dat | vw | st | bt
/-- a thing of several lists, as it stands -/
def TV (K : Frag) (w : Wd) (v : V) (t : OT) : Prop := Tre K w t [v] ∧ ∀ a ∈ t.fp, ¬ w.M a
theorem Tre.has {K : Frag} {w : Wd} : ∀ {t : OT} {vs : List V}, Tre K w t vs → ∀ a ∈ t.fp, w.H a ≠ none
  | .leaf _, _, _, _, z => nomatch z
  | .nd _ p _, _, ⟨_, _, h, k⟩, a, z => (List.mem_cons.mp z).elim (fun e => by rw [e, h]; simp) (Tre.has k a)
  | .nil, _, _, _, z => nomatch z
  | .cons _ _, _, ⟨_, _, _, h, t⟩, a, z => (List.mem_append.mp z).elim (Tre.has h a) (Tre.has t a)
inductive Args (K : Frag) (w : Wd) : List Md → List V → List SV → Prop
  | nil : Args K w [] [] []
  | dat {v : V} {x : PyData} {md : List Md} {vs : List V} {as : List SV} : Den K w.F v x → Args K w md vs as → Args K w (.dat :: md) (v :: vs) (.d x :: as)
  | vw {v : V} {xs : List PyData} {md : List Md} {vs : List V} {as : List SV} : VV K w v (.list xs) → Args K w md vs as → Args K w (.vw :: md) (v :: vs) (.bor xs :: as)
  | bt {v : V} {t : OT} {md : List Md} {vs : List V} {as : List SV} : TV K w v t → Args K w md vs as → Args K w (.bt :: md) (v :: vs) (.bt t :: as)
  | st {v : V} {md : List Md} {vs : List V} {as : List SV} : (∃ p, v = .ref p ∧ w.M p) → Args K w md vs as → Args K w (.st :: md) (v :: vs) (.st :: as)
theorem Args.len {K : Frag} {w : Wd} : ∀ {md vs as}, Args K w md vs as → vs.length = md.length
  | _, _, _, .nil => rfl
  | _, _, _, .dat _ t => congrArg (· + 1) (Args.len t)
  | _, _, _, .vw _ t => congrArg (· + 1) (Args.len t)
  | _, _, _, .st _ t => congrArg (· + 1) (Args.len t)
  | _, _, _, .bt _ t => congrArg (· + 1) (Args.len t)
abbrev PSp := List SV → (SV → Prop) → Prop
def noZ : Addr → Prop := fun _ => False
def spOf (K : Frag) (md : List Md) (psp : PSp) : Sp := fun vs H Q _ => ∃ (w : Wd) (as : List SV) (Qp : SV → Prop), w.H = H ∧ w.Ok ∧ Args K w md vs as ∧ psp as Qp ∧
  ∀ v s w', w'.Ok → Le w w' → VR ⟨K, w, noZ⟩ w' v s → s.isRes = true → Qp s → Q v w'.H
theorem spOf.len {K : Frag} {md : List Md} {psp : PSp} {n : Nat} (h : md.length = n) : ∀ vs H Q E, spOf K md psp vs H Q E → vs.length = n := by
  rintro vs H Q E ⟨w, as, Qp, _, _, a, _⟩
  exact a.len.trans h
class RAm (K : Frag) (md : List Md) (ta : TA) (pa : outParam PAs) : Prop where
  ok : ∀ (c : Ct) (w : Wd) (env : PEnv) (σ : St) (Qp : List SV → PEnv → Prop) (Q : List V → Hpp → Prop), c.K = K → EnvOk c w env σ → pa env Qp → (∀ vs as env' w', EnvOk c w' env' σ → Lw w w' → Args K w' md vs as → Qp as env' → Q vs w'.H) → ta σ w.H Q
def pNilA (env : PEnv) (Q : List SV → PEnv → Prop) : Prop := Q [] env
def pConsD (pa : PDt) (pr : PAs) (env : PEnv) (Q : List SV → PEnv → Prop) : Prop := pa env fun x e1 => pr e1 fun as e2 => Q (.d x :: as) e2
def asL (x : PyData) (k : List PyData → Prop) : Prop := match x with
  | .list xs => k xs
  | _ => False
def pConsV (pa : PDt) (pr : PAs) (env : PEnv) (Q : List SV → PEnv → Prop) : Prop := pa env fun x e1 => asL x fun xs => pr e1 fun as e2 => Q (.bor xs :: as) e2
def isSt (o : Option (Option SV)) (k : Prop) : Prop := match o with
  | some (some .st) => k
  | _ => False
def pConsS (i : Nat) (pr : PAs) (env : PEnv) (Q : List SV → PEnv → Prop) : Prop := isSt env[i]? (pr env fun as e2 => Q (.st :: as) e2)
instance ram_nil {K : Frag} : RAm K [] tNil pNilA := ⟨fun c w env σ Qp Q _ E p k => k [] [] env w E (Lw.refl w) .nil p⟩
instance ram_dat {K : Frag} {md : List Md} {ta : TE} {tr : TA} {pa : PDt} {pr : PAs} [ha : RD K ta pa] [hr : RAm K md tr pr] : RAm K (.dat :: md) (tCons ta tr) (pConsD pa pr) where
  ok := by
    rintro c w env σ Qp Q rfl E p k
    refine ha.ok c w env σ _ _ rfl E p fun x dx e1 w1 E1 l1 v1 q1 => ?_
    refine hr.ok c w1 e1 σ _ _ rfl E1 q1 fun vs xs e2 w2 E2 l2 v2 q2 => ?_
    exact k _ _ e2 w2 E2 (l1.trans l2) (.dat (Den.same l2.f v1) v2) q2
instance ram_vw {K : Frag} {md : List Md} {ta : TE} {tr : TA} {pa : PDt} {pr : PAs} [ha : RW K ta pa] [hr : RAm K md tr pr] : RAm K (.vw :: md) (tCons ta tr) (pConsV pa pr) where
  ok := by
    rintro c w env σ Qp Q rfl E p k
    refine ha.ok c w env σ _ _ rfl E p fun x dx e1 w1 E1 l1 v1 q1 => ?_
    unfold asL at q1
    split at q1
    · refine hr.ok c w1 e1 σ _ _ rfl E1 q1 fun vs xs e2 w2 E2 l2 v2 q2 => ?_
      exact k _ _ e2 w2 E2 (l1.trans l2) (.vw (v1.mono l2) v2) q2
    · exact q1.elim
instance ram_st {K : Frag} {md : List Md} {i : Nat} {tr : TA} {pr : PAs} [hr : RAm K md tr pr] : RAm K (.st :: md) (tCons (tVar i) tr) (pConsS i pr) where
  ok := by
    rintro c w env σ Qp Q rfl E p k
    unfold pConsS isSt at p
    split at p
    · rename_i e
      obtain ⟨v, h1, h2⟩ := E.at' i _ e
      refine ⟨v, h1, ?_⟩
      refine hr.ok c w env σ _ _ rfl E p fun vs xs e2 w2 E2 l2 v2 q2 => ?_
      obtain ⟨q, e', hm⟩ := h2
      exact k _ _ e2 w2 E2 l2 (.st ⟨q, e', l2.m _ hm⟩ v2) q2
    · exact p.elim
def pCall (psp : PSp) (pa : PAs) (env : PEnv) (Q : SV → PEnv → Prop) : Prop := pa env fun as e => psp as fun s => Q s e
theorem Res.called {c : Ct} {w w' : Wd} {env : PEnv} {σ : St} {v : V} {s : SV} (E : EnvOk c w env σ) (ok : w'.Ok) (l : Le w w') (h : VR ⟨c.K, w, noZ⟩ w' v s) (r : s.isRes = true) : Res c w env σ w' v s := by
  refine ⟨E.mono ok l, l.toLw, ?_, fun a f => E.fresh (h.foot f).2.2.2, r⟩
  cases s with
  | d x => exact h
  | own xs => obtain ⟨a, vs, e, h1, h2, h3, h4, h5⟩ := h; exact ⟨a, vs, e, h1, h2, h3, E.le0.dom _ h4, h5⟩
  | bor xs => cases r
  | bt t => cases r
  | st => exact h
  | tr t => exact ⟨h.1, fun a f => ⟨(h.2 a f).1, (h.2 a f).2.1, (h.2 a f).2.2.1, E.le0.dom _ (h.2 a f).2.2.2⟩⟩
instance re_call {K : Frag} {md : List Md} {psp : PSp} {E0' : XK} {ta : TA} {pa : PAs} [ha : RAm K md ta pa] : RE K (tCall (spOf K md psp) [] E0' ta) (pCall psp pa) where
  ok := by
    rintro c w env σ Qp Q rfl E p k
    refine ha.ok c w env σ _ _ rfl E p fun vs as e1 w1 E1 l1 a1 q1 => ?_
    rw [List.append_nil]
    exact ⟨w1, as, _, rfl, E1.wok, a1, q1, fun v s w' ok l h r q => k v s e1 w' ((Res.called E1 ok l h r).pre l1) q⟩
/-! statements -/
structure PEnds where
  nx : PEnv → Prop
  rt : SV → Prop
  bk : PEnv → Prop
  ct : PEnv → Prop
abbrev PSt := PEnds → PEnv → Prop
structure EndsOk (c : Ct) (w : Wd) (Dp : PEnds) (D : Ends) : Prop where
  nx : ∀ env σ w', EnvOk c w' env σ → Same w.F w'.F → Dp.nx env → D.nx σ w'.H
  rt : ∀ v s w', w'.Ok → Le c.w0 w' → VR c w' v s → s.isRes = true → Dp.rt s → D.rt v w'.H
  bk : ∀ env σ w', EnvOk c w' env σ → Same w.F w'.F → Dp.bk env → D.bk σ w'.H
  ct : ∀ env σ w', EnvOk c w' env σ → Same w.F w'.F → Dp.ct env → D.ct σ w'.H
theorem EndsOk.on {c : Ct} {w w1 : Wd} {Dp : PEnds} {D : Ends} (h : EndsOk c w Dp D) (s : Same w.F w1.F) : EndsOk c w1 Dp D :=
  ⟨fun e σ w' E s' => h.nx e σ w' E (s.trans s'), h.rt, fun e σ w' E s' => h.bk e σ w' E (s.trans s'), fun e σ w' E s' => h.ct e σ w' E (s.trans s')⟩
class RS (K : Frag) (ts : TS) (ps : outParam PSt) : Prop where
  ok : ∀ (c : Ct) (w : Wd) (env : PEnv) (σ : St) (Dp : PEnds) (D : Ends), c.K = K → EnvOk c w env σ → EndsOk c w Dp D → ps Dp env → ts D σ w.H
def pNext (D : PEnds) (env : PEnv) : Prop := D.nx env
def pBreak (D : PEnds) (env : PEnv) : Prop := D.bk env
def pCont (D : PEnds) (env : PEnv) : Prop := D.ct env
def pNever (_ : PEnds) (_ : PEnv) : Prop := False
def pSeq (p q : PSt) (D : PEnds) (env : PEnv) : Prop := p { D with nx := q D } env
instance rs_next {K : Frag} : RS K tNext pNext := ⟨fun c w env σ Dp D _ E h p => h.nx env σ w E (Same.refl _) p⟩
instance rs_never {K : Frag} : RS K tNever pNever := ⟨fun c w env σ Dp D _ E h p => p.elim⟩
instance rs_seq {K : Frag} {t u : TS} {p q : PSt} [ht : RS K t p] [hu : RS K u q] : RS K (tSeq t u) (pSeq p q) where
  ok := by
    rintro c w env σ Dp D rfl E h pr
    refine ht.ok c w env σ { Dp with nx := q Dp } _ rfl E ⟨fun e1 σ1 w1 E1 s1 n1 => ?_, h.rt, h.bk, h.ct⟩ pr
    exact hu.ok c w1 e1 σ1 Dp D rfl E1 (h.on s1) n1
def pDrop (pe : PX) (D : PEnds) (env : PEnv) : Prop := pe env fun _ e => D.nx e
def pRet (pe : PX) (D : PEnds) (env : PEnv) : Prop := pe env fun s _ => D.rt s
instance (priority := low) rs_ret {K : Frag} {te : TE} {pe : PX} [he : RE K te pe] : RS K (tRet te) (pRet pe) where
  ok := by
    rintro c w env σ Dp D rfl E h p
    exact he.ok c w env σ _ _ rfl E p fun v s e1 w1 R q => h.rt v s w1 R.ev.wok R.ev.le0 R.val R.res q
def pRetV (i : Nat) (D : PEnds) (env : PEnv) : Prop := match env[i]? with
  | some (some (.bor _)) => False
  | some (some (.bt _)) => False
  | some (some s) => D.rt s
  | _ => False
instance rs_retV {K : Frag} {i : Nat} : RS K (tRet (tVar i)) (pRetV i) where
  ok := by
    rintro c w env σ Dp D rfl E h p
    unfold pRetV at p
    split at p
    · exact p.elim
    · exact p.elim
    · rename_i s hn hn2 e
      obtain ⟨v, h1, h2⟩ := E.at' i _ e
      refine ⟨v, h1, h.rt v s w E.wok E.le0 h2 ?_ p⟩
      cases s with
      | bor xs => exact absurd rfl (hn xs)
      | bt t => exact absurd rfl (hn2 t)
      | _ => rfl
    · exact p.elim
def pRetN (D : PEnds) (_ : PEnv) : Prop := D.rt (.d .none)
def pIf (pt : PTt) (p q : PSt) (D : PEnds) (env : PEnv) : Prop := pt env fun b e => if b = true then p D e else q D e
instance rs_if {K : Frag} {tt : TT} {t u : TS} {pt : PTt} {p q : PSt} [hc : RT K tt pt] [ht : RS K t p] [hu : RS K u q] : RS K (tIfS tt t u) (pIf pt p q) where
  ok := by
    rintro c w env σ Dp D rfl E h pr
    refine hc.ok c w env σ _ _ rfl E pr fun b e1 w1 E1 l1 q1 => ?_
    cases b with
    | true => exact ht.ok c w1 e1 σ Dp D rfl E1 (h.on l1.f) q1
    | false => exact hu.ok c w1 e1 σ Dp D rfl E1 (h.on l1.f) q1
def pAsg (pe : PX) (i : Nat) (D : PEnds) (env : PEnv) : Prop := pe env fun s e => D.nx (e.set i (some s))
instance rs_asg {K : Frag} {te : TE} {pe : PX} {i : Nat} [he : RE K te pe] : RS K (tAsg te (gName i)) (pAsg pe i) where
  ok := by
    rintro c w env σ Dp D rfl E h p
    exact he.ok c w env σ _ _ rfl E p fun v s e1 w1 R q => h.nx _ _ w1 (R.ev.set R.val R.new) R.lw.f q
/-- targets -/
class RG (K : Frag) (g : TG) (pg : outParam (PyData → PEnv → (PEnv → Prop) → Prop)) : Prop where
  ok : ∀ (c : Ct) (w : Wd) (env : PEnv) (σ : St) (v : V) (x : PyData) (Qp : PEnv → Prop) (Q : St → Hpp → Prop), c.K = K → EnvOk c w env σ → Den K w.F v x → pg x env Qp → (∀ env' σ', EnvOk c w env' σ' → Qp env' → Q σ' w.H) → g v σ w.H Q
class RGs (K : Frag) (g : TGs) (pg : outParam (List PyData → PEnv → (PEnv → Prop) → Prop)) : Prop where
  ok : ∀ (c : Ct) (w : Wd) (env : PEnv) (σ : St) (vs : List V) (xs : List PyData) (Qp : PEnv → Prop) (Q : St → Hpp → Prop), c.K = K → EnvOk c w env σ → DenAll K w.F vs xs → pg xs env Qp → (∀ env' σ', EnvOk c w env' σ' → Qp env' → Q σ' w.H) → g vs σ w.H Q
def qName (i : Nat) (x : PyData) (env : PEnv) (Q : PEnv → Prop) : Prop := Q (env.set i (some (.d x)))
instance rg_name {K : Frag} {i : Nat} : RG K (gName i) (qName i) where
  ok := by
    rintro c w env σ v x Qp Q rfl E d p k
    exact k _ _ (E.set (s := .d x) d (fun _ z => nomatch z)) p
def qNil (xs : List PyData) (env : PEnv) (Q : PEnv → Prop) : Prop := match xs with
  | [] => Q env
  | _ => False
def qCons (pg : PyData → PEnv → (PEnv → Prop) → Prop) (pr : List PyData → PEnv → (PEnv → Prop) → Prop) (xs : List PyData) (env : PEnv) (Q : PEnv → Prop) : Prop := match xs with
  | x :: r => pg x env fun e => pr r e Q
  | [] => False
def qTup (n : Nat) (pr : List PyData → PEnv → (PEnv → Prop) → Prop) (x : PyData) (env : PEnv) (Q : PEnv → Prop) : Prop := match x with
  | .tuple xs => xs.length = n ∧ pr xs env Q
  | _ => False
instance rgs_nil {K : Frag} : RGs K gNil qNil where
  ok := by
    rintro c w env σ vs xs Qp Q rfl E d p k
    unfold qNil at p
    split at p
    · cases d; exact ⟨rfl, k env σ E p⟩
    · exact p.elim
instance rgs_cons {K : Frag} {g : TG} {gs : TGs} {pg : PyData → PEnv → (PEnv → Prop) → Prop} {pr : List PyData → PEnv → (PEnv → Prop) → Prop} [hg : RG K g pg] [hr : RGs K gs pr] : RGs K (gCons g gs) (qCons pg pr) where
  ok := by
    rintro c w env σ vs xs Qp Q rfl E d p k
    unfold qCons at p
    split at p
    · cases d with
      | cons h t =>
        refine ⟨_, _, rfl, hg.ok c w env σ _ _ _ _ rfl E h p fun e1 σ1 E1 q1 => ?_⟩
        exact hr.ok c w e1 σ1 _ _ _ _ rfl E1 t q1 k
    · exact p.elim
instance rg_tup {K : Frag} {n : Nat} {gs : TGs} {pr : List PyData → PEnv → (PEnv → Prop) → Prop} [hr : RGs K gs pr] : RG K (gTup K n gs) (qTup n pr) where
  ok := by
    rintro c w env σ v x Qp Q rfl E d p k
    unfold qTup at p
    split at p
    · obtain ⟨a, vs, e, h1, h2⟩ := d.tupE
      exact ⟨a, vs, e, SqT.same E.wok.sub h1, h2.len.trans p.1, hr.ok c w env σ _ _ _ _ rfl E h2 p.2 k⟩
    · exact p.elim
def pAsgT (pd : PDt) (n : Nat) (pr : List PyData → PEnv → (PEnv → Prop) → Prop) (D : PEnds) (env : PEnv) : Prop := pd env fun x e => qTup n pr x e D.nx
instance rs_asgT {K : Frag} {te : TE} {pd : PDt} {n : Nat} {gs : TGs} {pr : List PyData → PEnv → (PEnv → Prop) → Prop} [he : RD K te pd] [hr : RGs K gs pr] : RS K (tAsg te (gTup K n gs)) (pAsgT pd n pr) where
  ok := by
    rintro c w env σ Dp D rfl E h p
    refine he.ok c w env σ _ _ rfl E p fun v x e1 w1 E1 l1 d1 q1 => ?_
    exact rg_tup.ok c w1 e1 σ v x _ _ rfl E1 d1 q1 fun e2 σ2 E2 q2 => h.nx e2 σ2 w1 E2 l1.f q2
def pPar (i j : Nat) (pa : PAr) (D : PEnds) (env : PEnv) : Prop := pa env fun xs e => match xs with
  | [x, y] => D.nx ((e.set i (some (.d x))).set j (some (.d y)))
  | _ => False
instance rs_par {K : Frag} {ta : TA} {pa : PAr} {i j : Nat} [ha : RAd K ta pa] : RS K (tPar i j ta) (pPar i j pa) where
  ok := by
    rintro c w env σ Dp D rfl E h p
    refine ha.ok c w env σ _ _ rfl E p fun vs xs e1 w1 E1 l1 d1 q1 => ?_
    split at q1
    · cases d1 with
      | cons a t => cases t with
        | cons b t =>
          cases t
          exact ⟨_, _, rfl, h.nx _ _ w1 ((E1.set (s := .d _) a (fun _ z => nomatch z)).set (s := .d _) b (fun _ z => nomatch z)) l1.f q1⟩
    · exact q1.elim
/-! lists of one's own -/
def asOwn (o : Option (Option SV)) (k : List PyData → Prop) : Prop := match o with
  | some (some (.own xs)) => k xs
  | _ => False
/-- a list of one's own is written to: every slot but one is as it was -/
theorem EnvOk.writeAt {c : Ct} {w : Wd} {env : PEnv} {σ : St} {i : Nat} {s s' : SV} {l : Addr} {us : List V} {v : V} (E : EnvOk c w env σ) (e : env[i]? = some (some s)) (hσ : σ[i]? = some (some v)) (hf : s.foot v l) (hf' : ∀ a, s'.foot v a → s.foot v a)
    (hd : VR c ⟨w.M, upd w.H l (.lst us), w.F⟩ v s') : EnvOk c ⟨w.M, upd w.H l (.lst us), w.F⟩ (env.set i (some s')) σ := by
  obtain ⟨h1, h2, h3, h4⟩ := (E.look e hσ).foot hf
  have ne : ∀ b, w.M b → b ≠ l := fun b hb z => h3 (z ▸ hb)
  have hd' : ∀ {j : Nat} {t : SV}, (env.set i (some s'))[j]? = some (some t) → (i = j ∧ t = s') ∨ (i ≠ j ∧ env[j]? = some (some t)) := by
    intro j t q
    rw [List.getElem?_set] at q
    split at q
    · rename_i z
      split at q
      · cases q; exact .inl ⟨z, rfl⟩
      · cases q
    · rename_i z; exact .inr ⟨z, q⟩
  have ft : ∀ {j : Nat} {t : SV} {u : V} {a : Addr}, (env.set i (some s'))[j]? = some (some t) → σ[j]? = some (some u) → t.foot u a → ∃ t', env[j]? = some (some t') ∧ t'.foot u a := by
    intro j t u a q qu f
    rcases hd' q with ⟨rfl, rfl⟩ | ⟨_, q⟩
    · rw [hσ] at qu; cases qu; exact ⟨s, e, hf' a f⟩
    · exact ⟨t, q, f⟩
  refine ⟨⟨fun b o q => ?_, fun p hp => (E.wok.st p hp).kp (ne p hp) Kp.upd, E.wok.nf⟩, ⟨⟨E.le0.f, fun b o q n => ?_, E.le0.m, E.le0.mn, fun b q => E.le0.dom b (updNone q)⟩, E.le0.n⟩, by simpa using E.len, fun j t q => ?_, fun j k s1 t1 v1 u1 a q1 q2 q3 q4 f1 f2 => ?_, fun a za => ?_, fun a j t u za q q' f => ?_⟩
  · show upd w.H l (.lst us) b = some o
    rw [upd_ne (fun z => by rw [z, h2] at q; cases q)]; exact E.wok.sub b o q
  · show upd w.H l (.lst us) b = some o
    rw [upd_ne (fun z => by rw [z, h4] at q; cases q)]; exact E.le0.h b o q n
  · rcases hd' q with ⟨rfl, rfl⟩ | ⟨z, q⟩
    · exact ⟨v, hσ, hd⟩
    · obtain ⟨u, g1, g2⟩ := E.at' j t q
      exact ⟨u, g1, g2.writ h1 fun f => z (E.own i j _ _ _ _ l e q hσ g1 hf f)⟩
  · obtain ⟨_, p1, g1⟩ := ft q1 q3 f1
    obtain ⟨_, p2, g2⟩ := ft q2 q4 f2
    exact E.own j k _ _ _ _ a p1 p2 q3 q4 g1 g2
  · obtain ⟨z1, z2, z3⟩ := E.zf a za
    exact ⟨z1, fun q => z2 (updNone q), z3⟩
  · obtain ⟨_, p, g⟩ := ft q q' f
    exact E.zo a j _ _ za p q' g
theorem EnvOk.write {c : Ct} {w : Wd} {env : PEnv} {σ : St} {i : Nat} {xs ys : List PyData} {l : Addr} {vs us : List V} (E : EnvOk c w env σ) (e : env[i]? = some (some (.own xs))) (hσ : σ[i]? = some (some (.ref l))) (h1 : w.H l = some (.lst vs)) (h2 : w.F l = none) (h3 : ¬ w.M l) (h4 : c.w0.H l = none)
    (hd : DenAll c.K w.F us ys) : EnvOk c ⟨w.M, upd w.H l (.lst us), w.F⟩ (env.set i (some (.own ys))) σ :=
  E.writeAt e hσ rfl (fun _ f => f) ⟨l, us, rfl, upd_same, h2, h3, h4, hd⟩
def pApp (i : Nat) (pd : PDt) (D : PEnds) (env : PEnv) : Prop := asOwn env[i]? fun _ => pd env fun x e => asOwn e[i]? fun xs => xs.length < 1000000 ∧ D.nx (e.set i (some (.own (xs ++ [x]))))
theorem small6 {n : Nat} (h : n < 1000000) : n < sizeLine := Nat.lt_of_lt_of_le h (by decide)
instance rs_app {K : Frag} {i : Nat} {te : TE} {pd : PDt} [he : RD K te pd] : RS K (tDrop (tBM K "list" rAppend (tVar i) (tCons te tNil))) (pApp i pd) where
  ok := by
    rintro c w env σ Dp D rfl E h p
    unfold pApp asOwn at p
    split at p
    · rename_i xs0 e0
      obtain ⟨v, g0, l, vs, ev, h1, h2, h3, h4, h5⟩ := E.at' i _ e0
      subst ev
      refine ⟨_, g0, .inl ⟨rfl, _, SqL.of h1⟩, ?_⟩
      refine he.ok c w env σ _ _ rfl E p fun y x e1 w1 E1 l1 d1 q1 => ?_
      split at q1
      · rename_i xs e
        obtain ⟨v', g0', l', vs', ev', k1, k2, k3, k4, k5⟩ := E1.at' i _ e
        rw [g0] at g0'; cases g0'; cases ev'
        refine ⟨l, vs', y, rfl, rfl, k1, by rw [k5.len]; exact small6 q1.1, ?_⟩
        exact h.nx _ σ ⟨w1.M, upd w1.H l (.lst (vs' ++ [y])), w1.F⟩ (E1.write e g0 k1 k2 k3 k4 (k5.app (.cons d1 .nil))) l1.f q1.2
      · exact q1.elim
    · exact p.elim
def pClear (i : Nat) (D : PEnds) (env : PEnv) : Prop := asOwn env[i]? fun _ => D.nx (env.set i (some (.own [])))
def pPopS (i : Nat) (D : PEnds) (env : PEnv) : Prop := asOwn env[i]? fun xs => 0 < xs.length ∧ D.nx (env.set i (some (.own xs.dropLast)))
end Pu

namespace L2
open PySem PySem.Spec PyProof.Rows
section
variable {X : Cx} {tg : Expr}
/-- a list or a tuple, as it comes -/
def iSq (K : PySem.W.Frag) (tl : TE) : TI := fun σ H R => tl σ H fun x H1 => (∃ a, x = .ref a ∧ (∃ xs, SqL K H1 a xs) ∧ R (Itl K a) H1) ∨ ∃ a, x = .ref a ∧ (∃ xs, SqT K H1 a xs) ∧ R (Itt K a) H1
theorem pi_sq {l : Expr} {tl : TE} (hl : PE X l tl) : PI X tg l (iSq X.K tl) := by
  intro pins s σ H R I h
  refine thn (hl pins s σ H _ I h) fun v s1 ⟨x, H1, I1, r1, q1⟩ => ?_
  rcases q1 with ⟨a, e, ⟨xs, hq⟩, q⟩ | ⟨a, e, ⟨xs, hq⟩, q⟩
  · subst e
    cases r1
    obtain ⟨its, rv, p, hz⟩ := I1.list hq
    refine wpAny_pyIter_list p.isList ?_
    refine ⟨s1.heap.objs.size, [s1.heap.objs.size], _, _, H1, rfl, I1.kept (t' := s1.toks) fun b o e => Heap.get?_push_of_some _ e, turn_list a _, ⟨_, Heap.get?_push_size _ rfl, rfl, rfl⟩, fun b hb => ?_, q⟩
    have e : b = s1.heap.objs.size := by simpa using hb
    subst e
    exact I1.fpOk (Nat.le_refl _) (I1.hok.fresh (Nat.le_refl _))
  · subst e
    cases r1
    obtain ⟨its, rv, p, hz⟩ := I1.tuple hq
    refine wpAny_pyIter_tuple (show s1.heap.IsTuple a its.toArray from p) ?_
    refine ⟨s1.heap.objs.size, [s1.heap.objs.size], _, _, H1, rfl, I1.kept (t' := s1.toks) fun b o e => Heap.get?_push_of_some _ e, turn_tuple a _, ⟨_, Heap.get?_push_size _ rfl, rfl, rfl⟩, fun b hb => ?_, q⟩
    have e : b = s1.heap.objs.size := by simpa using hb
    subst e
    exact I1.fpOk (Nat.le_refl _) (I1.hok.fresh (Nat.le_refl _))
theorem pi_sqK {K : PySem.W.Frag} {l : Expr} {tl : TE} (h : X.K = K) (hl : PE X l tl) : PI X tg l (iSq K tl) := by subst h; exact pi_sq hl
theorem op_eqDK {K : PySem.W.Frag} (h : X.K = K) (hu : X.A.units + 64 < cLine) : OpR X (compareOp .Eq) (rEqD K) := by subst h; exact op_eqD hu
theorem op_neDK {K : PySem.W.Frag} (h : X.K = K) (hu : X.A.units + 64 < cLine) : OpR X (compareOp .NotEq) (rNeD K) := by subst h; exact op_neD hu
theorem sl_listK {K : PySem.W.Frag} (h : X.K = K) : SlR X (rSlL K) := by subst h; exact sl_list
end
end L2
namespace Pu
open PySem L2 My Prf
/-! while -/
def pWhile (pt : PTt) (pb : PSt) (D : PEnds) (env : PEnv) : Prop := ∃ Inv : Nat → PEnv → Prop, (∃ m, Inv m env) ∧ ∀ m e, Inv m e → pt e fun b e2 => if b = true then pb ⟨fun e3 => ∃ m', m' < m ∧ Inv m' e3, D.rt, D.nx, fun e3 => ∃ m', m' < m ∧ Inv m' e3⟩ e2 else D.nx e2
instance rs_while {K : Frag} {tt : TT} {tb : TS} {pt : PTt} {pb : PSt} [ht : RT K tt pt] [hb : RS K tb pb] : RS K (tWhile tt tb) (pWhile pt pb) where
  ok := by
    rintro c w env σ Dp D rfl E h ⟨Inv, ⟨m0, i0⟩, step⟩
    refine ⟨fun m σ' H' => ∃ e w', w'.H = H' ∧ EnvOk c w' e σ' ∧ Same w.F w'.F ∧ Inv m e, ⟨m0, env, w, rfl, E, Same.refl _, i0⟩, ?_⟩
    rintro m σ1 _ ⟨e1, w1, rfl, E1, s1, i1⟩
    refine ht.ok c w1 e1 σ1 _ _ rfl E1 (step m e1 i1) fun b e2 w2 E2 l2 q2 => ?_
    cases b with
    | true =>
      refine ⟨fun σ' H' => ∃ e w', w'.H = H' ∧ EnvOk c w' e σ' ∧ Same w.F w'.F ∧ ∃ m', m' < m ∧ Inv m' e, fun σ' H' ⟨e, w', e1, E', s', m', hm, i'⟩ => ⟨m', hm, e, w', e1, E', s', i'⟩, ?_⟩
      refine hb.ok c w2 e2 σ1 ⟨fun e3 => ∃ m', m' < m ∧ Inv m' e3, Dp.rt, Dp.nx, fun e3 => ∃ m', m' < m ∧ Inv m' e3⟩ _ rfl E2 ⟨fun e3 σ3 w3 E3 s3 n3 => ⟨e3, w3, rfl, E3, s1.trans (l2.f.trans s3), n3⟩, h.rt, fun e3 σ3 w3 E3 s3 n3 => h.nx e3 σ3 w3 E3 (s1.trans (l2.f.trans s3)) n3, fun e3 σ3 w3 E3 s3 n3 => ⟨e3, w3, rfl, E3, s1.trans (l2.f.trans s3), n3⟩⟩ q2
    | false => exact h.nx e2 σ1 w2 E2 (s1.trans l2.f) q2
/-! what is walked -/
def Walk (c : Ct) (w1 : Wd) (J : It) (xs : List PyData) : Prop :=
  ∀ w', w'.Ok → Le c.w0 w' → Same w1.F w'.F → (∀ i, i < xs.length → J.go i w'.H) ∧ J.stop xs.length w'.H ∧ ∀ i v H', J.yld i w'.H v H' → i < xs.length → ∃ w2 x, w2.H = H' ∧ w2.Ok ∧ Le w' w2 ∧ xs[i]? = some x ∧ Den c.K w2.F v x
class RI (K : Frag) (wi : TI) (pi : outParam PAr) : Prop where
  ok : ∀ (c : Ct) (w : Wd) (env : PEnv) (σ : St) (Qp : List PyData → PEnv → Prop) (R : It → Hpp → Prop), c.K = K → EnvOk c w env σ → pi env Qp → (∀ J xs env' w', EnvOk c w' env' σ → Lw w w' → Walk c w' J xs → Qp xs env' → R J w'.H) → wi σ w.H R
theorem walk_list {c : Ct} {w1 : Wd} {a : Addr} {vs : List V} {xs : List PyData} (d : DenAll c.K w1.F vs xs) (h : ∀ w', w'.Ok → Le c.w0 w' → Same w1.F w'.F → SqL c.K w'.H a vs) : Walk c w1 (Itl c.K a) xs := by
  intro w' ok l s
  have q := h w' ok l s
  have hl := d.len
  refine ⟨fun i hi => ⟨vs, vs[i]'(by omega), q, List.getElem?_eq_getElem _⟩, ⟨vs, q, by omega⟩, fun i v H' y hi => ?_⟩
  obtain ⟨e, y⟩ := y
  obtain ⟨x, g1, g2⟩ := d.get (y vs q)
  exact ⟨w', x, e.symm, ok, Le.refl w', g1, Den.same s g2⟩
theorem walk_tup {c : Ct} {w1 : Wd} {a : Addr} {vs : List V} {xs : List PyData} (d : DenAll c.K w1.F vs xs) (h : ∀ w', w'.Ok → Le c.w0 w' → Same w1.F w'.F → SqT c.K w'.H a vs) : Walk c w1 (Itt c.K a) xs := by
  intro w' ok l s
  have q := h w' ok l s
  have hl := d.len
  refine ⟨fun i hi => ⟨vs, vs[i]'(by omega), q, List.getElem?_eq_getElem _⟩, ⟨vs, q, by omega⟩, fun i v H' y hi => ?_⟩
  obtain ⟨e, y⟩ := y
  obtain ⟨x, g1, g2⟩ := d.get (y vs q)
  exact ⟨w', x, e.symm, ok, Le.refl w', g1, Den.same s g2⟩
def asSeq (x : PyData) (k : List PyData → Prop) : Prop := match x with
  | .list xs => k xs
  | .tuple xs => k xs
  | _ => False
def pIter (pd : PDt) (env : PEnv) (Q : List PyData → PEnv → Prop) : Prop := pd env fun x e => asSeq x fun xs => Q xs e
instance (priority := low) ri_sq {K : Frag} {tl : TE} {pd : PDt} [hl : RD K tl pd] : RI K (iSq K tl) (pIter pd) where
  ok := by
    rintro c w env σ Qp R rfl E p k
    refine hl.ok c w env σ _ _ rfl E p fun v x e1 w1 E1 l1 d1 q1 => ?_
    unfold asSeq at q1
    split at q1
    · obtain ⟨a, vs, e, h1, h2⟩ := d1.lstE
      exact .inl ⟨a, e, ⟨vs, E1.wok.sub.seq h1⟩, k _ _ e1 w1 E1 l1 (walk_list h2 fun w' ok l s => (s.trans ok.sub).seq h1) q1⟩
    · obtain ⟨a, vs, e, h1, h2⟩ := d1.tupE
      exact .inr ⟨a, e, ⟨vs, SqT.same E1.wok.sub h1⟩, k _ _ e1 w1 E1 l1 (walk_tup h2 fun w' ok l s => SqT.same (s.trans ok.sub) h1) q1⟩
    · exact q1.elim
def pIterV (i : Nat) (env : PEnv) (Q : List PyData → PEnv → Prop) : Prop := match env[i]? with
  | some (some (.d x)) => asSeq x fun xs => Q xs env
  | some (some (.own xs)) => Q xs (env.set i (some (.d (.list xs))))
  | some (some (.bor xs)) => Q xs env
  | _ => False
instance ri_var {K : Frag} {i : Nat} : RI K (iSq K (tVar i)) (pIterV i) where
  ok := by
    rintro c w env σ Qp R rfl E p k
    unfold pIterV at p
    split at p
    · rename_i x e
      obtain ⟨v, h1, h2⟩ := E.at' i _ e
      refine ⟨v, h1, ?_⟩
      unfold asSeq at p
      split at p
      · obtain ⟨a, vs, e, g1, g2⟩ := Den.lstE h2
        exact .inl ⟨a, e, ⟨vs, E.wok.sub.seq g1⟩, k _ _ env w E (Lw.refl w) (walk_list g2 fun w' ok l s => (s.trans ok.sub).seq g1) p⟩
      · obtain ⟨a, vs, e, g1, g2⟩ := Den.tupE h2
        exact .inr ⟨a, e, ⟨vs, SqT.same E.wok.sub g1⟩, k _ _ env w E (Lw.refl w) (walk_tup g2 fun w' ok l s => SqT.same (s.trans ok.sub) g1) p⟩
      · exact p.elim
    · rename_i xs e
      obtain ⟨w', v, e', hv, E', l, d⟩ := E.frz e
      refine ⟨v, hv, ?_⟩
      obtain ⟨a, vs, e, g1, g2⟩ := d.lstE
      have := k _ _ _ w' E' l (walk_list g2 fun w' ok l s => (s.trans ok.sub).seq g1) p
      rw [e'] at this
      exact .inl ⟨a, e, ⟨vs, by rw [← e']; exact E'.wok.sub.seq g1⟩, this⟩
    · rename_i xs e
      obtain ⟨v, h1, h2⟩ := E.at' i _ e
      refine ⟨v, h1, ?_⟩
      rcases h2 with h2 | ⟨l, vs, ev, g1, g2, g3⟩
      · obtain ⟨a, vs, e, g1, g2⟩ := Den.lstE h2
        exact .inl ⟨a, e, ⟨vs, E.wok.sub.seq g1⟩, k _ _ env w E (Lw.refl w) (walk_list g2 fun w' ok l s => (s.trans ok.sub).seq g1) p⟩
      · exact .inl ⟨l, ev, ⟨vs, SqL.of (E.le0.h _ _ g1 g2)⟩, k _ _ env w E (Lw.refl w) (walk_list g3 fun w' ok l' s => SqL.of (l'.h _ _ g1 g2)) p⟩
    · exact p.elim
/-- lo, lo + 1, .. -/
def rngD (lo : Int) (n : Nat) : List PyData := (List.range n).map fun k : Nat => PyData.int (lo + (k : Int))
theorem rngD_len (lo : Int) (n : Nat) : (rngD lo n).length = n := by simp [rngD]
theorem rngD_get {lo : Int} {n i : Nat} {x : PyData} (h : (rngD lo n)[i]? = some x) : i < n ∧ x = .int (lo + (i : Int)) := by
  unfold rngD at h
  rw [List.getElem?_map] at h
  by_cases hi : i < n
  · rw [List.getElem?_range hi] at h; cases h; exact ⟨hi, rfl⟩
  · rw [List.getElem?_eq_none (by simpa using hi)] at h; cases h
theorem walk_rng {c : Ct} {w1 : Wd} {lo : Int} {n : Nat} : Walk c w1 (Itr lo n) (rngD lo n) := by
  intro w' ok l s
  refine ⟨fun i hi => by rw [rngD_len] at hi; exact hi, by rw [rngD_len]; exact Nat.le_refl _, fun i v H' y hi => ?_⟩
  obtain ⟨e, y⟩ := y
  subst y
  rw [rngD_len] at hi
  refine ⟨w', .int (lo + i), e.symm, ok, Le.refl w', ?_, .int _⟩
  unfold rngD
  rw [List.getElem?_map, List.getElem?_range hi]; rfl
def pRng1 (pa : PAr) (env : PEnv) (Q : List PyData → PEnv → Prop) : Prop := pa env fun xs e => match xs with
  | [.int j] => (-(2 ^ 62) ≤ j ∧ j < 2 ^ 62) ∧ Q (rngD 0 j.toNat) e
  | _ => False
def pRng2 (pa : PAr) (env : PEnv) (Q : List PyData → PEnv → Prop) : Prop := pa env fun xs e => match xs with
  | [.int i, .int j] => (-(2 ^ 62) ≤ i ∧ i < 2 ^ 62 ∧ -(2 ^ 62) ≤ j ∧ j < 2 ^ 62) ∧ Q (rngD i (j - i).toNat) e
  | _ => False
instance ri_rng1 {K : Frag} {ta : TA} {pa : PAr} [ha : RAv K ta pa] : RI K (iRng1 ta) (pRng1 pa) where
  ok := by
    rintro c w env σ Qp R rfl E p k
    refine ha.ok c w env σ _ _ rfl E p fun vs xs e1 w1 E1 l1 v1 q1 => ?_
    split at q1
    · cases v1 with | cons h t => cases t; exact ⟨_, by rw [h.intE], q1.1.1, q1.1.2, k _ _ e1 w1 E1 l1 walk_rng q1.2⟩
    · exact q1.elim
instance ri_rng2 {K : Frag} {ta : TA} {pa : PAr} [ha : RAv K ta pa] : RI K (iRng2 ta) (pRng2 pa) where
  ok := by
    rintro c w env σ Qp R rfl E p k
    refine ha.ok c w env σ _ _ rfl E p fun vs xs e1 w1 E1 l1 v1 q1 => ?_
    split at q1
    · cases v1 with | cons h t => cases t with | cons h' t => cases t; exact ⟨_, _, by rw [h.intE, h'.intE], q1.1, k _ _ e1 w1 E1 l1 walk_rng q1.2⟩
    · exact q1.elim
/-! for -/
def pForGo (xs : List PyData) (pg : PyData → PEnv → (PEnv → Prop) → Prop) (pb : PSt) (D : PEnds) (env : PEnv) : Prop :=
  ∃ Inv : Nat → PEnv → Prop, Inv 0 env ∧ (∀ i x e, xs[i]? = some x → Inv i e → pg x e fun e2 => pb ⟨Inv (i + 1), D.rt, D.nx, Inv (i + 1)⟩ e2) ∧ ∀ e, Inv xs.length e → D.nx e
def pFor (pi : PAr) (pg : PyData → PEnv → (PEnv → Prop) → Prop) (pb : PSt) (D : PEnds) (env : PEnv) : Prop := pi env fun xs e => pForGo xs pg pb D e
instance rs_for {K : Frag} {wi : TI} {g : TG} {tb : TS} {pi : PAr} {pg : PyData → PEnv → (PEnv → Prop) → Prop} {pb : PSt} [hi : RI K wi pi] [hg : RG K g pg] [hb : RS K tb pb] : RS K (tFor wi g tb) (pFor pi pg pb) where
  ok := by
    rintro c w env σ Dp D rfl E h p
    refine hi.ok c w env σ _ _ rfl E p fun J xs e1 w1 E1 l1 wk ⟨Iv, i0, step, fin⟩ => ?_
    refine ⟨fun i m σ' H' => m = xs.length - i ∧ i ≤ xs.length ∧ ∃ e w', w'.H = H' ∧ EnvOk c w' e σ' ∧ Same w1.F w'.F ∧ Iv i e, ⟨xs.length, rfl, Nat.zero_le _, e1, w1, rfl, E1, Same.refl _, i0⟩, ?_⟩
    rintro i m σ2 _ ⟨rfl, hle, e2, w2, rfl, E2, s2, i2⟩
    obtain ⟨go, stop, yld⟩ := wk w2 E2.wok E2.le0 s2
    by_cases hlt : i < xs.length
    · refine .inr ⟨go i hlt, fun σ' H' => i + 1 ≤ xs.length ∧ ∃ e w', w'.H = H' ∧ EnvOk c w' e σ' ∧ Same w1.F w'.F ∧ Iv (i + 1) e, fun σ' H' ⟨q0, q⟩ => ⟨xs.length - (i + 1), by omega, rfl, q0, q⟩, fun v H' y => ?_⟩
      obtain ⟨w2', x, rfl, ok2, le2, hx, dx⟩ := yld i v H' y hlt
      replace E2 := E2.mono ok2 le2
      replace s2 := s2.trans le2.f
      clear yld go stop y le2 ok2
      generalize w2' = w2 at E2 s2 dx
      refine hg.ok c w2 e2 σ2 v x _ _ rfl E2 dx (step i x e2 hx i2) fun e3 σ3 E3 q3 => ?_
      refine hb.ok c w2 e3 σ3 ⟨Iv (i + 1), Dp.rt, Dp.nx, Iv (i + 1)⟩ _ rfl E3 ⟨fun e4 σ4 w4 E4 s4 n4 => ⟨hlt, e4, w4, rfl, E4, s2.trans s4, n4⟩, h.rt, fun e4 σ4 w4 E4 s4 n4 => h.nx e4 σ4 w4 E4 (l1.f.trans (s2.trans s4)) n4, fun e4 σ4 w4 E4 s4 n4 => ⟨hlt, e4, w4, rfl, E4, s2.trans s4, n4⟩⟩ q3
    · have e : i = xs.length := by omega
      subst e
      exact .inl ⟨stop, h.nx e2 σ2 w2 E2 (l1.f.trans s2) (fin e2 i2)⟩
theorem for_rng {lo : Int} {n : Nat} {pg : PyData → PEnv → (PEnv → Prop) → Prop} {pb : PSt} {D : PEnds} {env : PEnv} (Inv : Nat → PEnv → Prop) (h0 : Inv 0 env)
    (hs : ∀ (i : Nat) e, i < n → Inv i e → pg (.int (lo + (i : Int))) e fun e2 => pb ⟨Inv (i + 1), D.rt, D.nx, Inv (i + 1)⟩ e2) (hd : ∀ e, Inv n e → D.nx e) : pForGo (rngD lo n) pg pb D env :=
  ⟨Inv, h0, fun i x e hx hi => by obtain ⟨h1, rfl⟩ := rngD_get hx; exact hs i e h1 hi, fun e h => hd e (by rwa [rngD_len] at h)⟩
theorem for_seq {xs : List PyData} {pg : PyData → PEnv → (PEnv → Prop) → Prop} {pb : PSt} {D : PEnds} {env : PEnv} (Inv : Nat → PEnv → Prop) (h0 : Inv 0 env)
    (hs : ∀ (i : Nat) x e, xs[i]? = some x → Inv i e → pg x e fun e2 => pb ⟨Inv (i + 1), D.rt, D.nx, Inv (i + 1)⟩ e2) (hd : ∀ e, Inv xs.length e → D.nx e) : pForGo xs pg pb D env := ⟨Inv, h0, hs, hd⟩
/-! comprehensions -/
def SV.lent : SV → Option SV
  | .own xs => some (.bor xs)
  | .tr _ => none
  | .bt _ => none
  | s => some s
def capEnv (cap : List (Option Nat)) (env : PEnv) : PEnv := cap.map fun o => o.bind fun j => (env[j]?).join.bind SV.lent
theorem EnvOk.writeZ {c : Ct} {w : Wd} {env : PEnv} {σ : St} {l : Addr} {us : List V} (E : EnvOk c w env σ) (z : c.Z l) (h4 : c.w0.H l = none) : EnvOk c ⟨w.M, upd w.H l (.lst us), w.F⟩ env σ := by
  obtain ⟨h2, h1, h3⟩ := E.zf l z
  have ne : ∀ b, w.M b → b ≠ l := fun b hb z => h3 (z ▸ hb)
  refine ⟨⟨fun b o q => ?_, fun p hp => (E.wok.st p hp).kp (ne p hp) Kp.upd, E.wok.nf⟩, ⟨⟨E.le0.f, fun b o q n => ?_, E.le0.m, E.le0.mn, fun b q => E.le0.dom b (updNone q)⟩, E.le0.n⟩, E.len, fun j s q => ?_, E.own, fun a za => ?_, E.zo⟩
  · show upd w.H l (.lst us) b = some o
    rw [upd_ne (fun z => by rw [z, h2] at q; cases q)]; exact E.wok.sub b o q
  · show upd w.H l (.lst us) b = some o
    rw [upd_ne (fun z => by rw [z, h4] at q; cases q)]; exact E.le0.h b o q n
  · obtain ⟨v, g1, g2⟩ := E.at' j s q
    exact ⟨v, g1, g2.writ h1 (E.zo l j s v z q g1)⟩
  · obtain ⟨z1, z2, z3⟩ := E.zf a za
    exact ⟨z1, fun q => z2 (updNone q), z3⟩
theorem EnvOk.cap {c : Ct} {w : Wd} {env : PEnv} {σ : St} {D : Addr} (cap : List (Option Nat)) (E : EnvOk c w env σ) (hD : w.H D = none) : EnvOk ⟨c.K, w, fun a => a = D⟩ (w.lay D (.lst [])) (capEnv cap env) (capσ cap σ) := by
  have nown : ∀ (i : Nat) s v a, (capEnv cap env)[i]? = some (some s) → ¬ s.foot v a := fun i s0 v a q f => by
    unfold capEnv at q
    rw [List.getElem?_map] at q
    cases hc : cap[i]? with
    | none => rw [hc] at q; cases q
    | some o =>
      rw [hc] at q
      cases o with
      | none => cases q
      | some j =>
        have q' : ((env[j]?).join.bind SV.lent) = some s0 := Option.some.inj q
        cases hj : (env[j]?).join with
        | none => rw [hj] at q'; cases q'
        | some s => rw [hj] at q'; cases s <;> cases q' <;> exact f
  refine ⟨Wd.lay_ok E.wok hD, Wd.lay_le hD, by simp [capEnv, capσ], fun i s q => ?_, fun i j s t v u a q _ _ _ f => absurd f (nown i s v a q), fun a za => ?_, fun a j t u _ q _ => nown j t u a q⟩
  · unfold capEnv at q
    unfold capσ
    rw [List.getElem?_map] at q ⊢
    cases hc : cap[i]? with
    | none => rw [hc] at q; cases q
    | some o =>
      rw [hc] at q
      cases o with
      | none => cases q
      | some j =>
        have q' : ((env[j]?).join.bind SV.lent) = some s := Option.some.inj q
        cases hj : env[j]? with
        | none => rw [hj] at q'; cases q'
        | some t =>
          rw [hj] at q'
          cases t with
          | none => cases q'
          | some s0 =>
            have q2 : s0.lent = some s := q'
            obtain ⟨v, h1, h2⟩ := E.at' j s0 hj
            refine ⟨v, by simp [h1], ?_⟩
            cases s0 with
            | d x => cases q2; exact h2
            | own xs => cases q2; obtain ⟨l, vs, e, g1, g2, g3, g4, g5⟩ := h2; exact .inr ⟨l, vs, e, g1, g3, g5⟩
            | bor xs =>
              cases q2
              rcases h2.vv E.le0 with g | ⟨l, vs, ys, e, e', g1, g2, g3⟩
              · exact .inl g
              · cases e'; exact .inr ⟨l, vs, e, g1, g2, g3⟩
            | st => cases q2; exact h2
            | tr t => cases q2
            | bt t => cases q2
  · have e : a = D := za
    subst e
    exact ⟨E.wok.fnone hD, by show upd w.H a (.lst []) a ≠ none; rw [upd_same]; simp, fun z => E.wok.mne hD z rfl⟩
def pCompGo (xs : List PyData) (pg : PyData → PEnv → (PEnv → Prop) → Prop) (pt : PTt) (pd : PDt) (e0 : PEnv) (Fin : List PyData → Prop) : Prop :=
  ∃ Pv : Nat → PEnv → List PyData → Prop, Pv 0 e0 [] ∧ (∀ i x e ys, xs[i]? = some x → Pv i e ys → pg x e fun e2 => pt e2 fun b e3 => if b = true then pd e3 fun y e4 => Pv (i + 1) e4 (ys ++ [y]) else Pv (i + 1) e3 ys) ∧ ∀ e ys, Pv xs.length e ys → Fin ys
theorem comp_ok {K : Frag} {g : TG} {tt : TT} {te : TE} {pg : PyData → PEnv → (PEnv → Prop) → Prop} {pt : PTt} {pd : PDt} [hg : RG K g pg] [ht : RT K tt pt] [he : RD K te pd] {c : Ct} {w : Wd} {env : PEnv} {σ : St} {J : It} {xs : List PyData} {cap : List (Option Nat)} {D : Addr} {Fp : List PyData → Prop} {Fin : Hpp → Prop}
    (hK : c.K = K) (E : EnvOk c w env σ) (wk : Walk c w J xs) (hn : xs.length < 1000000) (p : pCompGo xs pg pt pd (capEnv cap env) Fp) (hD : w.H D = none) (k : ∀ w' ys, Res c w env σ w' (.ref D) (.own ys) → Fp ys → Fin w'.H) : compGo J g tt te D Fin (capσ cap σ) w.H := by
  subst hK
  obtain ⟨Pv, p0, step, fin⟩ := p
  have hw0 : c.w0.H D = none := E.le0.dom D hD
  refine ⟨fun i m σ' H' vs => m = xs.length - i ∧ i ≤ xs.length ∧ ∃ e w' ys, w'.H = H' ∧ EnvOk ⟨c.K, w, fun a => a = D⟩ w' e σ' ∧ w'.H D = some (.lst vs) ∧ vs.length ≤ i ∧ DenAll c.K w'.F vs ys ∧ Pv i e ys,
    ⟨xs.length, rfl, Nat.zero_le _, capEnv cap env, w.lay D (.lst []), [], rfl, E.cap cap hD, upd_same, Nat.le_refl _, .nil, p0⟩, ?_⟩
  rintro i m σ1 _ vs ⟨rfl, hle, e1, w1, ys, rfl, E1, h1, hvl, d1, q1⟩
  refine ⟨h1, small6 (by omega), ?_⟩
  obtain ⟨go, stop, yld⟩ := wk w1 E1.wok (E.le0.trans E1.le0) E1.le0.f
  by_cases hlt : i < xs.length
  · refine .inr ⟨go i hlt, fun v H' y => ?_⟩
    obtain ⟨w1', x, rfl, ok1', le1, hx, dx⟩ := yld i v H' y hlt
    replace h1 := le1.h _ _ h1 (E1.zf D rfl).2.2
    replace E1 := E1.mono ok1' le1
    replace d1 := DenAll.same le1.f d1
    clear yld go stop y le1 ok1'
    generalize w1' = w1 at E1 h1 d1 dx
    refine hg.ok ⟨c.K, w, fun a => a = D⟩ w1 e1 σ1 v x _ _ rfl E1 dx (step i x e1 ys hx q1) fun e2 σ2 E2 q2 => ?_
    refine ht.ok ⟨c.K, w, fun a => a = D⟩ w1 e2 σ2 _ _ rfl E2 q2 fun b e3 w3 E3 l3 q3 => ?_
    have nm := (E2.zf D rfl).2.2
    have h3 := l3.h _ _ h1 nm
    cases b with
    | true =>
      refine he.ok ⟨c.K, w, fun a => a = D⟩ w3 e3 σ2 _ _ rfl E3 q3 fun y' y e4 w4 E4 l4 d4 q4 => ?_
      have h4 := l4.h _ _ h3 (E3.zf D rfl).2.2
      refine ⟨vs, h4, small6 (by omega), xs.length - (i + 1), by omega, rfl, hlt, e4, ⟨w4.M, upd w4.H D (.lst (vs ++ [y'])), w4.F⟩, ys ++ [y], rfl, E4.writeZ rfl hD, upd_same, by rw [List.length_append]; simp; exact hvl, (DenAll.same (l3.f.trans l4.f) d1).app (.cons d4 .nil), q4⟩
    | false =>
      exact ⟨xs.length - (i + 1), by omega, rfl, hlt, e3, w3, ys, rfl, E3, h3, by omega, DenAll.same l3.f d1, q3⟩
  · have e : i = xs.length := by omega
    subst e
    obtain ⟨z1, z2, z3⟩ := E1.zf D rfl
    refine .inl ⟨stop, k w1 ys ⟨E.mono E1.wok E1.le0, E1.le0.toLw, ⟨D, vs, rfl, h1, z1, z3, hw0, d1⟩, fun a f => ?_, rfl⟩ (fin e1 ys q1)⟩
    have : V.ref D = .ref a := f
    cases this
    exact E.fresh hD
def pComp (pi : PAr) (pg : PyData → PEnv → (PEnv → Prop) → Prop) (pt : PTt) (pd : PDt) (cap : List (Option Nat)) (env : PEnv) (Q : SV → PEnv → Prop) : Prop := pi env fun xs e => xs.length < 1000000 ∧ pCompGo xs pg pt pd (capEnv cap e) fun ys => Q (.own ys) e
instance re_comp {K : Frag} {wi : TI} {g : TG} {tt : TT} {te : TE} {cap : List (Option Nat)} {pi : PAr} {pg : PyData → PEnv → (PEnv → Prop) → Prop} {pt : PTt} {pd : PDt} [hi : RI K wi pi] [hg : RG K g pg] [ht : RT K tt pt] [he : RD K te pd] : RE K (tComp wi g tt te cap) (pComp pi pg pt pd cap) where
  ok := by
    rintro c w env σ Qp Q rfl E p k
    refine hi.ok c w env σ _ _ rfl E p fun J xs e1 w1 E1 l1 wk ⟨hn, q⟩ D hD => ?_
    exact comp_ok (pg := pg) (pt := pt) (pd := pd) rfl E1 wk hn q hD fun w' ys R q' => k _ _ e1 w' (R.pre l1) q'
def pSetComp (pi : PAr) (pg : PyData → PEnv → (PEnv → Prop) → Prop) (pt : PTt) (pd : PDt) (cap : List (Option Nat)) (i : Nat) (D : PEnds) (env : PEnv) : Prop := pi env fun xs e => xs.length < 1000000 ∧ pCompGo xs pg pt pd (capEnv cap e) fun ys => D.nx (e.set i (some (.own ys)))
instance rs_setComp {K : Frag} {wi : TI} {g : TG} {tt : TT} {te : TE} {cap : List (Option Nat)} {i : Nat} {pi : PAr} {pg : PyData → PEnv → (PEnv → Prop) → Prop} {pt : PTt} {pd : PDt} [hi : RI K wi pi] [hg : RG K g pg] [ht : RT K tt pt] [he : RD K te pd] : RS K (tSetComp wi g tt te cap i) (pSetComp pi pg pt pd cap i) where
  ok := by
    rintro c w env σ Dp D rfl E h p
    refine hi.ok c w env σ _ _ rfl E p fun J xs e1 w1 E1 l1 wk ⟨hn, q⟩ l hl => ?_
    exact comp_ok (pg := pg) (pt := pt) (pd := pd) rfl E1 wk hn q hl fun w' ys R q' => h.nx _ _ w' (R.ev.set R.val R.new) (l1.f.trans R.lw.f) q'
/-! slices -/
class RP (K : Frag) (to : TO) (po : outParam (PEnv → (Option Int → PEnv → Prop) → Prop)) : Prop where
  ok : ∀ (c : Ct) (w : Wd) (env : PEnv) (σ : St) (Qp : Option Int → PEnv → Prop) (Q : Option Int → Hpp → Prop), c.K = K → EnvOk c w env σ → po env Qp → (∀ o env' w', EnvOk c w' env' σ → Lw w w' → Qp o env' → Q o w'.H) → to σ w.H Q
def pNoPart (env : PEnv) (Q : Option Int → PEnv → Prop) : Prop := Q none env
def asI (x : PyData) (k : Int → Prop) : Prop := match x with
  | .int i => k i
  | _ => False
def pPart (pa : PDt) (env : PEnv) (Q : Option Int → PEnv → Prop) : Prop := pa env fun x e => asI x fun i => Q (some i) e
instance rp_no {K : Frag} : RP K tNoPart pNoPart := ⟨fun c w env σ Qp Q _ E p k => k none env w E (Lw.refl w) p⟩
instance rp_part {K : Frag} {te : TE} {pa : PDt} [ha : RW K te pa] : RP K (tPart te) (pPart pa) where
  ok := by
    rintro c w env σ Qp Q rfl E p k
    refine ha.ok c w env σ _ _ rfl E p fun x dx e1 w1 E1 l1 v1 q1 => ?_
    unfold asI at q1
    split at q1
    · exact ⟨_, v1.intE, k _ e1 w1 E1 l1 q1⟩
    · exact q1.elim
def cutD (xs : List PyData) (lo hi : Option Int) : List PyData := (xs.drop (HT.sIx xs.length 0 lo)).take (HT.sIx xs.length xs.length hi - HT.sIx xs.length 0 lo)
def pSlL (pa : PDt) (pl ph : PEnv → (Option Int → PEnv → Prop) → Prop) (env : PEnv) (Q : SV → PEnv → Prop) : Prop := pa env fun x e => asL x fun xs => pl e fun lo e1 => ph e1 fun hi e2 => Q (.own (cutD xs lo hi)) e2
instance re_sl {K : Frag} {te : TE} {tl th : TO} {pa : PDt} {pl ph : PEnv → (Option Int → PEnv → Prop) → Prop} [ha : RW K te pa] [hl : RP K tl pl] [hh : RP K th ph] : RE K (tSl (rSlL K) te tl th) (pSlL pa pl ph) where
  ok := by
    rintro c w env σ Qp Q rfl E p k
    refine ha.ok c w env σ _ _ rfl E p fun x dx e1 w1 E1 l1 v1 q1 => ?_
    unfold asL at q1
    split at q1
    · rename_i xs
      refine hl.ok c w1 e1 σ _ _ rfl E1 q1 fun lo e2 w2 E2 l2 q2 => ?_
      refine hh.ok c w2 e2 σ _ _ rfl E2 q2 fun hi e3 w3 E3 l3 q3 => ?_
      obtain ⟨a, vs, e, g1, g2⟩ := ((v1.mono l2).mono l3).lst E3.wok
      refine ⟨a, vs, e, g1, fun p hp => k _ _ e3 _ ((Res.lst E3 hp (xs := cutD xs lo hi) ?_).pre (l1.trans (l2.trans l3))) q3⟩
      unfold cutV cutD
      rw [g2.len]
      exact (g2.drop _).take _
    · exact q1.elim
def pRev (pa pb : PDt) (env : PEnv) (Q : SV → PEnv → Prop) : Prop := pa env fun x e => asL x fun xs => pb e fun k e2 => k = .int (-1) ∧ Q (.own xs.reverse) e2
/-! a def -/
theorem args_at {K : Frag} {w : Wd} : ∀ {md : List Md} {vs : List V} {as : List SV}, Args K w md vs as → as.length = vs.length ∧ ∀ (i : Nat) s, as[i]? = some s → (∃ v, vs[i]? = some v ∧ VR ⟨K, w, noZ⟩ w v s) ∧ ∀ u a, ¬ s.foot u a
  | _, _, _, .nil => ⟨rfl, fun i s h => by simp at h⟩
  | _, _, _, .dat h t => ⟨by simp [(args_at t).1], fun i s e => match i, e with
    | 0, e => by simp at e; subst e; exact ⟨⟨_, rfl, h⟩, fun _ _ z => z⟩
    | i + 1, e => by simpa using (args_at t).2 i s (by simpa using e)⟩
  | _, _, _, .vw h t => ⟨by simp [(args_at t).1], fun i s e => match i, e with
    | 0, e => by
      simp at e; subst e
      refine ⟨⟨_, rfl, ?_⟩, fun _ _ z => z⟩
      rcases h with h | ⟨l, vs, ys, e1, e2, h1, h2, h3⟩
      · exact .inl h
      · cases e2; exact .inr ⟨l, vs, e1, h1, h2, h3⟩
    | i + 1, e => by simpa using (args_at t).2 i s (by simpa using e)⟩
  | _, _, _, .bt h t => ⟨by simp [(args_at t).1], fun i s e => match i, e with
    | 0, e => by simp at e; subst e; exact ⟨⟨_, rfl, h⟩, fun _ _ z => z⟩
    | i + 1, e => by simpa using (args_at t).2 i s (by simpa using e)⟩
  | _, _, _, .st h t => ⟨by simp [(args_at t).1], fun i s e => match i, e with
    | 0, e => by simp at e; subst e; exact ⟨⟨_, rfl, h⟩, fun _ _ z => z⟩
    | i + 1, e => by simpa using (args_at t).2 i s (by simpa using e)⟩
theorem enter {K : Frag} {ts : TS} {ps : PSt} [hs : RS K ts ps] {md : List Md} {psp : PSp} {vs : List V} {H : Hpp} {Q : VK} {E : XK} {N : List Str} (h : spOf K md psp vs H Q E)
    (hb : ∀ as Qp, psp as Qp → ps ⟨fun _ => Qp (.d .none), Qp, fun _ => False, fun _ => False⟩ (as.map some ++ List.replicate (N.length - md.length) none)) : ts { nx := fun _ H' => Q .non H', rt := Q } (L2.start N vs) H := by
  obtain ⟨w, as, Qp, rfl, ok, a, p, k⟩ := h
  obtain ⟨hl, hat⟩ := args_at a
  have look : ∀ (i : Nat) s, (as.map some ++ List.replicate (N.length - md.length) none)[i]? = some (some s) → as[i]? = some s := fun i s e => by
    rw [List.getElem?_append] at e
    split at e
    · rw [List.getElem?_map] at e
      cases q : as[i]? with
      | none => rw [q] at e; cases e
      | some t => rw [q] at e; cases e; rfl
    · rw [List.getElem?_replicate] at e
      split at e <;> cases e
  refine hs.ok ⟨K, w, noZ⟩ w (as.map some ++ List.replicate (N.length - md.length) none) (L2.start N vs) _ _ rfl ⟨ok, Le.refl w, by simp [L2.start, hl, a.len], fun i s e => ?_, fun i j s t v u a e _ _ _ f => absurd f ((hat i _ (look i _ e)).2 v a), fun a z => z.elim, fun a j t u z => z.elim⟩ ⟨fun env σ w' E' _ q => ?_, fun v s w' ok' l h r q => k v s w' ok' l h r q, fun _ _ _ _ _ z => z, fun _ _ _ _ _ z => z⟩ (hb as Qp p)
  · obtain ⟨⟨v, h1, h2⟩, _⟩ := hat i s (look i s e)
    refine ⟨v, ?_, h2⟩
    unfold L2.start
    rw [List.getElem?_append_left (by rw [List.length_map]; exact (List.getElem?_eq_some_iff.mp h1).1), List.getElem?_map, h1]; rfl
  · exact k .non (.d .none) w' E'.wok E'.le0 (show Den _ _ _ _ from .non) rfl q
/-- the law itself -/
def pLaw : PSp := fun as Q => ∃ ns : List Int, as = [.bor (ns.map .int)] ∧ ns.length ≤ 63 ∧ Q (.d (.bool true))
theorem denInts {K : Frag} {F : Hpp} : ∀ ns : List Int, DenAll K F (ns.map V.int) (ns.map .int)
  | [] => .nil
  | n :: r => .cons (.int n) (denInts r)
theorem law_in {K : Frag} : ∀ vs H Q E, spLaw K vs H Q E → spOf K [.vw] pLaw vs H Q E := by
  rintro vs H Q E ⟨a, ns, rfl, hS, hl, k⟩
  refine ⟨⟨fun _ => False, H, fun b => if b = a then H a else none⟩, [.bor (ns.map .int)], fun s => s = .d (.bool true), rfl, ⟨fun b o e => ?_, fun _ z => z.elim, fun _ z => z.elim⟩, .vw (.inl (.lst ?_ (denInts ns))) .nil, ⟨ns, rfl, hl, rfl⟩, fun v s w' ok l h r e => ?_⟩
  · dsimp only at e
    split at e
    · rename_i z; rw [z]; exact e
    · cases e
  · rcases hS with (h | ⟨o, h⟩) | h
    · exact .inl (.inl (by dsimp only; rw [if_pos rfl]; exact h))
    · exact .inl (.inr ⟨o, by dsimp only; rw [if_pos rfl]; exact h⟩)
    · exact .inr h
  · subst e
    have : v = .bl true := Den.blE h
    subst this
    exact k _
end Pu

namespace L2
open PySem PySem.Spec PyProof.Rows
end L2
namespace Pu
open PySem L2 My Prf
/-! what the readings come to -/
theorem pIx_dq0 {q : Rat} {Q : SV → Prop} : pIx (dq q) (.int 0) Q = Q (.d (.int q.num)) := rfl
theorem pIx_dq1 {q : Rat} {Q : SV → Prop} : pIx (dq q) (.int 1) Q = Q (.d (.int (q.den : Int))) := rfl
theorem lay_int {i : Int} : (PyData.int i).canLay0 = true := rfl
theorem lay_bool {b : Bool} : (PyData.bool b).canLay0 = true := rfl
theorem lay_none : PyData.none.canLay0 = true := rfl
theorem dep_int {i : Int} : (PyData.int i).depth = 0 := rfl
theorem dep_bool {b : Bool} : (PyData.bool b).depth = 0 := rfl
theorem dep_str {s : Str} : (PyData.str s).depth = 0 := rfl
theorem dep_none : PyData.none.depth = 0 := rfl
theorem lay_dq {q : Rat} : (dq q).canLay0 = true := rfl
theorem dep_dq {q : Rat} : (dq q).depth = 1 := rfl
theorem eqv_int {i j : Int} : PyData.eqv (.int i) (.int j) = decide (i = j) := by
  show (i == j) = _
  by_cases h : i = j <;> simp [h]
theorem rat_ext {p q : Rat} (h1 : p.num = q.num) (h2 : (p.den : Int) = q.den) : p = q := Rat.ext h1 (by omega)
theorem eqv_dq {p q : Rat} : PyData.eqv (dq p) (dq q) = decide (p = q) := by
  show (PyData.eqv (.int p.num) (.int q.num) && (PyData.eqv (.int (p.den : Int)) (.int (q.den : Int)) && true)) = _
  rw [eqv_int, eqv_int, Bool.and_true]
  by_cases h : p = q
  · subst h; simp
  · rw [decide_eq_false h]
    by_cases h1 : p.num = q.num
    · have h2 : ¬ (p.den : Int) = (q.den : Int) := fun z => h (rat_ext h1 z)
      rw [decide_eq_false h2, Bool.and_false]
    · rw [decide_eq_false h1, Bool.false_and]
theorem eqv_noneL {q : Rat} : PyData.eqv .none (dq q) = false := rfl
theorem eqv_noneR {q : Rat} : PyData.eqv (dq q) .none = false := rfl
theorem isNo_dq {q : Rat} : isNo (dq q) = false := rfl
theorem zero_dq : PyData.tuple [.int 0, .int 1] = dq 0 := rfl
theorem one_dq : PyData.tuple [.int 1, .int 1] = dq 1 := rfl
theorem tyD_dq {q : Rat} : tyD (dq q) = "tuple" := rfl
theorem kit_bb : kitB "bool" "bool" = some true := by decide +kernel
theorem kit_ii : kitB "int" "int" = some true := by decide +kernel
theorem kit_bi : kitB "bool" "int" = some true := by decide +kernel
theorem kit_ss : kitB "str" "str" = some true := by decide +kernel
theorem kit_ll : kitB "list" "list" = some true := by decide +kernel
theorem kit_lt : kitB "list" "tuple" = some false := by decide +kernel
theorem kit_tl : kitB "tuple" "list" = some false := by decide +kernel
theorem kit_tb : kitB "tuple" "bool" = some false := by decide +kernel
theorem kit_nt : kitB "NoneType" "tuple" = some false := by decide +kernel
/-! the draws -/
theorem ints_eq {K : Frag} {F : Hpp} : ∀ {vs : List V} {ns : List Int}, DenAll K F vs (ns.map .int) → vs = ns.map V.int
  | _, [], .nil => rfl
  | _, n :: r, .cons h t => by rw [h.intE, ints_eq t]; rfl
def ps_take : PSp := fun as Q => ∃ n : Int, as = [.st, .d (.int n)] ∧ 0 < n ∧ Sm 4000 n ∧ ∀ d : Int, 0 ≤ d → d < n → Q (.d (.int d))
def ps_begun : PSp := fun as Q => ∃ (ns : List Int) (k : Int), as = [.bor (ns.map .int), .d (.int k)] ∧ 0 ≤ k ∧ k ≤ 63 ∧ Q .st
theorem take_in {K : Frag} : ∀ vs H Q E, spOf K [.st, .dat] ps_take vs H Q E → sp_take vs H Q E := by
  rintro vs H Q E ⟨w, as, Qp, rfl, ok, a, ⟨n, rfl, n0, sn, q⟩, k⟩
  cases a with
  | st h t => cases t with
    | dat h' t =>
      cases t
      obtain ⟨p, e, hm⟩ := h
      subst e
      rw [Den.intE h']
      refine ⟨p, n, rfl, ok.st p hm, n0, sn, fun d H' d0 d1 S' kp => ?_⟩
      have out : ∀ b o, w.H b = some o → b ≠ p → H' b = some o := fun b o e ne => kp b o ne e
      have pn := ok.nf p hm
      refine k (.int d) (.d (.int d)) ⟨w.M, H', w.F⟩ ⟨fun b o e => out b o (ok.sub b o e) (fun z => by rw [z, pn] at e; cases e), fun r hr => ?_, ok.nf⟩ ⟨⟨Same.refl _, fun b o e nb => out b o e (fun z => nb (z ▸ hm)), fun _ z => z, fun _ z => .inl z, fun b e => ?_⟩, fun _ _ z => .inl z⟩ (Den.int d) rfl (q d d0 d1)
      · by_cases z : r = p
        · subst z; exact S'
        · exact (ok.st r hr).kp z kp
      · cases hb : w.H b with
        | none => rfl
        | some o =>
          by_cases z : b = p
          · subst z; obtain ⟨_, _, _, hp, _⟩ := S'.ex; rw [show H' b = none from e] at hp; cases hp
          · have := out b o hb z; rw [show H' b = none from e] at this; cases this
theorem begun_in {K : Frag} : ∀ vs H Q E, spOf K [.vw, .dat] ps_begun vs H Q E → sp_begun K vs H Q E := by
  rintro vs H Q E ⟨w, as, Qp, rfl, ok, a, ⟨ns, kk, rfl, k0, k1, q⟩, k⟩
  cases a with
  | vw h t => cases t with
    | dat h' t =>
      cases t
      obtain ⟨a, us, e, hS, hd⟩ := h.lst ok
      subst e
      rw [Den.intE h']
      refine ⟨a, ns, kk, rfl, by rw [← ints_eq hd]; exact hS, k0, k1, fun p H' hp S' kp => ?_⟩
      have out : ∀ b o, w.H b = some o → H' b = some o := fun b o e => kp b o (ne_of_none e hp) e
      refine k (.ref p) .st ⟨fun b => w.M b ∨ b = p, H', w.F⟩ ⟨fun b o e => out b o (ok.sub b o e), fun r hr => ?_, fun r hr => ?_⟩ ⟨⟨Same.refl _, fun b o e _ => out b o e, fun _ z => .inl z, fun b z => ?_, fun b e => ?_⟩, fun _ _ z => .inl z⟩ ⟨p, rfl, .inr rfl⟩ rfl q
      · rcases hr with hr | rfl
        · exact (ok.st r hr).kp (ok.mne hp hr) kp
        · exact S'
      · rcases hr with hr | rfl
        · exact ok.nf r hr
        · exact ok.fnone hp
      · rcases z with z | rfl
        · exact .inl z
        · exact .inr hp
      · cases hb : w.H b with
        | none => rfl
        | some o => have := out b o hb; rw [show H' b = none from e] at this; cases this
/-! fractions -/
def ps_gcd : PSp := fun as Q => ∃ a b : Int, as = [.d (.int a), .d (.int b)] ∧ Q (.d (.int ((Int.gcd a b : Nat) : Int)))
def ps_lowP : PSp := fun as Q => ∃ t b : Int, as = [.d (.int t), .d (.int b)] ∧ 0 < b ∧ Sm 8000 t ∧ Sm 8000 b ∧ Q (.d (dq (Rat.divInt t b)))
def ps_bin (f : Rat → Rat → Rat) : PSp := fun as Q => ∃ p q : Rat, as = [.d (dq p), .d (dq q)] ∧ SmQ 3900 p ∧ SmQ 3900 q ∧ Q (.d (dq (f p q)))
def ps_parted : PSp := fun as Q => ∃ p q : Rat, as = [.d (dq p), .d (dq q)] ∧ SmQ 3900 p ∧ SmQ 3900 q ∧ q ≠ 0 ∧ Q (.d (dq (p / q)))
def ps_less : PSp := fun as Q => ∃ p q : Rat, as = [.d (dq p), .d (dq q)] ∧ SmQ 3900 p ∧ SmQ 3900 q ∧ Q (.d (.bool (decide (p < q))))
def ps_amount : PSp := fun as Q => ∃ (pl : Bool) (le : Int), as = [.st, .d (.bool pl), .d (.int le)] ∧ (le = 0 ∨ le = 1) ∧ ∀ q : Rat, 0 ≤ q → (le = 1 → 0 < q) → SmR 41 6 q → (pl = true → SmR 3 1 q ∧ q.den = 1) → Q (.d (dq q))
end Pu

/-! ### more rules over the hand layer: range down, +, all, any, isinstance by several kinds, zip, enumerate -/
namespace L2
open PySem PySem.Spec PyProof.Rows
section
variable {X : Cx} {tg : Expr}
/-- one list and another one, both as they are read -/
def rCatS (K : PySem.W.Frag) : R2 := fun x y H Q => ∃ l b xs zs, x = .ref l ∧ y = .ref b ∧ SqL K H l xs ∧ SqL K H b zs ∧ xs.length + zs.length ≤ sizeLine ∧ ∀ p, H p = none → Q (.ref p) (upd H p (.lst (xs ++ zs)))
theorem op_catK {K : PySem.W.Frag} (hK : X.K = K) : OpR X (binaryOp .Add) (rCatS K) := by
  subst hK
  intro pins s σ H x y v u Q I rx ry h
  obtain ⟨l, b, xs, zs, rfl, rfl, hH, hB, hz, q⟩ := h
  cases rx
  cases ry
  obtain ⟨its, r, hl, z⟩ := I.list hH
  obtain ⟨its2, r2, hl2, z2⟩ := I.list hB
  have n1 := r.length
  have n2 := r2.length
  obtain ⟨⟨k1, dd, da, sl⟩, m1, ho, e1, e2, e3⟩ := hl
  obtain ⟨⟨k2, dd2, da2, sl2⟩, m2, ho2, e4, e5, e6⟩ := hl2
  dsimp only at e1 e2 e3 e4 e5 e6
  subst e1 e2 e3 e4 e5 e6
  refine concat_meets ⟨_, ho, rfl⟩ ⟨_, ho2, rfl⟩ noFill_list_add seq_list_add F.slot_list_add F.entry_list_add (F.args_list_add_2 _ _) (list_addW l b its.toArray its2.toArray m1 m2 none none sl sl2 (by rw [List.size_toArray, List.size_toArray]; omega)) ⟨ho, ho2, ?_⟩
  rw [show its.toArray ++ its2.toArray = (its ++ its2).toArray by simp]
  exact ⟨.ref _, _, I.lnew (t' := s.toks) (r.append r2) (by rw [List.length_append]; omega), rfl, q _ I.fresh⟩
/-- all, any of a list of truths -/
def rAll (K : PySem.W.Frag) : List V → Hp → VK → Prop := fun xs H Q => ∃ (p : Addr) (bs : List Bool), xs = [.ref p] ∧ SqL K H p (bs.map V.bl) ∧ Q (.bl (bs.all id)) H
theorem bls_get {bs : List Bool} : ∀ {us : List Value}, Vals (bs.map V.bl) us → us = bs.map Value.bool := by
  induction bs with
  | nil => intro us h; cases h; rfl
  | cons b r ih =>
    intro us h
    cases h with
    | cons h t => rw [ih t, show _ = Value.bool b from h]; rfl
theorem range_all (bs : List Bool) : (List.range bs.length).all (fun i => bs.getD i false) = bs.all id := by
  rw [Bool.eq_iff_iff, List.all_eq_true, List.all_eq_true]
  constructor
  · intro h b hb
    obtain ⟨i, hi, e⟩ := List.mem_iff_getElem.mp hb
    have := h i (List.mem_range.mpr hi)
    rw [List.getD_eq_getElem?_getD, List.getElem?_eq_getElem hi, e] at this
    exact this
  · intro h i hi
    have hi := List.mem_range.mp hi
    rw [List.getD_eq_getElem?_getD, List.getElem?_eq_getElem hi]
    exact h _ (List.getElem_mem hi)
theorem walk_it {pins : List (Addr × Obj)} {σ : St} {H : Hp} {s : Shared} {p : Addr} {bs : List Bool} (hc : X.calm = true) (I : Inv X pins σ H s) (hS : SqL X.K H p (bs.map V.bl)) {A : Around} (hA : A.handled = none) {Qf : Bool → Value → Shared → Prop} {E : Value → Shared → Prop} {g : (Nat → Bool) → Nat → Bool}
    (hQ : ∀ h' tk, Inv X pins σ H { s with heap := h', toks := tk } → Qf (g (fun i => bs.getD i false) bs.length) (.bool (g (fun i => bs.getD i false) bs.length)) { s with heap := h', toks := tk }) :
    wpAny (model X.prog X.w) A (pyIter (.ref p)) (fun it s₂ => ∃ J fp wr n P St tr, it = .ref J ∧ Walks X.prog X.w A J fp wr n P St ∧ St 0 s₂.heap ∧ TruthOf X.prog X.w A P tr ∧
      ∀ h' tk, (∀ b o, b ∉ wr → s₂.heap.get? b = some o → h'.get? b = some o) → Qf (g tr n) (.bool (g tr n)) { s₂ with heap := h', toks := tk }) E s := by
  obtain ⟨its, r, hl, z⟩ := I.list hS
  have e := bls_get r
  refine wpAny_pyIter_list hl.isList ?_
  have hne : p ≠ s.heap.objs.size := by
    obtain ⟨o, _, ho, _⟩ := hl
    exact Nat.ne_of_lt (Heap.lt_size ho)
  have W := Walks.list (prog := X.prog) (w := X.w) (A := A) hA s.heap.objs.size p hne its.toArray
  have hn : its.toArray.size = bs.length := by rw [List.size_toArray, e, List.length_map]
  rw [hn] at W
  refine ⟨s.heap.objs.size, _, _, _, _, _, fun i => bs.getD i false, rfl, W, ⟨⟨_, Heap.get?_push_size _ rfl, rfl, rfl⟩, hl.isList.push _⟩, fun i v s' Q' E' hP q => ?_, fun h' tk hk => hQ h' tk ?_⟩
  · dsimp only at hP
    rw [List.getElem?_toArray, e, List.getElem?_map] at hP
    cases hb : bs[i]? with
    | none => rw [hb] at hP; cases hP
    | some b =>
      rw [hb] at hP; cases hP
      refine wpAny_truthy_bool ?_
      dsimp only at q
      rw [List.getD_eq_getElem?_getD, hb] at q
      exact q
  · have I1 : Inv X pins σ H { s with heap := s.heap.push { cls := .type "list_iterator", data := .fields #[.ref p, .int 0 0] } } := I.kept (t' := s.toks) fun b o e => Heap.get?_push_of_some _ e
    have f := I.fpOk (H' := H) (Nat.le_refl s.heap.objs.size) I.fresh
    exact I1.turned (t' := tk) (fun b o hb e => hk b o (fun z => hb (List.mem_singleton.mp z)) e) f.1 f.2.1 f.2.2.2.1 f.2.2.2.2.1 f.2.2.2.2.2
theorem call_allK {K : PySem.W.Frag} (hK : X.K = K) (hc : X.calm = true := by rfl) : CallR X (.builtin "all") (rAll K) := by
  subst hK
  intro pins s σ H xs us Q I r h
  obtain ⟨p, bs, rfl, hS, q⟩ := h
  cases r with
  | cons r rr =>
    cases rr
    cases r
    refine call_all_walk (walk_it hc I hS (A := X.A.in1) (I.ok.hd hc) (g := fun tr n => (List.range n).all tr) (Qf := fun _ => EP X pins σ Q) fun h' tk I' => ⟨.bl _, H, I', rfl, ?_⟩)
    rw [range_all]; exact q
end
end L2

namespace L2
open PySem PySem.Spec PyProof.Rows
section
variable {X : Cx}
def kitBs (T : String) : List String → Option Bool
  | [] => some false
  | c :: r => match kitB T c with
    | some true => some true
    | some false => kitBs T r
    | none => none
end
end L2
namespace Pu
open PySem L2 My Prf
def dwnD (lo : Int) (n : Nat) : List PyData := (List.range n).map fun k : Nat => PyData.int (lo - (k : Int))
def pRngD (pa : PAr) (env : PEnv) (Q : List PyData → PEnv → Prop) : Prop := pa env fun xs e => match xs with
  | [.int i, .int j, .int k] => k = -1 ∧ ((-(2 ^ 61) ≤ i ∧ i < 2 ^ 61) ∧ -(2 ^ 61) ≤ j ∧ j < 2 ^ 61) ∧ Q (dwnD i (i - j).toNat) e
  | _ => False
def pCat (x y : PyData) (Q : SV → Prop) : Prop := match x, y with
  | .list xs, .list ys => xs.length + ys.length ≤ 1000000 ∧ Q (.own (xs ++ ys))
  | _, _ => False
instance ro_cat {K : Frag} : RO K (rCatS K) pCat where
  ok := by
    rintro c w env σ x y dx dy Qp Q rfl E vx vy p k
    unfold pCat at p
    split at p
    · obtain ⟨a, vs, e, h1, h2⟩ := vx.lst E.wok
      obtain ⟨b, us, e', g1, g2⟩ := vy.lst E.wok
      exact ⟨a, b, vs, us, e, e', h1, g1, by rw [h2.len, g2.len]; exact Nat.le_trans p.1 (by decide), fun q hq => k _ _ _ (Res.lst E hq (h2.app g2)) p.2⟩
    · exact p.elim
/-- truths in a list -/
def blsD : List PyData → Option (List Bool)
  | [] => some []
  | .bool b :: r => (blsD r).map (b :: ·)
  | _ => none
theorem blsD_den {K : Frag} {F : Hpp} : ∀ {vs : List V} {xs : List PyData} {bs : List Bool}, DenAll K F vs xs → blsD xs = some bs → vs = bs.map V.bl
  | _, _, bs, .nil, h => by cases h; rfl
  | _, _, bs, .cons (x := x) (xs := vs) (d := d) (ds := ds) h t, e => by
    cases d with
    | bool b =>
      have e' : (blsD ds).map (b :: ·) = some bs := e
      cases q : blsD ds with
      | none => rw [q] at e'; cases e'
      | some r =>
        rw [q] at e'; cases e'
        rw [h.blE, blsD_den t q]; rfl
    | _ => cases e
def pAll (xs : List PyData) (Q : SV → Prop) : Prop := match xs with
  | [.list ys] => ∃ bs, blsD ys = some bs ∧ Q (.d (.bool (bs.all id)))
  | _ => False
def pAny (xs : List PyData) (Q : SV → Prop) : Prop := match xs with
  | [.list ys] => ∃ bs, blsD ys = some bs ∧ Q (.d (.bool (bs.any id)))
  | _ => False
instance rb_all {K : Frag} : RB K (rAll K) pAll where
  ok := by
    rintro c w env σ vs xs Qp Q rfl E vv p k
    unfold pAll at p
    split at p
    · obtain ⟨bs, e, q⟩ := p
      cases vv with | cons h t => cases t; obtain ⟨a, us, e', h1, h2⟩ := h.lst E.wok; exact ⟨a, bs, by rw [e'], by rw [← blsD_den h2 e]; exact h1, k _ _ w (Res.data E (.bl _)) q⟩
    · exact p.elim
def pIsit (cs : List String) (pa : PDt) (env : PEnv) (Q : SV → PEnv → Prop) : Prop := pa env fun x e => cs.length ≤ 1000 ∧ match kitBs (tyD x) cs with
  | some b => Q (.d (.bool b)) e
  | none => False
theorem kits_ltB : kitBs "bool" ["list", "tuple"] = some false := by decide +kernel
theorem kits_ltN : kitBs "NoneType" ["list", "tuple"] = some false := by decide +kernel
theorem kits_ltI : kitBs "int" ["list", "tuple"] = some false := by decide +kernel
theorem kits_ltS : kitBs "str" ["list", "tuple"] = some false := by decide +kernel
theorem kits_ltL : kitBs "list" ["list", "tuple"] = some true := by decide +kernel
theorem kits_ltT : kitBs "tuple" ["list", "tuple"] = some true := by decide +kernel
end Pu
namespace Pu
open PySem L2 My Prf
theorem pGet0 {x : PyData} {xs : List PyData} {Q : SV → Prop} : pGet (x :: xs) 0 Q = Q (.d x) := by unfold pGet; rw [at0]
theorem pGet1 {x y : PyData} {xs : List PyData} {Q : SV → Prop} : pGet (x :: y :: xs) 1 Q = Q (.d y) := by unfold pGet; rw [at1]
theorem pGet2 {x y z : PyData} {xs : List PyData} {Q : SV → Prop} : pGet (x :: y :: z :: xs) 2 Q = Q (.d z) := by unfold pGet; rw [at2]
theorem pGet3 {x y z u : PyData} {xs : List PyData} {Q : SV → Prop} : pGet (x :: y :: z :: u :: xs) 3 Q = Q (.d u) := by unfold pGet; rw [at3]
theorem pGet_of {xs : List PyData} {i : Int} {z : PyData} {Q : SV → Prop} (h : atI xs i = some z) (q : Q (.d z)) : pGet xs i Q := by unfold pGet; rw [h]; exact q
theorem menuP {xs : List Int} {d : Int} (h0 : 0 ≤ d) (h1 : d < xs.length) : ∃ z, z ∈ xs ∧ atI (xs.map PyData.int) d = some (.int z) := by
  obtain ⟨n, rfl⟩ := Int.eq_ofNat_of_zero_le h0
  have hn : n < xs.length := by omega
  refine ⟨xs[n], List.getElem_mem hn, atI_nat ?_⟩
  rw [List.getElem?_map, List.getElem?_eq_getElem hn]; rfl
/-- lists by their things -/
theorem pGet_map {α : Type} {f : α → PyData} {xs : List α} {n : Nat} {a : α} {Q : SV → Prop} (h : xs[n]? = some a) (q : Q (.d (f a))) : pGet (xs.map f) (n : Int) Q :=
  pGet_of (atI_nat (by rw [List.getElem?_map, h]; rfl)) q
end Pu
namespace Pu
open PySem L2 My Prf
theorem pIxT {xs : List PyData} {i : Int} {Q : SV → Prop} : pIx (.tuple xs) (.int i) Q = pGet xs i Q := rfl
end Pu

/-! the rules once more, over judgements that do not unfold -/
namespace L2
open PySem PySem.Spec PyProof.Rows
structure QE (X : Cx) (e : Expr) (t : TE) : Prop where
  out : PE X e  t
structure QT (X : Cx) (e : Expr) (t : TT) : Prop where
  out : PT X e  t
structure QW (X : Cx) (e : Expr) (t : TT) : Prop where
  out : PW X e  t
structure QA (X : Cx) (e : List Expr) (t : TA) : Prop where
  out : PA X e  t
structure QSs (X : Cx) (e : List Stmt) (t : TS) : Prop where
  out : PSs X e  t
structure QS (X : Cx) (e : Stmt) (t : TS) : Prop where
  out : PS X e  t
structure QGs (X : Cx) (e : List Expr) (t : TGs) : Prop where
  out : PGs X e  t
structure QG (X : Cx) (e : Expr) (t : TG) : Prop where
  out : PG X e  t
structure QI (X : Cx) (e e2 : Expr) (t : TI) : Prop where
  out : PI X e e2  t
structure QTs (X : Cx) (e : List Expr) (t : TT) : Prop where
  out : PTs X e  t
structure QO (X : Cx) (e : Option Expr) (t : TO) : Prop where
  out : PO X e  t
section
variable {X : Cx}
theorem qpv (i: Nat) {x : Str} {pos : Pos} (hN: X.N[i]? = some x := by rfl) (hv: Vis X.env.scope x := by first | exact Or.inl rfl | exact Or.inr (Or.inl rfl) | exact Or.inr (Or.inr rfl)) (hd: (x == ("__debug__" : Str)) = false := by decide) (hcd: (x == ("__classdict__" : Str)) = false := by decide) : QE X (.Name x pos) (tVar i) := ⟨pv i hN hv hd hcd⟩
theorem qpe_int {i j pos} : QE X (.Constant (.int i) j pos) (tC (.int i)) := ⟨pe_int ⟩
theorem qpe_bl {b j pos} : QE X (.Constant (.bool b) j pos) (tC (.bl b)) := ⟨pe_bl ⟩
theorem qpe_non {j pos} : QE X (.Constant .none j pos) (tC .non) := ⟨pe_non ⟩
theorem qpe_str {x j pos} : QE X (.Constant (.str x) j pos) (tC (.str x)) := ⟨pe_str ⟩
theorem qpe_glob {x : Str} {v : V} {u : Value} {pos : Pos} (hg: Gl X x) (hm: X.mg x = some u) (r: RelV v u) (hd: (x == ("__debug__" : Str)) = false := by decide) : QE X (.Name x pos) (tC v) := ⟨pe_glob hg hm r hd⟩
theorem qpe_bltn {x : Str} {v : V} {u : Value} {pos : Pos} (hg: Gl X x) (hm: X.mg x = none) (hv: bootBuiltins x = some u) (r: RelV v u) (hn: x ≠ "__name__" := by decide) (hd: (x == ("__debug__" : Str)) = false := by decide) : QE X (.Name x pos) (tC v) := ⟨pe_bltn hg hm hv r hn hd⟩
theorem qpe_op {op : Operator} {r : R2} (ho: OpR X (binaryOp op) r) (ha: QE X a ta) (hb: QE X b tb) : QE X (.BinOp a op b pos) (tOp r ta tb) := ⟨pe_op ho ha.out hb.out⟩
theorem qpe_un {op : UnaryOp} {r : V → Hp → VK → Prop} (ho: UnR X (unaryOp op) r) (ha: QE X a ta) : QE X (.UnaryOp op a pos) (tUn r ta) := ⟨pe_un ho ha.out⟩
theorem qpe_not (ha: QE X a ta) : QE X (.UnaryOp .Not a pos) (tNotV ta) := ⟨pe_not ha.out⟩
theorem qpe_cmpR {op : CmpOp} {r : R2} (ho: OpR X (compareOp op) r) (ha: QE X a ta) (hb: QE X b tb) (hm: behindInMarks op b = false) : QE X (.Compare a [op] [b] pos) (tOp r ta tb) := ⟨pe_cmpR ho ha.out hb.out hm⟩
theorem qpt_cmpR {op : CmpOp} {r : R2} (ho: OpR X (compareOp op) r) (ha: QE X a ta) (hb: QE X b tb) (hm: behindInMarks op b = false) : QT X (.Compare a [op] [b] pos) (tTest (tOp r ta tb)) := ⟨pt_cmpR ho ha.out hb.out hm⟩
theorem qpt_chain {op op' : CmpOp} {r r' : R2} (ho: OpR X (compareOp op) r) (ho': OpR X (compareOp op') r') (ha: QE X a ta) (hb: QE X b tb) (hc: QE X c tc) (hm: lastMarks [op, op'] [b, c] = false := by with_unfolding_all rfl) : QT X (.Compare a [op, op'] [b, c] pos) (tTest (tChain r r' ta tb tc)) := ⟨pt_chain ho ho' ha.out hb.out hc.out hm⟩
theorem qpe_and {rest : List Expr} (ha: QE X a ta) (hb: QE X (.BoolOp .And (b :: rest) pos) tb) : QE X (.BoolOp .And (a :: b :: rest) pos) (tAndV ta tb) := ⟨pe_and ha.out hb.out⟩
theorem qpe_or {rest : List Expr} (ha: QE X a ta) (hb: QE X (.BoolOp .Or (b :: rest) pos) tb) : QE X (.BoolOp .Or (a :: b :: rest) pos) (tOrV ta tb) := ⟨pe_or ha.out hb.out⟩
theorem qpe_one {op} {t : TE} (h: QE X a t) : QE X (.BoolOp op [a] pos) t := ⟨pe_one h.out⟩
theorem qpw_and {rest : List Expr} (ha: QT X a tA) (hb: QW X (.BoolOp .And (b :: rest) pos) tB') : QW X (.BoolOp .And (a :: b :: rest) pos) (tAnd tA tB') := ⟨pw_and ha.out hb.out⟩
theorem qpw_or {rest : List Expr} (ha: QT X a tA) (hb: QW X (.BoolOp .Or (b :: rest) pos) tB') : QW X (.BoolOp .Or (a :: b :: rest) pos) (tOr tA tB') := ⟨pw_or ha.out hb.out⟩
theorem qpw_and1 (ha: QT X a tA) : QW X (.BoolOp .And [a] pos) tA := ⟨pw_and1 ha.out⟩
theorem qpw_or1 (ha: QT X a tA) : QW X (.BoolOp .Or [a] pos) tA := ⟨pw_or1 ha.out⟩
theorem qpt_not (ha: QT X a tA) : QT X (.UnaryOp .Not a pos) (tNot tA) := ⟨pt_not ha.out⟩
theorem qpt_val {e : Expr} {t : TE} (h: QE X e t) (he: ∀ whole, isTrue e X.env whole = (do let v ← whole; standAt e.pos; holding [v] (truthy v)) := by intro _; rfl) : QT X e (tB t) := ⟨pt_val h.out he⟩
theorem qpe_ifExp {c : Expr} (hc: QT X c tA) (ha: QE X a ta) (hb: QE X b tb) : QE X (.IfExp c a b pos) (tIf tA ta tb) := ⟨pe_ifExp hc.out ha.out hb.out⟩
theorem qpe_comp (hc: X.calm = true) (C: CompSc X scope cl N' cap) (hi: QI X tg iter wi) (hg: ∀ s3 H3 fp, QG (X.block scope cl N' s3 H3 fp) tg g) (ht: ∀ s3 H3 fp, QTs (X.block scope cl N' s3 H3 fp) ifs tt) (he: ∀ s3 H3 fp, QE (X.block scope cl N' s3 H3 fp) elt te) (hs: ∀ x, foldedSetIterable iter X.env x = pure x := by intro _; rfl) : QE X (.ListComp elt [⟨tg, iter, ifs, 0⟩] scope pos) (tComp wi g tt te cap) := ⟨pe_comp hc C hi.out (fun a b c => (hg a b c).out) (fun a b c => (ht a b c).out) (fun a b c => (he a b c).out) hs⟩
theorem qps_setComp (hc: X.calm = true) (hN: X.N.Nodup) (hi: X.N[i]? = some y) (hy: X.env.scope.names.lookup y = some .local) (C: CompSc X scope cl N' cap) (hit: QI X tg iter wi) (hg: ∀ s3 H3 fp, QG (X.block scope cl N' s3 H3 fp) tg g) (ht: ∀ s3 H3 fp, QTs (X.block scope cl N' s3 H3 fp) ifs tt) (he: ∀ s3 H3 fp, QE (X.block scope cl N' s3 H3 fp) elt te) (hsw: swapsWith (.ListComp elt [⟨tg, iter, ifs, 0⟩] scope pos) (some (.Name y py)) spos.line X.env = pure true) (hs: ∀ x, foldedSetIterable iter X.env x = pure x := by intro _; rfl) : QS X (.Assign [.Name y py] (.ListComp elt [⟨tg, iter, ifs, 0⟩] scope pos) spos) (tSetComp wi g tt te cap i) := ⟨ps_setComp hc hN hi hy C hit.out (fun a b c => (hg a b c).out) (fun a b c => (ht a b c).out) (fun a b c => (he a b c).out) hsw hs⟩
theorem qpe_tup {x1} (h: QA X es t) : QE X (.Tuple es x1 pos) (tTup t) := ⟨pe_tup h.out⟩
theorem qpe_lst (h: QA X es t) : QE X (.List es pos) (tLst t) := ⟨pe_lst h.out⟩
theorem qpe_slice {lo hi : Option Expr} {r : V → Option Int → Option Int → Hp → VK → Prop} (hr: SlR X r) (he: QE X e te) (hl: QO X lo tl) (hu: QO X hi th) : QE X (.Subscript e (.Slice lo hi none p2) pos) (tSl r te tl th) := ⟨pe_slice hr he.out hl.out hu.out⟩
theorem qpo_none  : QO X none tNoPart := ⟨po_none ⟩
theorem qpo_some (h: QE X e te) : QO X (some e) (tPart te) := ⟨po_some h.out⟩
theorem qpe_ix {r : R2} (hr: IxR X r) (ha: QE X a ta) (hb: QE X b tb) (hs: PlainIx b) : QE X (.Subscript a b pos) (tOp r ta tb) := ⟨pe_ix hr ha.out hb.out hs⟩
theorem qpe_call (F: FnOk X.prog X.w X.K X.mg X.base CX k f fd ps sp) (hr: Room k X.A) (hg: Gl X x) (hm: X.mg x = some (.ref f)) (hk: PySem.W.keepIn X.K (.ref f) = true) (hb: Binds X.K fd ps ds) (hd: Vals dvs ds) (hx: Passes CX X E) (ha: QA X (e :: es) t) (hdb: (x == ("__debug__" : Str)) = false := by decide) (he: starEach (e :: es) X.env = (false, eval e X.env) :: starEach es X.env := by rfl) (hpl: (backTo pos (starEach es X.env)).any (·.1) = false := by rfl) : QE X (.Call (.Name x p) (e :: es) [] pos) (tCall sp dvs E t) := ⟨pe_call F hr hg hm hk hb hd hx ha.out hdb he hpl⟩
theorem qpe_callB {id : String} (hc: CallR X (.builtin id) r) (hg: Gl X x) (hm: X.mg x = none) (hv: bootBuiltins x = some (.builtin id)) (ha: QA X (e :: es) t) (hn: x ≠ "__name__" := by decide) (hdb: (x == ("__debug__" : Str)) = false := by decide) (he: starEach (e :: es) X.env = (false, eval e X.env) :: starEach es X.env := by rfl) (hpl: (backTo pos (starEach es X.env)).any (·.1) = false := by rfl) : QE X (.Call (.Name x p) (e :: es) [] pos) (tCB r t) := ⟨pe_callB hc hg hm hv ha.out hn hdb he hpl⟩
theorem qpe_callTy (hc: CallR X (.type T) r) (hg: Gl X x) (hm: X.mg x = none) (hv: bootBuiltins x = some (.type T)) (ha: QA X (e :: es) t) (hn: x ≠ "__name__" := by decide) (hdb: (x == ("__debug__" : Str)) = false := by decide) (he: starEach (e :: es) X.env = (false, eval e X.env) :: starEach es X.env := by rfl) (hpl: (backTo pos (starEach es X.env)).any (·.1) = false := by rfl) : QE X (.Call (.Name x p) (e :: es) [] pos) (tCB r t) := ⟨pe_callTy hc hg hm hv ha.out hn hdb he hpl⟩
theorem qpe_bmK {K : PySem.W.Frag} (hK : X.K = K) {id : String} (pa: PlainAttrs T) (slot: Slot T name id) (hty: typeOf (.builtin id) = pure (.type "method_descriptor")) (hm: MtR X id r) (ho: QE X o to) (ha: QA X (e :: es) t) (hbase: attributeBase o name X.env (eval o X.env) = eval o X.env := by rfl) (hfew: ((backTo cpos (starEach (e :: es) X.env)).all (fun x => !x.1) && (backToKw cpos (keywordEach [] X.env)).all (fun x => x.1.isSome)
      && decide ((e :: es).length + ([] : List Keyword).length + (if ([] : List Keyword).isEmpty then 0 else 1) < 30)) = true := by rfl) (hline: (apos.endLine == cpos.line) = true := by rfl) (hs: starEach (e :: es) X.env = (false, eval e X.env) :: starEach es X.env := by rfl) (hplain: (backTo cpos (starEach es X.env)).any (·.1) = false := by rfl) : QE X (.Call (.Attribute o name apos) (e :: es) [] cpos) (tBM K T r to t) := by subst hK; exact ⟨pe_bm pa slot hty hm ho.out ha.out hbase hfew hline hs hplain⟩
theorem qpa_nil  : QA X [] tNil := ⟨pa_nil ⟩
theorem qpa_cons (ha: QE X e te) (hr: QA X es t) (hs: starEach (e :: es) X.env = (false, eval e X.env) :: starEach es X.env := by rfl) : QA X (e :: es) (tCons te t) := ⟨pa_cons ha.out hr.out hs⟩
theorem qpss_nil  : QSs X [] tNext := ⟨pss_nil ⟩
theorem qpss_one {st : Stmt} (h1: QS X st t) : QSs X [st] t := ⟨pss_one h1.out⟩
theorem qpss_cons {st : Stmt} {rest : List Stmt} (h1: QS X st t) (h2: QSs X rest u) : QSs X (st :: rest) (tSeq t u) := ⟨pss_cons h1.out h2.out⟩
theorem qps_never {st : Stmt} : QS X st tNever := ⟨ps_never ⟩
theorem qps_ret (he: QE X e te) : QS X (.Return (some e) pos) (tRet te) := ⟨ps_ret he.out⟩
theorem qps_expr (he: QE X e te) (hs: swapsWith e none pos.line X.env = pure false := by rfl) : QS X (.Expr e pos) (tDrop te) := ⟨ps_expr he.out hs⟩
theorem qps_if {c : Expr} {a b : List Stmt} {tc : TT} (hc: QT X c tc) (ha: QSs X a t) (hb: QSs X b u) : QS X (.If c a b pos) (tIfS tc t u) := ⟨ps_if hc.out ha.out hb.out⟩
theorem qps_while {c : Expr} {body : List Stmt} {tc : TT} {tb : TS} (hp: PassesOwn (model X.prog X.w) X.A X.env X.xe) (hc: QT X c tc) (hb: QSs X body tb) : QS X (.While c body [] pos) (tWhile tc tb) := ⟨ps_while hp hc.out hb.out⟩
theorem qps_for {iter : Expr} {body : List Stmt} {wi : TI} {g : TG} {tb : TS} {pos : Pos} (hp: PassesOwn (model X.prog X.w) X.A X.env X.xe) (hc: X.calm = true) (hi: QI X tg iter wi) (hg: QG X tg g) (hb: QSs X body tb) (hs: ∀ x, foldedSetIterable iter X.env x = pure x := by intro _; rfl) : QS X (.For tg iter body [] pos) (tFor wi g tb) := ⟨ps_for hp hc hi.out hg.out hb.out hs⟩
theorem qps_set {i : Nat} {x : Str} {e : Expr} {te : TE} {pos' : Pos} (hN: X.N.Nodup) (hi: X.N[i]? = some x) (hx: Loc X.env.scope x) (he: QE X e te) (hs: swapsWith e (some (.Name x pos')) pos.line X.env = pure false := by rfl) (hf: X.fn x = true ∨ X.env.scope.names.lookup x = some .local := by first | exact .inl rfl | exact .inr rfl | assumption) : QS X (.Assign [.Name x pos'] e pos) (tAsg te (gName i)) := ⟨ps_set hN hi hx he.out hs hf⟩
theorem qps_par {i j : Nat} {x y : Str} {a b : Expr} {ta : TA} {px py pt : Pos} {kt k2 pt2} (hc: X.calm = true) (hN: X.N.Nodup) (hi: X.N[i]? = some x) (hj: X.N[j]? = some y) (hij: i ≠ j) (hx: X.env.scope.names.lookup x = some .local) (hy: X.env.scope.names.lookup y = some .local) (ha: QA X [a, b] ta) (hw: swappedStores [.Tuple [.Name x px, .Name y py] kt pt] (.Tuple [a, b] k2 pt2) X.env = pure (some [x, y])) (hs: swapsWithSole [.Tuple [.Name x px, .Name y py] kt pt] (.Tuple [a, b] k2 pt2) pos.line X.env = pure false := by rfl) : QS X (.Assign [.Tuple [.Name x px, .Name y py] kt pt] (.Tuple [a, b] k2 pt2) pos) (tPar i j ta) := ⟨ps_par hc hN hi hj hij hx hy ha.out hw hs⟩
theorem qps_asg {tg e : Expr} {te : TE} {g : TG} (he: QE X e te) (hg: QG X tg g) (hs: swapsWithSole [tg] e pos.line X.env = pure false := by rfl) (hw: swappedStores [tg] e X.env = pure none := by rfl) (h1: (assignEach [tg] X.env).map (·.2) = [assign tg X.env] := by rfl) : QS X (.Assign [tg] e pos) (tAsg te g) := ⟨ps_asg he.out hg.out hs hw h1⟩
theorem qpg_name {i : Nat} {x : Str} (hN: X.N.Nodup) (hi: X.N[i]? = some x) (hx: Loc X.env.scope x) (hf: X.fn x = true ∨ X.env.scope.names.lookup x = some .local := by first | exact .inl rfl | exact .inr rfl | assumption) : QG X (.Name x pos) (gName i) := ⟨pg_name hN hi hx hf⟩
theorem qpgs_nil  : QGs X [] gNil := ⟨pgs_nil ⟩
theorem qpgs_cons {e : Expr} {es : List Expr} {t : TG} {u : TGs} (h1: QG X e t) (h2: QGs X es u) (hs: (assignEach (e :: es) X.env).map (·.2) = assign e X.env :: (assignEach es X.env).map (·.2) := by rfl) : QGs X (e :: es) (gCons t u) := ⟨pgs_cons h1.out h2.out hs⟩
theorem qpg_tupK {K : PySem.W.Frag} {pos : Pos} {es : List Expr} {k : Nat} {t : TGs} {n : Nat} (h: X.K = K) (hc: X.calm = true) (hg: QGs X es t) (hn: (assignEach es X.env).length = n := by rfl) (hst: (assignEach es X.env).findIdx? (·.1) = none := by rfl) : QG X (.Tuple es k pos) (gTup K n t) := ⟨pg_tupK h hc hg.out hn hst⟩
theorem qpi_range1 {a : Expr} {ta : TA} {p pos : Pos} (hg: Gl X "range") (hm: X.mg "range" = none) (ha: QA X [a] ta) (hs: starEach [a] X.env = [(false, eval a X.env)] := by rfl) : QI X tg (.Call (.Name "range" p) [a] [] pos) (iRng1 ta) := ⟨pi_range1 hg hm ha.out hs⟩
theorem qpi_range2 {a b : Expr} {ta : TA} {p pos : Pos} (hg: Gl X "range") (hm: X.mg "range" = none) (ha: QA X [a, b] ta) (hs: starEach [a, b] X.env = [(false, eval a X.env), (false, eval b X.env)] := by rfl) (hs2: starEach [b] X.env = [(false, eval b X.env)] := by rfl) : QI X tg (.Call (.Name "range" p) [a, b] [] pos) (iRng2 ta) := ⟨pi_range2 hg hm ha.out hs hs2⟩
theorem qpi_sqK {K : PySem.W.Frag} {l : Expr} {tl : TE} (h: X.K = K) (hl: QE X l tl) : QI X tg l (iSq K tl) := ⟨pi_sqK h hl.out⟩
theorem qpts_nil {X : Cx} : QTs X [] tYes := ⟨pts_nil ⟩
theorem QW.pt {X : Cx} {e : Expr} {t : TT} (h : QW X e t) : QT X e t := ⟨h.out.pt⟩
end
end L2

namespace Pu
open PySem L2 My Prf
theorem dq_int (n : Int) : PyData.tuple [.int n, .int 1] = dq (n : Rat) := by
  unfold dq; rw [Rat.num_intCast, Rat.den_intCast]; rfl
theorem smr_int {k : Nat} {n : Int} (h : Sm k n) : SmR k 1 (n : Rat) := ⟨by rw [Rat.num_intCast]; exact h, by rw [Rat.den_intCast]; unfold Sm; decide⟩
theorem smr_den {k : Nat} {q : Rat} (h : SmR k 1 q) : q.den = 1 := by
  have h1 : (q.den : Int).natAbs < 2 ^ 1 := h.2
  have h2 := q.den_nz
  omega
theorem int_nn {n : Int} (h : 0 ≤ n) : (0 : Rat) ≤ (n : Rat) := Rat.intCast_nonneg.mpr h
theorem int_ps {n : Int} (h : 0 < n) : (0 : Rat) < (n : Rat) := Rat.intCast_pos.mpr h
theorem sm_200 {z : Int} (h0 : 0 ≤ z) (h1 : z ≤ 1000000000000000000) : Sm 4000 z := Sm.mono (k := 64) (sm_of (B := 1000000000000000000) (by omega) (by omega) (by decide)) (by decide)
theorem pIx_dcn0 {c : Rat × Rat} {Q : SV → Prop} : pIx (dcn c) (.int 0) Q = Q (.d (dq c.1)) := by unfold dcn; rw [pIxT, pGet0]
theorem pIx_dcn1 {c : Rat × Rat} {Q : SV → Prop} : pIx (dcn c) (.int 1) Q = Q (.d (dq c.2)) := by unfold dcn; rw [pIxT, pGet1]
theorem comp_rng {lo : Int} {n : Nat} {pg : PyData → PEnv → (PEnv → Prop) → Prop} {pt : PTt} {pd : PDt} {e0 : PEnv} {Fin : List PyData → Prop} (Pv : Nat → PEnv → List PyData → Prop) (h0 : Pv 0 e0 [])
    (hs : ∀ (i : Nat) e ys, i < n → Pv i e ys → pg (.int (lo + (i : Int))) e fun e2 => pt e2 fun b e3 => if b = true then pd e3 fun y e4 => Pv (i + 1) e4 (ys ++ [y]) else Pv (i + 1) e3 ys) (hd : ∀ e ys, Pv n e ys → Fin ys) : pCompGo (rngD lo n) pg pt pd e0 Fin :=
  ⟨Pv, h0, fun i x e ys hx hi => by obtain ⟨h1, rfl⟩ := rngD_get hx; exact hs i e ys h1 hi, fun e ys h => hd e ys (by rwa [rngD_len] at h)⟩
theorem comp_map {α : Type} {f : α → PyData} {xs : List α} {pg : PyData → PEnv → (PEnv → Prop) → Prop} {pt : PTt} {pd : PDt} {e0 : PEnv} {Fin : List PyData → Prop} (Pv : Nat → PEnv → List PyData → Prop) (h0 : Pv 0 e0 [])
    (hs : ∀ (i : Nat) a e ys, xs[i]? = some a → Pv i e ys → pg (f a) e fun e2 => pt e2 fun b e3 => if b = true then pd e3 fun y e4 => Pv (i + 1) e4 (ys ++ [y]) else Pv (i + 1) e3 ys) (hd : ∀ e ys, Pv xs.length e ys → Fin ys) : pCompGo (xs.map f) pg pt pd e0 Fin := by
  refine ⟨Pv, h0, fun i x e ys hx hi => ?_, fun e ys h => hd e ys (by rwa [List.length_map] at h)⟩
  rw [List.getElem?_map] at hx
  cases ha : xs[i]? with
  | none => rw [ha] at hx; cases hx
  | some a => rw [ha] at hx; cases hx; exact hs i a e ys ha hi
theorem for_map {α : Type} {f : α → PyData} {xs : List α} {pg : PyData → PEnv → (PEnv → Prop) → Prop} {pb : PSt} {D : PEnds} {env : PEnv} (Iv : Nat → PEnv → Prop) (h0 : Iv 0 env)
    (hs : ∀ (i : Nat) a e, xs[i]? = some a → Iv i e → pg (f a) e fun e2 => pb ⟨Iv (i + 1), D.rt, D.nx, Iv (i + 1)⟩ e2) (hd : ∀ e, Iv xs.length e → D.nx e) : pForGo (xs.map f) pg pb D env := by
  refine ⟨Iv, h0, fun i x e hx hi => ?_, fun e h => hd e (by rwa [List.length_map] at h)⟩
  rw [List.getElem?_map] at hx
  cases ha : xs[i]? with
  | none => rw [ha] at hx; cases hx
  | some a => rw [ha] at hx; cases hx; exact hs i a e ha hi
theorem two3_dq : PyData.tuple [.int 2, .int 3] = dq (Rat.divInt 2 3) := by
  unfold dq
  rw [show (Rat.divInt 2 3).num = 2 by decide +kernel, show (Rat.divInt 2 3).den = 3 by decide +kernel]; rfl
theorem half_dq : PyData.tuple [.int 1, .int 2] = dq (Rat.divInt 1 2) := by
  unfold dq
  rw [show (Rat.divInt 1 2).num = 1 by decide +kernel, show (Rat.divInt 1 2).den = 2 by decide +kernel]; rfl
end Pu

namespace Pu
open PySem L2 My Prf
theorem sm_zero : SmR 1 1 (0 : Rat) := ⟨by unfold Sm; decide, by unfold Sm; decide⟩
end Pu
namespace Pu
open PySem L2 My Prf
theorem asSeq_dq {q : Rat} {k : List PyData → Prop} : asSeq (dq q) k = k [.int q.num, .int (q.den : Int)] := rfl
theorem pLen_dq {q : Rat} {Q : SV → Prop} : pLen [dq q] Q = Q (.d (.int 2)) := rfl
theorem pLen_list {xs : List PyData} {Q : SV → Prop} : pLen [.list xs] Q = Q (.d (.int xs.length)) := rfl
theorem pLen_tup {xs : List PyData} {Q : SV → Prop} : pLen [.tuple xs] Q = Q (.d (.int xs.length)) := rfl
theorem eqv_nil : PyData.eqv (.list []) (.list []) = true := rfl
theorem lay_nil : (PyData.list []).canLay0 = true := rfl
theorem dep_nil : (PyData.list []).depth = 1 := rfl
end Pu
namespace Pu
open PySem L2 My Prf
theorem tyD_int {i : Int} : tyD (.int i) = "int" := rfl
theorem tyD_bool {b : Bool} : tyD (.bool b) = "bool" := rfl
theorem tyD_str {s : Str} : tyD (.str s) = "str" := rfl
theorem tyD_none : tyD .none = "NoneType" := rfl
theorem tyD_list {xs : List PyData} : tyD (.list xs) = "list" := rfl
theorem tyD_tup {xs : List PyData} : tyD (.tuple xs) = "tuple" := rfl
theorem tyD_dcn {c : Rat × Rat} : tyD (dcn c) = "tuple" := rfl
theorem asSeq_list {xs : List PyData} {k : List PyData → Prop} : asSeq (.list xs) k = k xs := rfl
theorem asSeq_tup {xs : List PyData} {k : List PyData → Prop} : asSeq (.tuple xs) k = k xs := rfl
theorem asSeq_dcn {c : Rat × Rat} {k : List PyData → Prop} : asSeq (dcn c) k = k [dq c.1, dq c.2] := rfl
theorem isNo_none : isNo .none = true := rfl
theorem isNo_int {i : Int} : isNo (.int i) = false := rfl
theorem isNo_bool {b : Bool} : isNo (.bool b) = false := rfl
theorem isNo_str {s : Str} : isNo (.str s) = false := rfl
theorem isNo_list {xs : List PyData} : isNo (.list xs) = false := rfl
theorem isNo_tup {xs : List PyData} : isNo (.tuple xs) = false := rfl
end Pu
namespace Pu
open PySem L2 My Prf
end Pu

/-! ### zip and enumerate of lists -/
namespace L2
open PySem PySem.Spec PyProof.Rows
section
variable {X : Cx} {pins : List (Addr × Obj)} {σ : St} {H : Hp} {s : Shared} {h' : Heap}
end
section
variable {X : Cx}
end
end L2

namespace Pu
open PySem L2 My Prf
/-- a list that stays while it is walked -/
class RL (K : Frag) (te : TE) (pl : outParam PAr) : Prop where
  ok : ∀ (c : Ct) (w : Wd) (env : PEnv) (σ : St) (Qp : List PyData → PEnv → Prop) (Q : VK), c.K = K → EnvOk c w env σ → pl env Qp → (∀ v xs env' w', EnvOk c w' env' σ → Lw w w' → VR c w' v (.bor xs) → Qp xs env' → Q v w'.H) → te σ w.H Q
def pLstD (pd : PDt) (env : PEnv) (Q : List PyData → PEnv → Prop) : Prop := pd env fun x e => asL x fun xs => Q xs e
def pLstV (i : Nat) (env : PEnv) (Q : List PyData → PEnv → Prop) : Prop := match env[i]? with
  | some (some (.d x)) => asL x fun xs => Q xs env
  | some (some (.own xs)) => Q xs (env.set i (some (.d (.list xs))))
  | some (some (.bor xs)) => Q xs env
  | _ => False
instance rl_var {K : Frag} {i : Nat} : RL K (tVar i) (pLstV i) where
  ok := by
    rintro c w env σ Qp Q rfl E p k
    unfold pLstV at p
    split at p
    · rename_i x e
      obtain ⟨v, h1, h2⟩ := E.at' i _ e
      unfold asL at p
      split at p
      · exact ⟨v, h1, k v _ env w E (Lw.refl w) (.inl h2) p⟩
      · exact p.elim
    · rename_i xs e
      obtain ⟨w', v, e', hv, E', l, d⟩ := E.frz e
      refine ⟨v, hv, ?_⟩
      rw [← e']
      exact k v _ _ w' E' l (.inl d) p
    · rename_i xs e
      obtain ⟨v, h1, h2⟩ := E.at' i _ e
      exact ⟨v, h1, k v _ env w E (Lw.refl w) h2 p⟩
    · exact p.elim
inductive Brs (c : Ct) (w : Wd) : List V → List (List PyData) → Prop
  | nil : Brs c w [] []
  | cons {v : V} {xs : List PyData} {vs : List V} {xss : List (List PyData)} : VR c w v (.bor xs) → Brs c w vs xss → Brs c w (v :: vs) (xs :: xss)
theorem bor_mono {c : Ct} {w w' : Wd} {v : V} {xs : List PyData} (s : Same w.F w'.F) (h : VR c w v (.bor xs)) : VR c w' v (.bor xs) := by
  rcases h with h | ⟨l, vs, e, h1, h2, h3⟩
  · exact .inl (Den.same s h)
  · exact .inr ⟨l, vs, e, h1, h2, DenAll.same s h3⟩
class RLs (K : Frag) (ta : TA) (pa : outParam (PEnv → (List (List PyData) → PEnv → Prop) → Prop)) : Prop where
  ok : ∀ (c : Ct) (w : Wd) (env : PEnv) (σ : St) (Qp : List (List PyData) → PEnv → Prop) (Q : List V → Hpp → Prop), c.K = K → EnvOk c w env σ → pa env Qp → (∀ vs xss env' w', EnvOk c w' env' σ → Lw w w' → Brs c w' vs xss → Qp xss env' → Q vs w'.H) → ta σ w.H Q
def pLsN (env : PEnv) (Q : List (List PyData) → PEnv → Prop) : Prop := Q [] env
def pLsC (pl : PAr) (pr : PEnv → (List (List PyData) → PEnv → Prop) → Prop) (env : PEnv) (Q : List (List PyData) → PEnv → Prop) : Prop := pl env fun xs e1 => pr e1 fun xss e2 => Q (xs :: xss) e2
instance rls_nil {K : Frag} : RLs K tNil pLsN := ⟨fun c w env σ Qp Q _ E p k => k [] [] env w E (Lw.refl w) .nil p⟩
instance rls_cons {K : Frag} {te : TE} {tr : TA} {pl : PAr} {pr : PEnv → (List (List PyData) → PEnv → Prop) → Prop} [hl : RL K te pl] [hr : RLs K tr pr] : RLs K (tCons te tr) (pLsC pl pr) where
  ok := by
    rintro c w env σ Qp Q rfl E p k
    refine hl.ok c w env σ _ _ rfl E p fun v xs e1 w1 E1 l1 b1 q1 => ?_
    refine hr.ok c w1 e1 σ _ _ rfl E1 q1 fun vs xss e2 w2 E2 l2 b2 q2 => ?_
    exact k _ _ e2 w2 E2 (l1.trans l2) (.cons (bor_mono l2.f b1) b2) q2
theorem bor_list {c : Ct} {w : Wd} {v : V} {xs : List PyData} (h : VR c w v (.bor xs)) : ∃ l vs, v = .ref l ∧ DenAll c.K w.F vs xs ∧ ∀ w', w'.Ok → Le c.w0 w' → Same w.F w'.F → SqL c.K w'.H l vs := by
  rcases h with h | ⟨l, vs, e, h1, h2, h3⟩
  · obtain ⟨a, vs, e, g1, g2⟩ := Den.lstE h
    exact ⟨a, vs, e, g2, fun w' ok _ s => (s.trans ok.sub).seq g1⟩
  · exact ⟨l, vs, e, h3, fun w' _ l' _ => SqL.of (l'.h _ _ h1 h2)⟩
def zipD (xs ys : List PyData) : List PyData := List.zipWith (fun x y => .tuple [x, y]) xs ys
def enumD (xs : List PyData) : List PyData := xs.zipIdx.map fun p => .tuple [.int (p.2 : Int), p.1]
def pZip (pa : PEnv → (List (List PyData) → PEnv → Prop) → Prop) (env : PEnv) (Q : List PyData → PEnv → Prop) : Prop := pa env fun xss e => match xss with
  | [xs, ys] => Q (zipD xs ys) e
  | _ => False
def pEnum (pa : PEnv → (List (List PyData) → PEnv → Prop) → Prop) (env : PEnv) (Q : List PyData → PEnv → Prop) : Prop := pa env fun xss e => match xss with
  | [xs] => Q (enumD xs) e
  | _ => False
end Pu

namespace Pu
open PySem L2 My Prf
theorem qTup_tup {n : Nat} {pr : List PyData → PEnv → (PEnv → Prop) → Prop} {xs : List PyData} {env : PEnv} {Q : PEnv → Prop} : qTup n pr (.tuple xs) env Q = (xs.length = n ∧ pr xs env Q) := rfl
theorem qTup_dcn {pr : List PyData → PEnv → (PEnv → Prop) → Prop} {c : Rat × Rat} {env : PEnv} {Q : PEnv → Prop} : qTup 2 pr (dcn c) env Q = pr [dq c.1, dq c.2] env Q := by
  show (2 = 2 ∧ _) = _; simp
theorem lay_dcn {c : Rat × Rat} : (dcn c).canLay0 = true := rfl
theorem dep_dcn {c : Rat × Rat} : (dcn c).depth = 2 := rfl
theorem eqv_dcn {c : Rat × Rat} : PyData.eqv (dcn c) (dcn c) = true := PySem.SeqAt.eqv_refl _ lay_dcn
theorem isNo_dcn {c : Rat × Rat} : isNo (dcn c) = false := rfl
theorem cut_from1 {α : Type} {f : α → PyData} {xs : List α} : cutD (xs.map f) (some 1) none = (xs.drop 1).map f := by
  unfold cutD
  rw [HT.sIx_none, show HT.sIx (xs.map f).length 0 (some 1) = min 1 xs.length by rw [List.length_map]; exact HT.sIx_nat _ _ 1, List.length_map]
  cases xs with
  | nil => rfl
  | cons x r =>
    rw [show min 1 (x :: r).length = 1 by simp]
    simp
    rw [← List.length_map (f := f), List.take_length]
end Pu

/-! ### zip of two tuples -/
namespace L2
open PySem PySem.Spec PyProof.Rows
section
variable {prog : Program} {w : World} {A : Around} {E : Value → Shared → Prop} {s : Shared}
end
end L2

namespace L2
open PySem PySem.Spec PyProof.Rows
section
variable {prog : Program} {w : World} {A : Around} {E : Value → Shared → Prop} {s : Shared}
end
section
variable {X : Cx}
end
end L2
namespace Pu
open PySem L2 My Prf
def asZip (xs : List PyData) (k : List PyData → Prop) : Prop := match xs with
  | [.list xs, .list ys] => k (zipD xs ys)
  | [.tuple xs, .tuple ys] => k (zipD xs ys)
  | _ => False
def pZipS (pa : PAr) (env : PEnv) (Q : List PyData → PEnv → Prop) : Prop := pa env fun xs e => asZip xs fun zs => Q zs e
end Pu

namespace Pu
open PySem L2 My Prf
theorem asZip_list {xs ys : List PyData} {k : List PyData → Prop} : asZip [.list xs, .list ys] k = k (zipD xs ys) := rfl
theorem asZip_tup {xs ys : List PyData} {k : List PyData → Prop} : asZip [.tuple xs, .tuple ys] k = k (zipD xs ys) := rfl
theorem eqv_bool {a b : Bool} : PyData.eqv (.bool a) (.bool b) = decide (a = b) := by cases a <;> cases b <;> rfl
theorem eqv_str {s : Str} : PyData.eqv (.str s) (.str s) = true := by show (s == s) = true; simp
theorem kit_is : kitB "int" "str" = some false := by decide +kernel
theorem kit_bs : kitB "bool" "str" = some false := by decide +kernel
theorem kit_ns : kitB "NoneType" "str" = some false := by decide +kernel
end Pu

namespace Pu
open PySem L2 My Prf
/-! things of one's own of several lists -/
def leaves : List PyData → OT
  | [] => .nil
  | x :: r => .cons (.leaf x) (leaves r)
def OT.len : OT → Nat
  | .cons _ t => t.len + 1
  | .nil => 0
  | _ => 1
def OT.kid : OT → Nat → Option OT
  | .cons h _, 0 => some h
  | .cons _ t, n + 1 => t.kid n
  | _, _ => none
theorem tre_leavesE {K : Frag} {w : Wd} : ∀ {xs : List PyData} {vs : List V}, Tre K w (leaves xs) vs → DenAll K w.F vs xs
  | [], _, e => by cases (show _ = [] from e); exact .nil
  | _ :: _, _, ⟨_, _, rfl, ⟨_, e, h⟩, t⟩ => by cases e; exact .cons h (tre_leavesE t)
/-- the heap but for the drawing states -/
noncomputable def hm (w : Wd) : Hpp := fun a => open Classical in if w.M a then none else w.H a
theorem hm_some {w : Wd} {a : Addr} {o : HO} (h : w.H a = some o) (n : ¬ w.M a) : hm w a = some o := by unfold hm; rw [if_neg n]; exact h
theorem hm_inv {w : Wd} {a : Addr} {o : HO} (h : hm w a = some o) : w.H a = some o ∧ ¬ w.M a := by
  unfold hm at h; split at h
  · cases h
  · exact ⟨h, ‹_›⟩
theorem hm_F {w : Wd} (ok : w.Ok) : Same w.F (hm w) := fun a o h => hm_some (ok.sub a o h) fun z => by rw [ok.nf a z] at h; cases h
theorem hm_lw {w w' : Wd} (l : Lw w w') : Same (hm w) (hm w') := fun a o h => by
  obtain ⟨h1, h2⟩ := hm_inv h
  exact hm_some (l.h _ _ h1 h2) (l.nm (by rw [h1]; simp) h2)
theorem Tre.den {K : Frag} {w : Wd} (ok : w.Ok) : ∀ {t : OT} {vs : List V}, Tre K w t vs → (∀ a ∈ t.fp, ¬ w.M a) → DenAll K (hm w) vs t.dat
  | .leaf _, _, ⟨_, e, h⟩, _ => by rw [e]; exact .cons (Den.same (hm_F ok) h) .nil
  | .nd true a _, _, ⟨e, _, h, k⟩, n => by rw [e]; exact .cons (.lst (SqL.of (hm_some h (n a (by simp [OT.fp])))) (Tre.den ok k fun q hq => n q (by simp [OT.fp, hq]))) .nil
  | .nd false a _, _, ⟨e, _, h, k⟩, n => by rw [e]; exact .cons (.tup (SqT.of (hm_some h (n a (by simp [OT.fp])))) (Tre.den ok k fun q hq => n q (by simp [OT.fp, hq]))) .nil
  | .nil, _, e, _ => by rw [show _ = [] from e]; exact .nil
  | .cons _ _, _, ⟨v, r, e, h, t⟩, n => by
    rw [e]
    exact (Tre.den ok h fun q hq => n q (by simp [OT.fp, hq])).app (vs := [v]) (us := r) (Tre.den ok t fun q hq => n q (by simp [OT.fp, hq]))
def VH (K : Frag) (w : Wd) (v : V) (x : PyData) : Prop := Den K (hm w) v x
theorem VR.vh {c : Ct} {w : Wd} {v : V} {t : OT} {x : PyData} (ok : w.Ok) (h : VR c w v (.tr t)) (e : t.dat = [x]) : VH c.K w v x := by
  have := h.1.den ok fun a ha => (h.2 a ha).2.2.1
  rw [e] at this
  cases this with | cons a _ => exact a
theorem VV.vh {K : Frag} {w : Wd} {v : V} {x : PyData} (ok : w.Ok) (h : VV K w v x) : VH K w v x := by
  rcases h with h | ⟨l, vs, xs, rfl, rfl, h1, h2, h3⟩
  · exact Den.same (hm_F ok) h
  · exact .lst (SqL.of (hm_some h1 h2)) (DenAll.same (hm_F ok) h3)
class RH (K : Frag) (te : TE) (pd : outParam PDt) : Prop where
  ok : ∀ (c : Ct) (w : Wd) (env : PEnv) (σ : St) (Qp : PyData → PEnv → Prop) (Q : VK), c.K = K → EnvOk c w env σ → pd env Qp → (∀ v x env' w', EnvOk c w' env' σ → Lw w w' → VH K w' v x → Qp x env' → Q v w'.H) → te σ w.H Q
def pVarH (i : Nat) (env : PEnv) (Q : PyData → PEnv → Prop) : Prop := match env[i]? with
  | some (some (.d x)) => Q x env
  | some (some (.own xs)) => Q (.list xs) env
  | some (some (.bor xs)) => Q (.list xs) env
  | some (some (.tr t)) => ∃ x, t.dat = [x] ∧ Q x env
  | _ => False
instance rh_var {K : Frag} {i : Nat} : RH K (tVar i) (pVarH i) where
  ok := by
    rintro c w env σ Qp Q rfl E p k
    unfold pVarH at p
    split at p
    · rename_i x e
      obtain ⟨v, h1, h2⟩ := E.at' i _ e
      exact ⟨v, h1, k v _ env w E (Lw.refl w) (Den.same (hm_F E.wok) h2) p⟩
    · rename_i xs e
      obtain ⟨v, h1, l, vs, e', g1, g2, g3, g4, g5⟩ := E.at' i _ e
      exact ⟨v, h1, k v _ env w E (Lw.refl w) (VV.vh E.wok (.inr ⟨l, vs, xs, e', rfl, g1, g3, g5⟩)) p⟩
    · rename_i xs e
      obtain ⟨v, h1, h2⟩ := E.at' i _ e
      exact ⟨v, h1, k v _ env w E (Lw.refl w) ((h2.vv E.le0).vh E.wok) p⟩
    · rename_i t e
      obtain ⟨x, e1, q⟩ := p
      obtain ⟨v, h1, h2⟩ := E.at' i _ e
      exact ⟨v, h1, k v _ env w E (Lw.refl w) (h2.vh E.wok e1) q⟩
    · exact p.elim
def pCallH (psp : PSp) (pa pb : PDt) (env : PEnv) (Q : SV → PEnv → Prop) : Prop := pa env fun x e => pb e fun y e2 => psp [.d x, .d y] fun s => ∃ b, s = .d (.bool b) ∧ Q (.d (.bool b)) e2
/-! laid -/
def SV.ot (s : SV) (k : OT → Prop) : Prop := match s with
  | .d x => k (.leaf x)
  | .own xs => ∀ a, k (.nd true a (leaves xs))
  | .tr t => k t
  | _ => False
def Ct.with (c : Ct) (t : OT) : Ct := ⟨c.K, c.w0, fun a => c.Z a ∨ a ∈ t.fp⟩
def pNilT (env : PEnv) (Q : OT → PEnv → Prop) : Prop := Q .nil env
def pConsT (pe : PX) (pr : PEnv → (OT → PEnv → Prop) → Prop) (env : PEnv) (Q : OT → PEnv → Prop) : Prop := pe env fun s e1 => s.ot fun t => pr e1 fun r e2 => (∀ a ∈ r.fp, a ∉ t.fp) → Q (.cons t r) e2
def pSeqT (b : Bool) (pa : PEnv → (OT → PEnv → Prop) → Prop) (env : PEnv) (Q : SV → PEnv → Prop) : Prop := pa env fun t e => t.len ≤ 1000 ∧ ∀ a, a ∉ t.fp → Q (.tr (.nd b a t)) e
/-! a part of it -/
def asTr (o : Option (Option SV)) (k : OT → Prop) : Prop := match o with
  | some (some (.tr t)) => k t
  | _ => False
def pKid (i : Nat) (n : Int) (env : PEnv) (Q : PyData → PEnv → Prop) : Prop := asTr env[i]? fun t => ∃ (m : Nat) (b : Bool) (a a' : Addr) (ks : OT) (xs : List PyData), n = m ∧ t = .nd b a ks ∧ ks.kid m = some (.nd true a' (leaves xs)) ∧ Q (.list xs) env
def pClearT (i : Nat) (n : Int) (D : PEnds) (env : PEnv) : Prop := asTr env[i]? fun t => ∃ (m : Nat) (b : Bool) (a a' : Addr) (ks ls : OT), n = m ∧ t = .nd b a ks ∧ ks.kid m = some (.nd true a' ls) ∧ D.nx (env.set i (some (.tr (OT.put a' .nil t))))
end Pu
namespace L2
open PySem PySem.Spec PyProof.Rows
section
variable {X : Cx} {e : Expr}
end
end L2

namespace Pu
open PySem L2 My Prf
/-! what is told by an expression, looked at -/
def SV.asH (s : SV) (k : PyData → Prop) : Prop := match s with
  | .d x => k x
  | .own xs => k (.list xs)
  | .tr t => ∃ x, t.dat = [x] ∧ k x
  | _ => False
def pdatH (pe : PX) (env : PEnv) (Q : PyData → PEnv → Prop) : Prop := pe env fun s e => s.asH fun x => Q x e
instance (priority := 200) rh_re {K : Frag} {te : TE} {pe : PX} [h : RE K te pe] : RH K te (pdatH pe) where
  ok := by
    rintro c w env σ Qp Q rfl E p k
    refine h.ok c w env σ _ Q rfl E p fun v s env' w' R q => ?_
    have E' := R.ev
    cases s with
    | d x => exact k v x env' w' E' R.lw (Den.same (hm_F E'.wok) R.val) q
    | own xs =>
      obtain ⟨l, vs, e', g1, g2, g3, g4, g5⟩ := R.val
      exact k v _ env' w' E' R.lw (VV.vh E'.wok (.inr ⟨l, vs, xs, e', rfl, g1, g3, g5⟩)) q
    | tr t =>
      obtain ⟨x, e, q⟩ := q
      exact k v x env' w' E' R.lw (VR.vh E'.wok R.val e) q
    | bor xs => exact (show False from q).elim
    | bt t => exact (show False from q).elim
    | st => exact (show False from q).elim
/-! borrowed things of several lists -/
theorem VR.btv {c : Ct} {w : Wd} {v : V} {t : OT} (l : Le c.w0 w) (h : VR c w v (.bt t)) : TV c.K w v t := by
  have lw : Lw ⟨c.w0.M, c.w0.H, w.F⟩ w := ⟨Same.refl _, l.h, l.m, l.mn, l.dom⟩
  exact ⟨h.1.mono lw h.2, fun a ha => l.nm (h.1.has a ha) (h.2 a ha)⟩
class RTr (K : Frag) (te : TE) (pb : outParam (PEnv → (OT → PEnv → Prop) → Prop)) : Prop where
  ok : ∀ (c : Ct) (w : Wd) (env : PEnv) (σ : St) (Qp : OT → PEnv → Prop) (Q : VK), c.K = K → EnvOk c w env σ → pb env Qp → (∀ v t env' w', EnvOk c w' env' σ → Lw w w' → TV K w' v t → Qp t env' → Q v w'.H) → te σ w.H Q
def pTr (pe : PX) (env : PEnv) (Q : OT → PEnv → Prop) : Prop := pe env fun s e => s.ot fun t => Q t e
def pTrV (i : Nat) (env : PEnv) (Q : OT → PEnv → Prop) : Prop := match env[i]? with
  | some (some (.d x)) => Q (.leaf x) env
  | some (some (.tr t)) => Q t env
  | some (some (.bt t)) => Q t env
  | _ => False
instance rtr_var {K : Frag} {i : Nat} : RTr K (tVar i) (pTrV i) where
  ok := by
    rintro c w env σ Qp Q rfl E p k
    unfold pTrV at p
    split at p
    · rename_i x e
      obtain ⟨v, h1, h2⟩ := E.at' i _ e
      exact ⟨v, h1, k v (.leaf x) env w E (Lw.refl w) ⟨⟨v, rfl, h2⟩, fun a z => nomatch z⟩ p⟩
    · rename_i t e
      obtain ⟨v, h1, h2⟩ := E.at' i _ e
      exact ⟨v, h1, k v _ env w E (Lw.refl w) ⟨h2.1, fun a ha => (h2.2 a ha).2.2.1⟩ p⟩
    · rename_i t e
      obtain ⟨v, h1, h2⟩ := E.at' i _ e
      exact ⟨v, h1, k v _ env w E (Lw.refl w) (h2.btv E.le0) p⟩
    · exact p.elim
def pConsB (pb : PEnv → (OT → PEnv → Prop) → Prop) (pr : PAs) (env : PEnv) (Q : List SV → PEnv → Prop) : Prop := pb env fun t e1 => pr e1 fun as e2 => Q (.bt t :: as) e2
/-- a part, as it stands in a slot -/
def OT.lvs : OT → Option (List PyData)
  | .nil => some []
  | .cons (.leaf x) t => t.lvs.map (x :: ·)
  | _ => none
theorem lvs_leaves : ∀ xs, (leaves xs).lvs = some xs
  | [] => rfl
  | x :: r => by show (leaves r).lvs.map _ = _; rw [lvs_leaves r]; rfl
theorem leaves_lvs : ∀ {t : OT} {xs : List PyData}, t.lvs = some xs → t = leaves xs
  | .nil, _, h => by cases h; rfl
  | .cons (.leaf x) t, xs, h => by
    have h' : t.lvs.map (x :: ·) = some xs := h
    cases q : t.lvs with
    | none => rw [q] at h'; cases h'
    | some ys => rw [q] at h'; cases h'; rw [leaves_lvs q]; rfl
def OT.sv : OT → SV
  | .leaf (.list xs) => .bor xs
  | .leaf x => .d x
  | .nd true a k => match k.lvs with
    | some xs => .bor xs
    | none => .bt (.nd true a k)
  | t => .bt t
theorem sv_leaves {a : Addr} {xs : List PyData} : OT.sv (.nd true a (leaves xs)) = .bor xs := by show (match (leaves xs).lvs with | some xs => SV.bor xs | none => _) = _; rw [lvs_leaves]
theorem VR.sv {c : Ct} {w : Wd} {v : V} {u : OT} (h : VR c w v (.bt u)) : VR c w v u.sv := by
  unfold OT.sv
  split
  · obtain ⟨⟨v', e, h⟩, _⟩ := h
    cases e; exact .inl h
  · obtain ⟨⟨v', e, h⟩, _⟩ := h
    cases e; exact h
  · rename_i a k
    split
    · rename_i xs q
      obtain ⟨⟨e, us, h1, h2⟩, h3⟩ := h
      cases e
      rw [leaves_lvs q] at h2
      exact .inr ⟨a, us, rfl, h1, h3 a (by simp [OT.fp]), tre_leavesE (w := ⟨c.w0.M, c.w0.H, w.F⟩) h2⟩
    · exact h
  · exact h
theorem sv_new {c : Ct} {env : PEnv} {σ : St} {v : V} : ∀ {u : OT}, New c env σ v u.sv := by
  intro u a f
  unfold OT.sv at f
  split at f
  · exact f.elim
  · exact f.elim
  · split at f
    · exact f.elim
    · exact f.elim
  · exact f.elim
def OT.pair : OT → Option (OT × OT)
  | .nd false _ (.cons u (.cons v .nil)) => some (u, v)
  | .leaf (.tuple [x, y]) => some (.leaf x, .leaf y)
  | _ => none
/-- a, b = it -/
def pUnp (i a b : Nat) (pr : List PyData → PEnv → (PEnv → Prop) → Prop) (D : PEnds) (env : PEnv) : Prop := match env[i]? with
  | some (some (.bt t)) => ∃ u v, t.pair = some (u, v) ∧ D.nx ((env.set a (some u.sv)).set b (some v.sv))
  | some (some (.d x)) => qTup 2 pr x env D.nx
  | _ => False
theorem two_at {c : Ct} {w : Wd} {v : V} {t u1 u2 : OT} (ok : w.Ok) (l : Le c.w0 w) (h : VR c w v (.bt t)) (e : t.pair = some (u1, u2)) : ∃ p x y, v = .ref p ∧ SqT c.K w.H p [x, y] ∧ VR c w x (.bt u1) ∧ VR c w y (.bt u2) := by
  unfold OT.pair at e
  split at e
  · rename_i a k1 k2
    cases e
    obtain ⟨⟨ev, us, h1, x, r, e1, hx, y, r2, e2, hy, e3⟩, h3⟩ := h
    cases ev
    have e3' : r2 = [] := e3
    subst e1; subst e2; subst e3'
    exact ⟨a, x, y, rfl, SqT.of (l.h _ _ h1 (h3 a (by simp [OT.fp]))), ⟨hx, fun q hq => h3 q (by simp [OT.fp, hq])⟩, ⟨hy, fun q hq => h3 q (by simp [OT.fp, hq])⟩⟩
  · cases e
    obtain ⟨⟨v', ev, h⟩, _⟩ := h
    cases ev
    obtain ⟨p, vs, rfl, h1, h2⟩ := Den.tupE h
    cases h2 with
    | cons hx t => cases t with
      | cons hy t =>
        cases t
        exact ⟨p, _, _, rfl, SqT.same ok.sub h1, ⟨⟨_, rfl, hx⟩, fun q hq => nomatch hq⟩, ⟨⟨_, rfl, hy⟩, fun q hq => nomatch hq⟩⟩
  · cases e
instance (priority := high) rs_unp {K : Frag} {i a b : Nat} {pr : List PyData → PEnv → (PEnv → Prop) → Prop} [hr : RGs K (gCons (gName a) (gCons (gName b) gNil)) pr] : RS K (tAsg (tVar i) (gTup K 2 (gCons (gName a) (gCons (gName b) gNil)))) (pUnp i a b pr) where
  ok := by
    rintro c w env σ Dp D rfl E h p
    unfold pUnp at p
    split at p
    · rename_i t e
      obtain ⟨u1, u2, hp, q⟩ := p
      obtain ⟨v, h1, h2⟩ := E.at' i _ e
      obtain ⟨p, x, y, rfl, hs, hx, hy⟩ := two_at E.wok E.le0 h2 hp
      refine ⟨_, h1, p, [x, y], rfl, hs, rfl, x, [y], rfl, y, [], rfl, rfl, ?_⟩
      have E1 := E.set (i := a) hx.sv sv_new
      have E2 := E1.set (i := b) hy.sv sv_new
      exact h.nx _ _ w E2 (Same.refl _) q
    · rename_i x e
      obtain ⟨v, h1, h2⟩ := E.at' i _ e
      refine ⟨v, h1, ?_⟩
      exact rg_tup.ok c w env σ v x _ _ rfl E h2 p fun e2 σ2 E2 q2 => h.nx e2 σ2 w E2 (Same.refl _) q2
    · exact p.elim
/-- x = it[1] -/
def pAsgK (i : Nat) (n : Int) (j : Nat) (D : PEnds) (env : PEnv) : Prop := match env[i]? with
  | some (some (.bt t)) => ∃ u v, t.pair = some (u, v) ∧ ((n = 0 ∧ D.nx (env.set j (some u.sv))) ∨ (n = 1 ∧ D.nx (env.set j (some v.sv))))
  | _ => False
end Pu

namespace Pu
open PySem L2 My Prf
theorem fdE {a : Int} {n : Nat} (h : (n : Int) ∣ a) : a.fdiv n = a / n := Int.fdiv_eq_ediv_of_dvd h
theorem fdN (a n : Nat) : (a : Int).fdiv (n : Int) = ((a / n : Nat) : Int) := by
  rw [Int.fdiv_eq_ediv_of_nonneg _ (Int.natCast_nonneg n)]; rfl
theorem mu_num (p q : Rat) : p.num.fdiv ((Int.gcd p.num q.den : Nat) : Int) * q.num.fdiv ((Int.gcd q.num p.den : Nat) : Int) = (p * q).num := by
  have e : p * q = Rat.mul p q := rfl
  rw [e]; unfold Rat.mul
  show _ = p.num.divExact _ _ * q.num.divExact _ _
  rw [Int.divExact_eq_ediv, Int.divExact_eq_ediv, fdE (Int.gcd_dvd_left ..), fdE (Int.gcd_dvd_left ..)]
  rfl
theorem mu_den (p q : Rat) : (p.den : Int).fdiv ((Int.gcd q.num p.den : Nat) : Int) * (q.den : Int).fdiv ((Int.gcd p.num q.den : Nat) : Int) = ((p * q).den : Int) := by
  have e : p * q = Rat.mul p q := rfl
  rw [e]; unfold Rat.mul
  show _ = ((p.den.divExact _ _ * q.den.divExact _ _ : Nat) : Int)
  rw [Nat.divExact_eq_div, Nat.divExact_eq_div, fdN, fdN]
  rfl
theorem pl_both (p q : Rat) (g t : Int) (hg : g = ((Int.gcd (p.den : Int) (q.den : Int) : Nat) : Int)) (ht : t = p.num * (q.den : Int).fdiv g + q.num * (p.den : Int).fdiv g) :
    t.fdiv ((Int.gcd t g : Nat) : Int) = (p + q).num ∧ (p.den : Int).fdiv g * (q.den : Int).fdiv ((Int.gcd t g : Nat) : Int) = ((p + q).den : Int) := by
  have e : p + q = Rat.add p q := rfl
  have hgn : Int.gcd (p.den : Int) (q.den : Int) = Nat.gcd p.den q.den := rfl
  rw [hgn] at hg
  rw [e]; unfold Rat.add
  dsimp only
  split
  · rename_i h1
    rw [h1] at hg
    subst hg
    have ht' : t = p.num * q.den + q.num * p.den := by rw [ht, fdN, fdN]; simp
    have h2 : Int.gcd t ((1 : Nat) : Int) = 1 := by simp
    rw [h2, ht']
    refine ⟨by simp, ?_⟩
    rw [fdN, fdN]; simp
  · rename_i h1
    rw [Rat.maybeNormalize_eq]
    rw [hg, fdN, fdN] at ht
    have h3 : Int.gcd t g = t.natAbs.gcd (p.den.gcd q.den) := by rw [hg]; rfl
    rw [h3]
    subst ht
    refine ⟨?_, ?_⟩
    · show _ = Int.divExact _ _ (Int.gcd_dvd_left _ ((p.den.gcd q.den : Nat) : Int))
      rw [Int.divExact_eq_ediv]
      exact fdE (Int.gcd_dvd_left _ ((p.den.gcd q.den : Nat) : Int))
    · show _ = ((_ / _ : Nat) : Int)
      rw [hg, fdN, fdN]
      have hd : (p.num * ((q.den / p.den.gcd q.den : Nat) : Int) + q.num * ((p.den / p.den.gcd q.den : Nat) : Int)).natAbs.gcd (p.den.gcd q.den) ∣ q.den := Nat.dvd_trans (Nat.gcd_dvd_right ..) (Nat.gcd_dvd_right ..)
      rw [Nat.mul_div_assoc _ hd, Int.natCast_mul]
theorem gcd_den_ne {t : Int} (q : Rat) : ((Int.gcd t (q.den : Int) : Nat) : Int) ≠ 0 := by
  have h := q.den_nz
  intro h0
  have h1 : Int.gcd t (q.den : Int) = 0 := by omega
  have h2 := (Int.gcd_eq_zero_iff.mp h1).2
  omega
theorem gcd_ne_r {t g : Int} (h : g ≠ 0) : ((Int.gcd t g : Nat) : Int) ≠ 0 := by
  intro h0
  have h1 : Int.gcd t g = 0 := by omega
  exact h (Int.gcd_eq_zero_iff.mp h1).2
theorem fd_sm {k : Nat} {a g : Int} (h : Sm k a) (g1 : 0 ≤ g) : Sm k (a.fdiv g) := by
  unfold Sm at *
  rw [Int.fdiv_eq_ediv_of_nonneg _ g1]
  rcases Int.lt_or_le 0 g with h0 | h0
  · have h2 := Int.natAbs_ediv_le_natAbs a g
    omega
  · have : g = 0 := by omega
    subst this
    rw [Int.ediv_zero]; exact Nat.two_pow_pos k
theorem qTup_dq {pr : List PyData → PEnv → (PEnv → Prop) → Prop} {q : Rat} {env : PEnv} {Q : PEnv → Prop} : qTup 2 pr (dq q) env Q = pr [.int q.num, .int q.den] env Q := by
  unfold dq; rw [qTup_tup]; exact propext ⟨fun h => h.2, fun h => ⟨rfl, h⟩⟩
theorem dq_neg (q : Rat) : PyData.tuple [.int (-q.num), .int q.den] = dq (-q) := rfl
theorem inv_num {q : Rat} (h : q ≠ 0) : dq q⁻¹ = .tuple [.int (if 0 < q.num then (q.den : Int) else -(q.den : Int)), .int (if 0 < q.num then q.num else -q.num)] := by
  have hn := num_ne h
  have e : q⁻¹ = Rat.inv q := rfl
  unfold dq
  rw [e]; unfold Rat.inv
  by_cases h0 : q.num < 0
  · rw [dif_pos h0, if_neg (by omega), if_neg (by omega)]
    show PyData.tuple [_, .int ((q.num.natAbs : Nat) : Int)] = _
    rw [show ((q.num.natAbs : Nat) : Int) = -q.num by omega]
  · have h1 : 0 < q.num := by omega
    rw [dif_neg h0, dif_pos h1, if_pos h1, if_pos h1]
    show PyData.tuple [_, .int ((q.num.natAbs : Nat) : Int)] = _
    rw [show ((q.num.natAbs : Nat) : Int) = q.num by omega]
theorem inv_sm {k : Nat} {q : Rat} (h : SmQ k q) (hq : q ≠ 0) : SmQ k q⁻¹ := by
  have e := inv_num hq
  unfold dq at e
  injection e with e
  injection e with e1 e2
  injection e2 with e2 _
  injection e1 with e1
  injection e2 with e2
  refine ⟨?_, ?_⟩
  · show Sm k q⁻¹.num
    rw [e1]
    have := h.2
    unfold Sm at *
    split <;> omega
  · show Sm k (q⁻¹.den : Int)
    rw [e2]
    have := h.1
    unfold Sm at *
    split <;> omega
end Pu

namespace Pu
open PySem L2 My Prf
/-! step by step: a thing is looked into only where its form is known -/
section
variable {x y : PyData} {xs ys : List PyData} {i j : Nat} {env e : PEnv} {s : SV} {t : OT}
theorem asD_d {k : PyData → Prop} : (SV.d x).asD k = k x := rfl
theorem asD_o {k : PyData → Prop} : (SV.own xs).asD k = k (.list xs) := rfl
def oVar (o : Option (Option SV)) (i : Nat) (env : PEnv) (Q : SV → PEnv → Prop) : Prop := match o with
  | some (some (.d x)) => Q (.d x) env
  | some (some (.own xs)) => Q (.d (.list xs)) (env.set i (some (.d (.list xs))))
  | some (some .st) => Q .st env
  | _ => False
theorem pVar_o {Q : SV → PEnv → Prop} : pVar i env Q = oVar env[i]? i env Q := rfl
theorem oVar_d {Q : SV → PEnv → Prop} : oVar (some (some (.d x))) i env Q = Q (.d x) env := rfl
theorem oVar_o {Q : SV → PEnv → Prop} : oVar (some (some (.own xs))) i env Q = Q (.d (.list xs)) (env.set i (some (.d (.list xs)))) := rfl
theorem oVar_s {Q : SV → PEnv → Prop} : oVar (some (some .st)) i env Q = Q .st env := rfl
def oVarV (o : Option (Option SV)) (env : PEnv) (Q : PyData → PEnv → Prop) : Prop := match o with
  | some (some (.d x)) => Q x env
  | some (some (.own xs)) => Q (.list xs) env
  | some (some (.bor xs)) => Q (.list xs) env
  | _ => False
theorem pVarV_o {Q : PyData → PEnv → Prop} : pVarV i env Q = oVarV env[i]? env Q := rfl
theorem oVarV_d {Q : PyData → PEnv → Prop} : oVarV (some (some (.d x))) env Q = Q x env := rfl
theorem oVarV_o {Q : PyData → PEnv → Prop} : oVarV (some (some (.own xs))) env Q = Q (.list xs) env := rfl
theorem oVarV_b {Q : PyData → PEnv → Prop} : oVarV (some (some (.bor xs))) env Q = Q (.list xs) env := rfl
theorem pI_i {C : Int → Int → Prop} {gd : Int → Int → PyData} {i j : Int} {Q : SV → Prop} : pI C gd (.int i) (.int j) Q = (C i j ∧ Q (.d (gd i j))) := rfl
theorem pI0_i {gd : Int → Int → PyData} {i j : Int} {Q : SV → Prop} : pI0 gd (.int i) (.int j) Q = Q (.d (gd i j)) := rfl
theorem pU_i {gd : Int → PyData} {i : Int} {Q : SV → Prop} : pU gd (.int i) Q = Q (.d (gd i)) := rfl
theorem pAbs_i {i : Int} {Q : SV → Prop} : pAbs [.int i] Q = Q (.d (.int (if i < 0 then -i else i))) := rfl
theorem pMax_i {i j : Int} {Q : SV → Prop} : pMax [.int i, .int j] Q = Q (.d (.int (if j > i then j else i))) := rfl
theorem pMin_i {i j : Int} {Q : SV → Prop} : pMin [.int i, .int j] Q = Q (.d (.int (if j < i then j else i))) := rfl
theorem pInt_i {i : Int} {Q : SV → Prop} : pInt [.int i] Q = Q (.d (.int i)) := rfl
theorem pInt_b {b : Bool} {Q : SV → Prop} : pInt [.bool b] Q = Q (.d (.int (if b then 1 else 0))) := rfl
theorem pLstOf_l {Q : SV → Prop} : pLstOf [.list ys] Q = Q (.own ys) := rfl
theorem pLstOf_t {Q : SV → Prop} : pLstOf [.tuple ys] Q = Q (.own ys) := rfl
def oKit (o : Option Bool) (Q : SV → Prop) : Prop := match o with
  | some b => Q (.d (.bool b))
  | none => False
theorem pIsi_o {c : String} {pa : PDt} {Q : SV → PEnv → Prop} : pIsi c pa env Q = pa env fun x e => oKit (kitB (tyD x) c) fun s => Q s e := rfl
theorem pIsit_o {cs : List String} {pa : PDt} {Q : SV → PEnv → Prop} : pIsit cs pa env Q = pa env fun x e => cs.length ≤ 1000 ∧ oKit (kitBs (tyD x) cs) fun s => Q s e := rfl
theorem oKit_s {b : Bool} {Q : SV → Prop} : oKit (some b) Q = Q (.d (.bool b)) := rfl
theorem asB_b {b : Bool} {k : Bool → Prop} : asB (.bool b) k = k b := rfl
theorem asL_l {k : List PyData → Prop} : asL (.list xs) k = k xs := rfl
theorem isSt_s {k : Prop} : isSt (some (some .st)) k = k := rfl
theorem asI_i {i : Int} {k : Int → Prop} : asI (.int i) k = k i := rfl
def oRetV (o : Option (Option SV)) (D : PEnds) : Prop := match o with
  | some (some (.bor _)) => False
  | some (some (.bt _)) => False
  | some (some s) => D.rt s
  | _ => False
theorem pRetV_o {D : PEnds} : pRetV i D env = oRetV env[i]? D := rfl
theorem oRetV_d {D : PEnds} : oRetV (some (some (.d x))) D = D.rt (.d x) := rfl
theorem oRetV_o {D : PEnds} : oRetV (some (some (.own xs))) D = D.rt (.own xs) := rfl
theorem oRetV_s {D : PEnds} : oRetV (some (some .st)) D = D.rt .st := rfl
theorem oRetV_t {D : PEnds} : oRetV (some (some (.tr t))) D = D.rt (.tr t) := rfl
theorem qNil_n {Q : PEnv → Prop} : qNil [] env Q = Q env := rfl
theorem qCons_c {pg : PyData → PEnv → (PEnv → Prop) → Prop} {pr : List PyData → PEnv → (PEnv → Prop) → Prop} {Q : PEnv → Prop} : qCons pg pr (x :: xs) env Q = pg x env fun e => pr xs e Q := rfl
def oPar (i j : Nat) (xs : List PyData) (D : PEnds) (e : PEnv) : Prop := match xs with
  | [x, y] => D.nx ((e.set i (some (.d x))).set j (some (.d y)))
  | _ => False
theorem pPar_o {pa : PAr} {D : PEnds} : pPar i j pa D env = pa env fun xs e => oPar i j xs D e := rfl
theorem oPar_2 {D : PEnds} : oPar i j [x, y] D e = D.nx ((e.set i (some (.d x))).set j (some (.d y))) := rfl
theorem asOwn_o {k : List PyData → Prop} : asOwn (some (some (.own xs))) k = k xs := rfl
def oIterV (o : Option (Option SV)) (i : Nat) (env : PEnv) (Q : List PyData → PEnv → Prop) : Prop := match o with
  | some (some (.d x)) => asSeq x fun xs => Q xs env
  | some (some (.own xs)) => Q xs (env.set i (some (.d (.list xs))))
  | some (some (.bor xs)) => Q xs env
  | _ => False
theorem pIterV_o {Q : List PyData → PEnv → Prop} : pIterV i env Q = oIterV env[i]? i env Q := rfl
theorem oIterV_d {Q : List PyData → PEnv → Prop} : oIterV (some (some (.d x))) i env Q = asSeq x fun xs => Q xs env := rfl
theorem oIterV_o {Q : List PyData → PEnv → Prop} : oIterV (some (some (.own xs))) i env Q = Q xs (env.set i (some (.d (.list xs)))) := rfl
theorem oIterV_b {Q : List PyData → PEnv → Prop} : oIterV (some (some (.bor xs))) i env Q = Q xs env := rfl
def oRng1 (xs : List PyData) (Q : List PyData → Prop) : Prop := match xs with
  | [.int j] => (-(2 ^ 62) ≤ j ∧ j < 2 ^ 62) ∧ Q (rngD 0 j.toNat)
  | _ => False
theorem pRng1_o {pa : PAr} {Q : List PyData → PEnv → Prop} : pRng1 pa env Q = pa env fun xs e => oRng1 xs fun ys => Q ys e := rfl
theorem oRng1_i {j : Int} {Q : List PyData → Prop} : oRng1 [.int j] Q = ((-(2 ^ 62) ≤ j ∧ j < 2 ^ 62) ∧ Q (rngD 0 j.toNat)) := rfl
def oRng2 (xs : List PyData) (Q : List PyData → Prop) : Prop := match xs with
  | [.int i, .int j] => (-(2 ^ 62) ≤ i ∧ i < 2 ^ 62 ∧ -(2 ^ 62) ≤ j ∧ j < 2 ^ 62) ∧ Q (rngD i (j - i).toNat)
  | _ => False
theorem pRng2_o {pa : PAr} {Q : List PyData → PEnv → Prop} : pRng2 pa env Q = pa env fun xs e => oRng2 xs fun ys => Q ys e := rfl
theorem oRng2_i {i j : Int} {Q : List PyData → Prop} : oRng2 [.int i, .int j] Q = ((-(2 ^ 62) ≤ i ∧ i < 2 ^ 62 ∧ -(2 ^ 62) ≤ j ∧ j < 2 ^ 62) ∧ Q (rngD i (j - i).toNat)) := rfl
def oRngD (xs : List PyData) (Q : List PyData → Prop) : Prop := match xs with
  | [.int i, .int j, .int k] => k = -1 ∧ ((-(2 ^ 61) ≤ i ∧ i < 2 ^ 61) ∧ -(2 ^ 61) ≤ j ∧ j < 2 ^ 61) ∧ Q (dwnD i (i - j).toNat)
  | _ => False
theorem pRngD_o {pa : PAr} {Q : List PyData → PEnv → Prop} : pRngD pa env Q = pa env fun xs e => oRngD xs fun ys => Q ys e := rfl
theorem oRngD_i {i j k : Int} {Q : List PyData → Prop} : oRngD [.int i, .int j, .int k] Q = (k = -1 ∧ ((-(2 ^ 61) ≤ i ∧ i < 2 ^ 61) ∧ -(2 ^ 61) ≤ j ∧ j < 2 ^ 61) ∧ Q (dwnD i (i - j).toNat)) := rfl
theorem pCat_l {Q : SV → Prop} : pCat (.list xs) (.list ys) Q = (xs.length + ys.length ≤ 1000000 ∧ Q (.own (xs ++ ys))) := rfl
theorem pAll_l {Q : SV → Prop} : pAll [.list ys] Q = ∃ bs, blsD ys = some bs ∧ Q (.d (.bool (bs.all id))) := rfl
theorem pAny_l {Q : SV → Prop} : pAny [.list ys] Q = ∃ bs, blsD ys = some bs ∧ Q (.d (.bool (bs.any id))) := rfl
def oLstV (o : Option (Option SV)) (i : Nat) (env : PEnv) (Q : List PyData → PEnv → Prop) : Prop := match o with
  | some (some (.d x)) => asL x fun xs => Q xs env
  | some (some (.own xs)) => Q xs (env.set i (some (.d (.list xs))))
  | some (some (.bor xs)) => Q xs env
  | _ => False
theorem pLstV_o {Q : List PyData → PEnv → Prop} : pLstV i env Q = oLstV env[i]? i env Q := rfl
theorem oLstV_d {Q : List PyData → PEnv → Prop} : oLstV (some (some (.d x))) i env Q = asL x fun xs => Q xs env := rfl
theorem oLstV_o {Q : List PyData → PEnv → Prop} : oLstV (some (some (.own xs))) i env Q = Q xs (env.set i (some (.d (.list xs)))) := rfl
theorem oLstV_b {Q : List PyData → PEnv → Prop} : oLstV (some (some (.bor xs))) i env Q = Q xs env := rfl
def oZip (xss : List (List PyData)) (Q : List PyData → Prop) : Prop := match xss with
  | [xs, ys] => Q (zipD xs ys)
  | _ => False
theorem pZip_o {pa : PEnv → (List (List PyData) → PEnv → Prop) → Prop} {Q : List PyData → PEnv → Prop} : pZip pa env Q = pa env fun xss e => oZip xss fun ys => Q ys e := rfl
theorem oZip_2 {Q : List PyData → Prop} : oZip [xs, ys] Q = Q (zipD xs ys) := rfl
def oEnum (xss : List (List PyData)) (Q : List PyData → Prop) : Prop := match xss with
  | [xs] => Q (enumD xs)
  | _ => False
theorem pEnum_o {pa : PEnv → (List (List PyData) → PEnv → Prop) → Prop} {Q : List PyData → PEnv → Prop} : pEnum pa env Q = pa env fun xss e => oEnum xss fun ys => Q ys e := rfl
theorem oEnum_1 {Q : List PyData → Prop} : oEnum [xs] Q = Q (enumD xs) := rfl
def oVarH (o : Option (Option SV)) (env : PEnv) (Q : PyData → PEnv → Prop) : Prop := match o with
  | some (some (.d x)) => Q x env
  | some (some (.own xs)) => Q (.list xs) env
  | some (some (.bor xs)) => Q (.list xs) env
  | some (some (.tr t)) => ∃ x, t.dat = [x] ∧ Q x env
  | _ => False
theorem pVarH_o {Q : PyData → PEnv → Prop} : pVarH i env Q = oVarH env[i]? env Q := rfl
theorem oVarH_d {Q : PyData → PEnv → Prop} : oVarH (some (some (.d x))) env Q = Q x env := rfl
theorem oVarH_o {Q : PyData → PEnv → Prop} : oVarH (some (some (.own xs))) env Q = Q (.list xs) env := rfl
theorem oVarH_b {Q : PyData → PEnv → Prop} : oVarH (some (some (.bor xs))) env Q = Q (.list xs) env := rfl
theorem oVarH_t {Q : PyData → PEnv → Prop} : oVarH (some (some (.tr t))) env Q = ∃ x, t.dat = [x] ∧ Q x env := rfl
theorem ot_d {k : OT → Prop} : (SV.d x).ot k = k (.leaf x) := rfl
theorem ot_o {k : OT → Prop} : (SV.own xs).ot k = ∀ a, k (.nd true a (leaves xs)) := rfl
theorem ot_t {k : OT → Prop} : (SV.tr t).ot k = k t := rfl
theorem asTr_t {k : OT → Prop} : asTr (some (some (.tr t))) k = k t := rfl
theorem asH_d {k : PyData → Prop} : (SV.d x).asH k = k x := rfl
theorem asH_o {k : PyData → Prop} : (SV.own xs).asH k = k (.list xs) := rfl
theorem asH_t {k : PyData → Prop} : (SV.tr t).asH k = ∃ x, t.dat = [x] ∧ k x := rfl
def oTrV (o : Option (Option SV)) (env : PEnv) (Q : OT → PEnv → Prop) : Prop := match o with
  | some (some (.d x)) => Q (.leaf x) env
  | some (some (.tr t)) => Q t env
  | some (some (.bt t)) => Q t env
  | _ => False
theorem pTrV_o {Q : OT → PEnv → Prop} : pTrV i env Q = oTrV env[i]? env Q := rfl
theorem oTrV_d {Q : OT → PEnv → Prop} : oTrV (some (some (.d x))) env Q = Q (.leaf x) env := rfl
theorem oTrV_t {Q : OT → PEnv → Prop} : oTrV (some (some (.tr t))) env Q = Q t env := rfl
theorem oTrV_b {Q : OT → PEnv → Prop} : oTrV (some (some (.bt t))) env Q = Q t env := rfl
def oUnp (o : Option (Option SV)) (a b : Nat) (pr : List PyData → PEnv → (PEnv → Prop) → Prop) (D : PEnds) (env : PEnv) : Prop := match o with
  | some (some (.bt t)) => ∃ u v, t.pair = some (u, v) ∧ D.nx ((env.set a (some u.sv)).set b (some v.sv))
  | some (some (.d x)) => qTup 2 pr x env D.nx
  | _ => False
theorem pUnp_o {a b : Nat} {pr : List PyData → PEnv → (PEnv → Prop) → Prop} {D : PEnds} : pUnp i a b pr D env = oUnp env[i]? a b pr D env := rfl
theorem oUnp_b {a b : Nat} {pr : List PyData → PEnv → (PEnv → Prop) → Prop} {D : PEnds} : oUnp (some (some (.bt t))) a b pr D env = ∃ u v, t.pair = some (u, v) ∧ D.nx ((env.set a (some u.sv)).set b (some v.sv)) := rfl
theorem oUnp_d {a b : Nat} {pr : List PyData → PEnv → (PEnv → Prop) → Prop} {D : PEnds} : oUnp (some (some (.d x))) a b pr D env = qTup 2 pr x env D.nx := rfl
def oAsgK (o : Option (Option SV)) (n : Int) (j : Nat) (D : PEnds) (env : PEnv) : Prop := match o with
  | some (some (.bt t)) => ∃ u v, t.pair = some (u, v) ∧ ((n = 0 ∧ D.nx (env.set j (some u.sv))) ∨ (n = 1 ∧ D.nx (env.set j (some v.sv))))
  | _ => False
theorem pAsgK_o {n : Int} {D : PEnds} : pAsgK i n j D env = oAsgK env[i]? n j D env := rfl
theorem oAsgK_b {n : Int} {D : PEnds} : oAsgK (some (some (.bt t))) n j D env = ∃ u v, t.pair = some (u, v) ∧ ((n = 0 ∧ D.nx (env.set j (some u.sv))) ∨ (n = 1 ∧ D.nx (env.set j (some v.sv)))) := rfl
/-! what follows a call is not looked at before the call is done -/
class Box (α : Type) where
  f : α → Prop
def hold {α : Type} [b : Box α] (x : α) : Prop := b.f x
theorem hold_app {α : Type} {f : α → Prop} {x : α} : @hold α ⟨f⟩ x = f x := rfl
theorem pCall_h {psp : PSp} {pa : PAs} {env : PEnv} {Q : SV → PEnv → Prop} : pCall psp pa env Q = pa env fun as e => psp as (@hold SV ⟨fun s => Q s e⟩) := rfl
theorem pCallH_h {psp : PSp} {pa pb : PDt} {env : PEnv} {Q : SV → PEnv → Prop} : pCallH psp pa pb env Q = pa env fun x e => pb e fun y e2 => psp [.d x, .d y] (@hold SV ⟨fun s => ∃ b, s = .d (.bool b) ∧ Q (.d (.bool b)) e2⟩) := rfl
theorem pIxL_h {xs : List PyData} {i : Int} {Q : SV → Prop} : pIx (.list xs) (.int i) Q = pGet xs i (@hold SV ⟨Q⟩) := rfl
theorem pIxT_h {xs : List PyData} {i : Int} {Q : SV → Prop} : pIx (.tuple xs) (.int i) Q = pGet xs i (@hold SV ⟨Q⟩) := rfl
theorem pComp_h {pi : PAr} {pg : PyData → PEnv → (PEnv → Prop) → Prop} {pt : PTt} {pd : PDt} {cap : List (Option Nat)} {env : PEnv} {Q : SV → PEnv → Prop} : pComp pi pg pt pd cap env Q = pi env fun xs e => xs.length < 1000000 ∧ pCompGo xs pg pt pd (capEnv cap e) (@hold (List PyData) ⟨fun ys => Q (.own ys) e⟩) := rfl
theorem pSetComp_h {pi : PAr} {pg : PyData → PEnv → (PEnv → Prop) → Prop} {pt : PTt} {pd : PDt} {cap : List (Option Nat)} {i : Nat} {D : PEnds} {env : PEnv} : pSetComp pi pg pt pd cap i D env = pi env fun xs e => xs.length < 1000000 ∧ pCompGo xs pg pt pd (capEnv cap e) (@hold (List PyData) ⟨fun ys => D.nx (e.set i (some (.own ys)))⟩) := rfl
end
end Pu

namespace L2
open PySem PySem.Spec PyProof.Rows
section
variable {X : Cx}
/-- x in a list or tuple of things -/
def rInD (K : PySem.W.Frag) (neg : Bool) : R2 := fun x y H Q => ∃ dx dy xs, Den K H x dx ∧ Den K H y dy ∧ (dy = .list xs ∨ dy = .tuple xs) ∧ PyData.canLayAll0 xs = true ∧ dx.canLay0 = true ∧ dx.depth ≤ 60 ∧ Q (.bl (if neg then !(xs.any fun z => z.eqv dx) else xs.any fun z => z.eqv dx)) H
theorem op_inD (hu : X.A.units + 64 < cLine) : OpR X (compareOp .In) (rInD X.K false) := by
  intro pins s σ H x y v u Q I rx ry h
  obtain ⟨dx, dy, xs, h1, h2, h3, c1, c2, hd, q⟩ := h
  obtain ⟨as, r1⟩ := h1.reads I rx c2
  obtain ⟨bs, r2⟩ := h2.reads I ry (by rcases h3 with rfl | rfl <;> exact c1)
  rcases h3 with rfl | rfl
  · exact PySem.SeqAt.in_list_reads r2 r1 c1 c2 (by omega) ⟨.bl _, H, I, rfl, q⟩
  · exact PySem.SeqAt.in_tuple_reads r2 r1 c1 c2 (by omega) ⟨.bl _, H, I, rfl, q⟩
theorem op_notinD (hu : X.A.units + 64 < cLine) : OpR X (compareOp .NotIn) (rInD X.K true) := by
  intro pins s σ H x y v u Q I rx ry h
  obtain ⟨dx, dy, xs, h1, h2, h3, c1, c2, hd, q⟩ := h
  obtain ⟨as, r1⟩ := h1.reads I rx c2
  obtain ⟨bs, r2⟩ := h2.reads I ry (by rcases h3 with rfl | rfl <;> exact c1)
  rcases h3 with rfl | rfl
  · exact PySem.SeqAt.notIn_list_reads r2 r1 c1 c2 (by omega) ⟨.bl _, H, I, rfl, q⟩
  · exact PySem.SeqAt.notIn_tuple_reads r2 r1 c1 c2 (by omega) ⟨.bl _, H, I, rfl, q⟩
theorem op_notinDK {K : PySem.W.Frag} (h : X.K = K) (hu : X.A.units + 64 < cLine) : OpR X (compareOp .NotIn) (rInD K true) := by subst h; exact op_notinD hu
end
end L2
namespace Pu
open PySem L2 My Prf
def pIn (neg : Bool) (x y : PyData) (Q : SV → Prop) : Prop := asSeq y fun xs => PyData.canLayAll0 xs = true ∧ x.canLay0 = true ∧ x.depth ≤ 60 ∧ Q (.d (.bool (if neg then !(xs.any fun z => z.eqv x) else xs.any fun z => z.eqv x)))
instance ro_in {K : Frag} {neg : Bool} : RO K (rInD K neg) (pIn neg) where
  ok := by
    rintro c w env σ x y dx dy Qp Q rfl E vx vy p k
    unfold pIn asSeq at p
    split at p
    · rename_i xs
      exact ⟨dx, _, xs, vx.den E.wok, vy.den E.wok, .inl rfl, p.1, p.2.1, p.2.2.1, k _ _ w (Res.data E (.bl _)) p.2.2.2⟩
    · rename_i xs
      exact ⟨dx, _, xs, vx.den E.wok, vy.den E.wok, .inr rfl, p.1, p.2.1, p.2.2.1, k _ _ w (Res.data E (.bl _)) p.2.2.2⟩
    · exact p.elim
theorem hm_H {w : Wd} : Same (hm w) w.H := fun _ _ h => (hm_inv h).1
instance (priority := high) re_neH {K : Frag} {ta tb : TE} {pa pb : PDt} [ha : RH K ta pa] [hb : RH K tb pb] : RE K (tOp (rNeD K) ta tb) (pOp pNeD pa pb) where
  ok := by
    rintro c w env σ Qp Q rfl E p k
    refine ha.ok c w env σ _ _ rfl E p fun x dx e1 w1 E1 l1 v1 q1 => ?_
    refine hb.ok c w1 e1 σ _ _ rfl E1 q1 fun y dy e2 w2 E2 l2 v2 q2 => ?_
    have v1' : VH c.K w2 x dx := Den.same (hm_lw l2) v1
    exact ⟨dx, dy, Den.same hm_H v1', Den.same hm_H v2, q2.1, q2.2.1, q2.2.2.1, k _ _ e2 w2 ((Res.data E2 (.bl _)).pre (l1.trans l2)) q2.2.2.2⟩
instance (priority := high) re_eqH {K : Frag} {ta tb : TE} {pa pb : PDt} [ha : RH K ta pa] [hb : RH K tb pb] : RE K (tOp (rEqD K) ta tb) (pOp pEqD pa pb) where
  ok := by
    rintro c w env σ Qp Q rfl E p k
    refine ha.ok c w env σ _ _ rfl E p fun x dx e1 w1 E1 l1 v1 q1 => ?_
    refine hb.ok c w1 e1 σ _ _ rfl E1 q1 fun y dy e2 w2 E2 l2 v2 q2 => ?_
    have v1' : VH c.K w2 x dx := Den.same (hm_lw l2) v1
    exact ⟨dx, dy, Den.same hm_H v1', Den.same hm_H v2, q2.1, q2.2.1, q2.2.2.1, k _ _ e2 w2 ((Res.data E2 (.bl _)).pre (l1.trans l2)) q2.2.2.2⟩
/-! for x in it[1], of a thing that is lent -/
def oIterK (o : Option (Option SV)) (n : Int) (env : PEnv) (Q : List PyData → PEnv → Prop) : Prop := match o with
  | some (some (.bt t)) => ∃ u v xs, t.pair = some (u, v) ∧ n = 1 ∧ v.sv = .bor xs ∧ Q xs env
  | _ => False
def pIterK (i : Nat) (n : Int) (env : PEnv) (Q : List PyData → PEnv → Prop) : Prop := oIterK env[i]? n env Q
theorem oIterK_b {t : OT} {n : Int} {env : PEnv} {Q : List PyData → PEnv → Prop} : oIterK (some (some (.bt t))) n env Q = ∃ u v xs, t.pair = some (u, v) ∧ n = 1 ∧ v.sv = .bor xs ∧ Q xs env := rfl
/-! a name whose thing goes into a new thing -/
theorem EnvOk.take {c : Ct} {w : Wd} {env : PEnv} {σ : St} {i : Nat} {s : SV} (E : EnvOk c w env σ) (h : env[i]? = some (some s)) (hr : s.isRes = true) : ∃ v, σ[i]? = some (some v) ∧ Res c w (env.set i none) σ w v s := by
  obtain ⟨v, hv, hV⟩ := E.at' i _ h
  have up : ∀ {j : Nat} {t : SV}, (env.set i none)[j]? = some (some t) → i ≠ j ∧ env[j]? = some (some t) := by
    intro j t q
    rw [List.getElem?_set] at q
    split at q
    · split at q <;> cases q
    · rename_i z; exact ⟨z, q⟩
  have E' : EnvOk c w (env.set i none) σ := ⟨E.wok, E.le0, by simpa using E.len, fun j s q => E.at' j s (up q).2, fun j k s t v u a q1 q2 => E.own j k s t v u a (up q1).2 (up q2).2, E.zf, fun a j t u za q => E.zo a j t u za (up q).2⟩
  exact ⟨v, hv, E', Lw.refl w, hV, fun a f => ⟨fun j t u q z g => (up q).1 (E.own i j _ _ _ _ a h (up q).2 hv z f g), fun za => E.zo a i _ _ za h hv f⟩, hr⟩
def oMove (o : Option (Option SV)) (i : Nat) (env : PEnv) (k : OT → PEnv → Prop) : Prop := match o with
  | some (some (.d x)) => k (.leaf x) env
  | some (some (.own xs)) => ∀ a, k (.nd true a (leaves xs)) (env.set i none)
  | some (some (.tr t)) => k t (env.set i none)
  | _ => False
theorem oMove_d {x : PyData} {i : Nat} {env : PEnv} {k : OT → PEnv → Prop} : oMove (some (some (.d x))) i env k = k (.leaf x) env := rfl
theorem oMove_o {xs : List PyData} {i : Nat} {env : PEnv} {k : OT → PEnv → Prop} : oMove (some (some (.own xs))) i env k = ∀ a, k (.nd true a (leaves xs)) (env.set i none) := rfl
theorem oMove_t {t : OT} {i : Nat} {env : PEnv} {k : OT → PEnv → Prop} : oMove (some (some (.tr t))) i env k = k t (env.set i none) := rfl
def pConsM (i : Nat) (pr : PEnv → (OT → PEnv → Prop) → Prop) (env : PEnv) (Q : OT → PEnv → Prop) : Prop := oMove env[i]? i env fun t e1 => pr e1 fun r e2 => (∀ a ∈ r.fp, a ∉ t.fp) → Q (.cons t r) e2
/-! it[0], a part that is plain -/
def pKidD (i : Nat) (n : Int) (env : PEnv) (Q : SV → PEnv → Prop) : Prop := asTr env[i]? fun t => ∃ (m : Nat) (b : Bool) (a : Addr) (ks : OT) (x : PyData), n = m ∧ t = .nd b a ks ∧ ks.kid m = some (.leaf x) ∧ Q (.d x) env
end Pu

namespace L2
open PySem PySem.Spec PyProof.Rows
section
variable {X : Cx} {tg : Expr}
def rCatStr : R2 := fun x y H Q => ∃ i j, x = .str i ∧ y = .str j ∧ i.length + j.length ≤ 1000 ∧ Q (.str (i ++ j)) H
theorem op_catS : OpR X (binaryOp .Add) rCatStr := by
  intro pins s σ H x y v u Q I rx ry h
  obtain ⟨i, j, rfl, rfl, l, q⟩ := h
  exact op_add_str pins s σ H _ _ v u Q I rx ry ⟨i, j, rfl, rfl, Nat.le_trans l (by rw [sizeLine_eq]; decide), q⟩
/-- len of a list, a tuple, a text -/
def rLen2 (K : PySem.W.Frag) : List V → Hp → VK → Prop := fun xs H Q => (∃ p ys, xs = [.ref p] ∧ (SqL K H p ys ∨ SqT K H p ys) ∧ Q (.int ys.length) H) ∨ ∃ z, xs = [.str z] ∧ z.length ≤ sizeLine ∧ Q (.int z.length) H
theorem call_len2K {K : PySem.W.Frag} (h : X.K = K) : CallR X (.builtin "len") (rLen2 K) := by subst h; exact call_len_seq.or call_len_str
theorem glue_size (k : Array Nat) : ∀ (ps : List Str) (a : Array Nat), (List.foldl (fun acc (p : Str) => acc ++ k ++ p.cps) a ps).size = a.size + (ps.map fun z => z.length + k.size).sum
  | [], a => by simp
  | p :: ps, a => by
    rw [List.foldl_cons, glue_size k ps, List.map_cons, List.sum_cons, Array.size_append, Array.size_append]
    show a.size + k.size + p.cps.size + _ = a.size + (p.cps.size + k.size + _)
    omega
theorem join_len {sep : Str} : ∀ {zs : List Str}, (sep.join zs).length ≤ (zs.map fun z => z.length + sep.length).sum := by
  intro zs
  rw [← StrLaws.glued_eq_join]
  cases zs with
  | nil => exact Nat.le_refl _
  | cons z r =>
    show (List.foldl (fun acc (p : Str) => acc ++ sep.cps ++ p.cps) z.cps r).size ≤ _
    rw [glue_size, List.map_cons, List.sum_cons]
    show z.cps.size + (r.map fun z => z.length + sep.cps.size).sum ≤ z.cps.size + sep.cps.size + (r.map fun z => z.length + sep.cps.size).sum
    omega
theorem line1000 : 1000 ≤ sizeLine := by rw [sizeLine_eq]; decide
end
end L2

namespace L2
open PySem PySem.Spec PyProof.Rows
section
variable {X : Cx} {tg : Expr} {pos : Pos}
/-- {} -/
def tDNew : TE := fun _ H Q => ∀ p, H p = none → Q (.ref p) (upd H p (.dK []))
theorem dk_none {P : Program} {w : World} {H : Hp} (h : Heap) (hb : sysModules < h.objs.size) : ObjOk P w H (h.push { cls := .type "dict", data := .dict #[] }) h.objs.size (.dK []) :=
  ⟨Nat.zero_le _, beq_eq_false_iff_ne.mpr (Ne.symm (Nat.ne_of_lt hb)), [], .nil, Heap.DictOf.new h⟩
theorem sys_lt {pins : List (Addr × Obj)} {σ : St} {H : Hp} {s : Shared} (I : Inv X pins σ H s) : sysModules < s.heap.objs.size :=
  Nat.lt_trans (show sysModules < mainGlobals by decide) (I.mod.glob.keeps I.bk).lt
theorem pe_dnew : PE X (.Dict [] [] pos) tDNew := fun pins s σ H Q I h =>
  wpAny_Dict_empty ⟨.ref s.heap.objs.size, _, I.laid (a := s.heap.objs.size) (o := .dK []) (t' := s.toks) (fun _ _ q => Heap.get?_push_of_some _ q) (Nat.le_refl _) (dk_none s.heap (sys_lt I)), rfl, h _ (I.hok.fresh (Nat.le_refl _))⟩
theorem qpe_dnew : QE X (.Dict [] [] pos) tDNew := ⟨pe_dnew⟩
end
end L2
namespace Pu
open PySem L2 My Prf
/-! texts -/
def asS (x : PyData) (k : Str → Prop) : Prop := match x with
  | .str z => k z
  | _ => False
theorem asS_s {z : Str} {k : Str → Prop} : asS (.str z) k = k z := rfl
theorem VV.strE {K : Frag} {w : Wd} {v : V} {z : Str} (h : VV K w v (.str z)) : v = .str z := by
  rcases h with h | ⟨l, vs, xs, e, e', _⟩
  · cases h; rfl
  · cases e'
def sgn (c : Nat) : PyData := .str ⟨#[c]⟩
def signs (z : Str) : List PyData := z.cps.toList.map sgn
def pIterS (pd : PDt) (env : PEnv) (Q : List PyData → PEnv → Prop) : Prop := pd env fun x e => asS x fun z => Q (signs z) e
def pS (gd : Str → Str → PyData) (x y : PyData) (Q : SV → Prop) : Prop := asS x fun i => asS y fun j => Q (.d (gd i j))
def pCatS (x y : PyData) (Q : SV → Prop) : Prop := asS x fun i => asS y fun j => i.length + j.length ≤ 1000 ∧ Q (.d (.str (i ++ j)))
instance ro_catS {K : Frag} : RO K rCatStr pCatS where
  ok := by
    rintro c w env σ x y dx dy Qp Q rfl E vx vy p k
    unfold pCatS asS at p
    split at p
    · split at p
      · exact ⟨_, _, vx.strE, vy.strE, p.1, k _ _ w (Res.data E (.str _)) p.2⟩
      · exact p.elim
    · exact p.elim
/-! x[i], of a text too -/
def pGetS (z : Str) (i : Int) (Q : SV → Prop) : Prop := ∃ c, atI z.cps.toList i = some c ∧ Q (.d (sgn c))
def pIx2 (x y : PyData) (Q : SV → Prop) : Prop := match x with
  | .str z => asI y fun i => z.length ≤ 1000 ∧ pGetS z i Q
  | x => pIx x y Q
theorem pIx2_l {xs : List PyData} {y : PyData} {Q : SV → Prop} : pIx2 (.list xs) y Q = pIx (.list xs) y Q := rfl
theorem pIx2_t {xs : List PyData} {y : PyData} {Q : SV → Prop} : pIx2 (.tuple xs) y Q = pIx (.tuple xs) y Q := rfl
theorem pIx2_q {q : Rat} {y : PyData} {Q : SV → Prop} : pIx2 (dq q) y Q = pIx (dq q) y Q := rfl
theorem pIx2_c {q : Rat × Rat} {y : PyData} {Q : SV → Prop} : pIx2 (dcn q) y Q = pIx (dcn q) y Q := rfl
theorem pIx2_s {z : Str} {i : Int} {Q : SV → Prop} : pIx2 (.str z) (.int i) Q = (z.length ≤ 1000 ∧ pGetS z i Q) := rfl
instance (priority := high) ro_ix2 {K : Frag} : RO K (rIx K) pIx2 where
  ok := by
    rintro c w env σ x y dx dy Qp Q rfl E vx vy p k
    unfold pIx2 at p
    split at p
    · unfold asI at p
      split at p
      · obtain ⟨hl, cc, h1, q⟩ := p
        exact .inr (.inr ⟨_, _, cc, vx.strE, vy.intE, Nat.le_trans hl line1000, h1, k _ _ w (Res.data E (.str _)) q⟩)
      · exact p.elim
    · exact ro_ix.ok c w env σ x y dx dy Qp Q rfl E vx vy p k
/-! len, of a text too -/
def pLen2 (xs : List PyData) (Q : SV → Prop) : Prop := match xs with
  | [.list ys] => Q (.d (.int ys.length))
  | [.tuple ys] => Q (.d (.int ys.length))
  | [.str z] => z.length ≤ 1000 ∧ Q (.d (.int z.length))
  | _ => False
theorem pLen2_l {ys : List PyData} {Q : SV → Prop} : pLen2 [.list ys] Q = Q (.d (.int ys.length)) := rfl
theorem pLen2_t {ys : List PyData} {Q : SV → Prop} : pLen2 [.tuple ys] Q = Q (.d (.int ys.length)) := rfl
theorem pLen2_q {q : Rat} {Q : SV → Prop} : pLen2 [dq q] Q = Q (.d (.int 2)) := rfl
theorem pLen2_s {z : Str} {Q : SV → Prop} : pLen2 [.str z] Q = (z.length ≤ 1000 ∧ Q (.d (.int z.length))) := rfl
instance rb_len2 {K : Frag} : RB K (rLen2 K) pLen2 where
  ok := by
    rintro c w env σ vs xs Qp Q rfl E vv p k
    unfold pLen2 at p
    split at p
    · cases vv with | cons h t => cases t; obtain ⟨a, us, e, h1, h2⟩ := h.lst E.wok; exact .inl ⟨a, us, by rw [e], .inl h1, by rw [h2.len]; exact k _ _ w (Res.data E (.int _)) p⟩
    · cases vv with | cons h t => cases t; obtain ⟨a, us, e, h1, h2⟩ := h.tup E.wok; exact .inl ⟨a, us, by rw [e], .inr h1, by rw [h2.len]; exact k _ _ w (Res.data E (.int _)) p⟩
    · cases vv with | cons h t => cases t; exact .inr ⟨_, by rw [h.strE], Nat.le_trans p.1 line1000, k _ _ w (Res.data E (.int _)) p.2⟩
    · exact p.elim
/-! sep.join(texts) -/
def strsD : List PyData → Option (List Str)
  | [] => some []
  | .str z :: r => (strsD r).map (z :: ·)
  | _ => none
def pJoin (po pa : PDt) (env : PEnv) (Q : SV → PEnv → Prop) : Prop := po env fun x e => asS x fun sep => pa e fun y e2 => asL y fun ys => ∃ zs, strsD ys = some zs ∧ (zs.map fun z => z.length + sep.length).sum ≤ 1000 ∧ Q (.d (.str (sep.join zs))) e2
/-! xs[i] = x, of a list of one's own -/
def pSetI (pd : PDt) (i : Nat) (pi : PDt) (D : PEnds) (env : PEnv) : Prop := pd env fun x e => asOwn e[i]? fun _ => pi e fun y e2 => asI y fun n => asOwn e2[i]? fun xs => ∃ j, ixN xs.length n = some j ∧ D.nx (e2.set i (some (.own (xs.set j x))))
/-! dicts, that are only carried about -/
def pDict (env : PEnv) (Q : SV → PEnv → Prop) : Prop := Q (.d (.dict [])) env
theorem Res.dct {c : Ct} {w : Wd} {env : PEnv} {σ : St} {p : Addr} {kvs : List (Key × V)} (E : EnvOk c w env σ) (h : w.H p = none) : Res c w env σ (w.tup p (.dK kvs)) (.ref p) (.d (.dict (kvs.map fun _ => (.none, .none)))) :=
  ⟨E.mono (Wd.tup_ok E.wok h) (Wd.tup_le E.wok h), (Wd.tup_le E.wok h).toLw, .dct (kvs := kvs) upd_same, fun _ e => (nomatch e), rfl⟩
instance re_dnew {K : Frag} : RE K tDNew pDict where
  ok := by
    rintro c w env σ Qp Q rfl E p k
    intro a ha
    exact k _ _ env _ (Res.dct (kvs := []) E ha) p
def pDict1 (env : PEnv) (Q : SV → PEnv → Prop) : Prop := Q (.d (.dict [(.none, .none)])) env
theorem kit2_ii : kitB "int" "int" = some true := by decide +kernel
theorem kit2_ib : kitB "int" "bool" = some false := by decide +kernel
theorem kit2_it : kitB "int" "tuple" = some false := by decide +kernel
theorem kit2_is : kitB "int" "str" = some false := by decide +kernel
theorem kit2_bi : kitB "bool" "int" = some true := by decide +kernel
theorem kit2_bb : kitB "bool" "bool" = some true := by decide +kernel
theorem kit2_bt : kitB "bool" "tuple" = some false := by decide +kernel
theorem kit2_bs : kitB "bool" "str" = some false := by decide +kernel
theorem kit2_ni : kitB "NoneType" "int" = some false := by decide +kernel
theorem kit2_nb : kitB "NoneType" "bool" = some false := by decide +kernel
theorem kit2_nt : kitB "NoneType" "tuple" = some false := by decide +kernel
theorem kit2_ns : kitB "NoneType" "str" = some false := by decide +kernel
theorem kit2_si : kitB "str" "int" = some false := by decide +kernel
theorem kit2_sb : kitB "str" "bool" = some false := by decide +kernel
theorem kit2_st : kitB "str" "tuple" = some false := by decide +kernel
theorem kit2_ss : kitB "str" "str" = some true := by decide +kernel
theorem kit2_li : kitB "list" "int" = some false := by decide +kernel
theorem kit2_lb : kitB "list" "bool" = some false := by decide +kernel
theorem kit2_lt : kitB "list" "tuple" = some false := by decide +kernel
theorem kit2_ls : kitB "list" "str" = some false := by decide +kernel
theorem kit2_ti : kitB "tuple" "int" = some false := by decide +kernel
theorem kit2_tb : kitB "tuple" "bool" = some false := by decide +kernel
theorem kit2_tt : kitB "tuple" "tuple" = some true := by decide +kernel
theorem kit2_ts : kitB "tuple" "str" = some false := by decide +kernel
theorem kit2_di : kitB "dict" "int" = some false := by decide +kernel
theorem kit2_db : kitB "dict" "bool" = some false := by decide +kernel
theorem kit2_dt : kitB "dict" "tuple" = some false := by decide +kernel
theorem kit2_ds : kitB "dict" "str" = some false := by decide +kernel
theorem tyD_dict {kvs : List (PyData × PyData)} : tyD (.dict kvs) = "dict" := rfl
/-! a <= b <= c -/
def pChain (pr pr' : PyData → PyData → (SV → Prop) → Prop) (pa pb pc : PDt) (env : PEnv) (Q : SV → PEnv → Prop) : Prop :=
  pa env fun x e1 => pb e1 fun y e2 => pr x y fun s => s.asD fun b => asB b fun k => if k = true then pc e2 fun z e3 => pr' y z fun s2 => Q s2 e3 else Q (.d (.bool false)) e2
instance re_chain {K : Frag} {r r' : R2} {ta tb tc : TE} {pr pr' : PyData → PyData → (SV → Prop) → Prop} {pa pb pc : PDt} [h : RO K r pr] [h' : RO K r' pr'] [ha : RW K ta pa] [hb : RW K tb pb] [hc : RW K tc pc] : RE K (tChain r r' ta tb tc) (pChain pr pr' pa pb pc) where
  ok := by
    rintro c w env σ Qp Q rfl E p k
    refine ha.ok c w env σ _ _ rfl E p fun x dx e1 w1 E1 l1 v1 q1 => ?_
    refine hb.ok c w1 e1 σ _ _ rfl E1 q1 fun y dy e2 w2 E2 l2 v2 q2 => ?_
    refine h.ok c w2 e2 σ x y dx dy _ _ rfl E2 (v1.mono l2) v2 q2 fun v s w3 R q3 => ?_
    cases s with
    | d b =>
      cases b with
      | bool b =>
        have ev : v = .bl b := Den.blE R.val
        refine ⟨b, ev, ?_⟩
        cases b with
        | true =>
          refine hc.ok c w3 e2 σ _ _ rfl R.ev q3 fun z dz e3 w4 E4 l4 v4 q4 => ?_
          exact h'.ok c w4 e3 σ y z dy dz _ _ rfl E4 ((v2.mono R.lw).mono l4) v4 q4 fun v s w' R' q => k v s e3 w' (R'.pre (l1.trans (l2.trans (R.lw.trans l4)))) q
        | false => exact k _ _ e2 w3 ((Res.data R.ev (.bl _)).pre (l1.trans (l2.trans R.lw))) q3
      | _ => exact (show False from q3).elim
    | own xs => exact (show False from q3).elim
    | bor xs => exact (show False from q3).elim
    | st => exact (show False from q3).elim
    | tr t => exact (show False from q3).elim
    | bt t => exact (show False from q3).elim
end Pu

namespace L2
open PySem PySem.Spec PyProof.Rows
/-! the class of an exception of the text's own classes -/
section
variable {prog : Program} {w : World} {A : Around} {E : Value → Shared → Prop} {h : Heap} {g : Array GenState} {d : Drawn} {t : Nat} {os : OsState} {a C : Addr} {o : Obj} {vs : Array Value} {K : PySem.W.Frag}
end
end L2

namespace L2
open PySem PySem.Spec PyProof.Rows
/-! an exception that flies through calls -/
section
variable {P : Program} {w : World} {outer : List Env} {H H' : Hp} {s s' : Shared} {a : Addr} {cls a0 : Value} {B : Heap}
end
/-! leaving a def -/
section
variable {P : Program} {w : World} {K : PySem.W.Frag} {mg : Str → Option Value} {base : Heap} {N : List Str} {qual : Str} {scope : Scope} {f : Addr} {cd : Value} {A : Around} {outer : List Env} {s0 : Shared} {H0 : Hp} {E : XK}
end
end L2

namespace L2
open PySem PySem.Spec PyProof.Rows
/-! raise C("..") -/
section
variable {X : Cx} {E : XK} {x : Str} {C : Addr} {pos np cpos : Pos} {e : Expr} {es : List Expr} {t : TA}
end
/-! the held exception: the context of an except suite -/
abbrev Cx.held (X : Cx) (a : Addr) (oe : Obj) : Cx := { X with A := X.A.mark (some (.ref a)), calm := false, pn := (a, oe) :: X.pn, xe := fun _ _ => False }
section
variable {X : Cx} {pins : List (Addr × Obj)} {σ : St} {H : Hp} {s : Shared} {a : Addr} {oe : Obj}
end
end L2

namespace L2
open PySem PySem.Spec PyProof.Rows
/-! try: f(..) except C as e: a suite that returns -/
section
variable {P : Program} {w : World} {outer : List Env} {H H' : Hp} {s s' : Shared} {a : Addr} {cls a0 : Value} {B : Heap}
end
section
variable {X : Cx} {pins : List (Addr × Obj)} {σ : St} {H H' : Hp} {s s' : Shared} {a : Addr} {cls a0 : Value} {B : Heap}
end
section
variable {X : Cx} {k i : Nat} {f C CH : Addr} {fd : FuncData} {ps : List Str} {sp : Sp} {x xh n : Str} {p pos pos2 pos3 pos4 pos5 : Pos} {e : Expr} {es : List Expr} {t : TA} {b0 : Stmt} {suite : List Stmt} {b : Bool}
end
end L2

namespace L2
open PySem PySem.Spec PyProof.Rows
/-! isinstance of the exception that is held -/
section
variable {X : Cx} {a C : Addr} {oe : Obj} {i : Nat} {b : Bool}
/-- names and types -/
inductive ClV : V → Value → Prop
  | own (c : Addr) : ClV (.ref c) (.ref c)
  | ty (c : String) : ClV (.ty c) (.type c)
theorem ClV.get {c : V} {u cv : Value} (h : ClV c cv) (r : RelV c u) : u = cv := by
  cases h with
  | own c => exact r
  | ty c => exact r
inductive ClVs : List V → List Value → Prop
  | nil : ClVs [] []
  | cons {c : V} {cv : Value} {r : List V} {s : List Value} : ClV c cv → ClVs r s → ClVs (c :: r) (cv :: s)
theorem ClVs.get : ∀ {cs : List V} {us cvs : List Value}, ClVs cs cvs → Vals cs us → us = cvs
  | [], _, _, .nil, .nil => rfl
  | _ :: _, _, _, .cons h t, .cons r s => by rw [h.get r, t.get s]
/-! the rules, over judgements that do not unfold -/
end
end L2

namespace L2
open PySem PySem.Spec PyProof.Rows
section
variable {X : Cx}
variable {k i : Nat} {f C CH : Addr} {fd : FuncData} {ps : List Str} {sp : Sp} {x xh n : Str} {p pos pos2 pos3 pos4 pos5 : Pos} {e : Expr} {es : List Expr} {t : TA} {b0 : Stmt} {suite : List Stmt} {b : Bool}
end
end L2
namespace Pu
open PySem PySem.Spec PyProof.Rows L2 My Prf
/-! a def that raises, over plain data -/
/-! caught -/
end Pu
namespace L2
open PySem PySem.Spec PyProof.Rows
theorem us0 : ∀ {us : List Value}, us.length = 0 → us = []
  | [], _ => rfl
theorem usS {n : Nat} : ∀ {us : List Value}, us.length = n + 1 → ∃ a r, us = a :: r ∧ r.length = n
  | a :: r, h => ⟨a, r, rfl, Nat.succ.inj h⟩
theorem us1 {us : List Value} (h : us.length = 1) : ∃ a, us = [a] := by
  obtain ⟨a, r, e, k⟩ := usS h
  exact ⟨a, by rw [e, us0 k]⟩
theorem us2 {us : List Value} (h : us.length = 2) : ∃ a b, us = [a, b] := by
  obtain ⟨a, r, e, k⟩ := usS h; obtain ⟨b, z⟩ := us1 k; exact ⟨a, b, by rw [e, z]⟩
theorem us3 {us : List Value} (h : us.length = 3) : ∃ a b c, us = [a, b, c] := by
  obtain ⟨a, r, e, k⟩ := usS h; obtain ⟨b, c, z⟩ := us2 k; exact ⟨a, b, c, by rw [e, z]⟩
theorem us4 {us : List Value} (h : us.length = 4) : ∃ a b c d, us = [a, b, c, d] := by
  obtain ⟨a, r, e, k⟩ := usS h; obtain ⟨b, c, d, z⟩ := us3 k; exact ⟨a, b, c, d, by rw [e, z]⟩
end L2

namespace L2
open PySem PySem.Spec PyProof.Rows
/-! list(range(n)) -/
section
variable {X : Cx}
end
end L2
namespace Pu
open PySem L2 My Prf
/-! list * n -/
def pRep (pe : PX) (pb : PDt) (env : PEnv) (Q : SV → PEnv → Prop) : Prop := pe env fun s e => ∃ xs, s = .own xs ∧ pb e fun y e2 => ∃ n : Int, y = .int n ∧ 0 ≤ n ∧ n ≤ 1000 ∧ xs.length ≤ 1000 ∧ Q (.own (List.replicate n.toNat xs).flatten) e2
/-! one.append(other.pop(n)) -/
end Pu

namespace L2
open PySem PySem.Spec PyProof.Rows
/-! list(zip(a, b)): the tuples are kept, so each turn lays a new one -/
section
variable {prog : Program} {w : World} {A : Around} {E : Value → Shared → Prop} {s : Shared}
end
section
variable {prog : Program} {w : World} {A : Around} {E : Value → Shared → Prop} {s : Shared} {R : Result → Shared → Prop} {us vs : Array Value}
end
section
variable {prog : Program} {w : World} {A : Around} {E : Value → Shared → Prop} {s : Shared} {us vs : Array Value}
end
end L2
namespace L2
open PySem PySem.Spec PyProof.Rows
section
variable {X : Cx} {pins : List (Addr × Obj)} {σ : St} {H : Hp} {s : Shared}
end
end L2
namespace L2
open PySem PySem.Spec PyProof.Rows
section
variable {X : Cx}
end
end L2
namespace Pu
open PySem L2 My Prf
def pLstZip (pa : PEnv → (List (List PyData) → PEnv → Prop) → Prop) (env : PEnv) (Q : SV → PEnv → Prop) : Prop := pa env fun xss e => ∃ xs ys, xss = [xs, ys] ∧ xs.length ≤ 1000 ∧ Q (.own (zipD xs ys)) e
end Pu

namespace L2
open PySem PySem.Spec PyProof.Rows
/-! the place of a thing in a list of things -/
section
variable {X : Cx}
end
end L2
namespace Pu
open PySem L2 My Prf
def pIdx (po pa : PDt) (env : PEnv) (Q : SV → PEnv → Prop) : Prop := po env fun x e => asL x fun xs => pa e fun d e2 => PyData.canLayAll0 xs = true ∧ d.canLay0 = true ∧ d.depth ≤ 60 ∧ xs.length ≤ 1000 ∧ ∃ j : Nat, xs.findIdx? (fun z => z.eqv d) = some j ∧ Q (.d (.int (j : Int))) e2
end Pu

namespace L2
open PySem PySem.Spec PyProof.Rows
/-! repr(x) of things -/
def showE (d : PyData) : Prop := (d.canLay0 = true ∧ d.showable = true ∧ d.hasDict = false ∨ d = .dict []) ∧ d.depth ≤ 60 ∧ d.shown.length ≤ sizeLine
section
variable {X : Cx}
theorem dict_empty {P : Program} {w : World} {h : Heap} {a : Addr} (m : Heap.DictOf (mixKind P w) h a []) : ∃ o n, h.get? a = some o ∧ o.cls = .type "dict" ∧ o.data = .dict #[] n := by
  obtain ⟨o, es, ep, h1, h2, h3, _, h4, _⟩ := m
  have he : es = #[] := by
    have : es.toList = [] := by generalize es.toList = l at h4; cases h4; rfl
    exact Array.toList_inj.mp (by rw [this])
  subst he
  exact ⟨o, ep, h1, h2.1, h3⟩
end
end L2
namespace Pu
open PySem L2 My Prf
def pRepr (pa : PDt) (env : PEnv) (Q : SV → PEnv → Prop) : Prop := pa env fun d e => showE d ∧ Q (.d (.str d.shown)) e
end Pu

namespace L2
open PySem PySem.Spec PyProof.Rows
/-! xs[lo::step] -/
def stepIx (n : Nat) (i j : Int) : List Nat := sliceRange (sliceBounds (some i) none (some j) n).1 (sliceBounds (some i) none (some j) n).2.1 (sliceBounds (some i) none (some j) n).2.2
section
variable {X : Cx}
end
end L2
namespace Pu
open PySem L2 My Prf
def stepD (xs : List PyData) (i j : Int) : List PyData := (stepIx xs.length i j).filterMap (xs[·]?)
def pStep (pe pl ps : PDt) (env : PEnv) (Q : SV → PEnv → Prop) : Prop := pe env fun x e1 => asL x fun xs => pl e1 fun y e2 => asI y fun i => ps e2 fun z e3 => asI z fun j => j ≠ 0 ∧ Q (.own (stepD xs i j)) e3
end Pu

namespace L2
open PySem PySem.Spec PyProof.Rows
/-! tuple(xs) of a list -/
def rTupOf (K : PySem.W.Frag) : List V → Hp → VK → Prop := fun xs H Q => ∃ p ys, xs = [.ref p] ∧ SqL K H p ys ∧ ∀ l, H l = none → Q (.ref l) (upd H l (.tup ys))
theorem call_tupK {X : Cx} {K : PySem.W.Frag} (h : X.K = K) : CallR X (.type "tuple") (rTupOf K) := by
  subst h
  intro pins s σ H xs us Q I r q
  obtain ⟨p, ys, e, hq, k⟩ := q
  exact call_tuple_of pins s σ H xs us Q I r ⟨p, ys, e, .inl ⟨hq, k⟩⟩
end L2
namespace Pu
open PySem L2 My Prf
def pTupOf (pa : PEnv → (List (List PyData) → PEnv → Prop) → Prop) (env : PEnv) (Q : SV → PEnv → Prop) : Prop := pa env fun xss e => ∃ xs, xss = [xs] ∧ Q (.d (.tuple xs)) e
instance re_tupOf {K : Frag} {ta : TA} {pa : PEnv → (List (List PyData) → PEnv → Prop) → Prop} [ha : RLs K ta pa] : RE K (tCB (rTupOf K) ta) (pTupOf pa) where
  ok := by
    rintro c w env σ Qp Q rfl E p k
    refine ha.ok c w env σ _ _ rfl E p fun vs xss e1 w1 E1 l1 b1 q1 => ?_
    obtain ⟨xs, rfl, q⟩ := q1
    cases b1 with
    | cons b1 b2 =>
    cases b2
    obtain ⟨p1, us1, rfl, d1, s1⟩ := bor_list b1
    exact ⟨p1, us1, rfl, s1 w1 E1.wok E1.le0 (Same.refl _), fun p hp => k _ _ e1 _ ((Res.tup E1 hp d1).pre l1) q⟩
end Pu

namespace L2
open PySem PySem.Spec PyProof.Rows
/-! str(x) of things -/
def told : PyData → Str
  | .str z => z
  | d => d.shown
section
variable {X : Cx}
end
end L2
namespace Pu
open PySem L2 My Prf
def pStr (pa : PDt) (env : PEnv) (Q : SV → PEnv → Prop) : Prop := pa env fun d e => showE d ∧ Q (.d (.str (told d))) e
end Pu

namespace L2
open PySem PySem.Spec PyProof.Rows
/-! reading of things with empty dicts in them -/
mutual
def lay1 : PyData → Bool
  | .list xs => lay1A xs
  | .tuple xs => lay1A xs
  | .dict kvs => kvs.isEmpty
  | .str x => PyData.strOk x
  | _ => true
def lay1A : List PyData → Bool
  | [] => true
  | x :: r => lay1 x && lay1A r
end
section
variable {X : Cx} {pins : List (Addr × Obj)} {σ : St} {H : Hp} {s : Shared}
mutual
theorem Den.reads1 (I : Inv X pins σ H s) (hK : ∃ o, X.base.get? sysModules = some o ∧ o.cls ≠ .type "list") : ∀ {x : V} {d : PyData} {u : Value}, Den X.K H x d → RelV x u → lay1 d = true → ∃ as, Reads s.heap u d as ∧ sysModules ∉ as
  | _, _, u, .non, r, _ => by cases (show u = Value.none from r); exact ⟨_, .none, nofun⟩
  | _, _, u, .bl b, r, _ => by cases (show u = Value.bool b from r); exact ⟨_, .bool b, nofun⟩
  | _, _, u, .int i, r, _ => by obtain ⟨t, q⟩ := (show ∃ t, u = Value.int i t from r); cases q; exact ⟨_, .int i t, nofun⟩
  | _, _, u, .str x, r, _ => by obtain ⟨t, q⟩ := (show ∃ t, u = Value.str x t from r); cases q; exact ⟨_, .str x t, nofun⟩
  | _, _, u, .lst (a := a) h ds, r, cl => by
    cases (show u = Value.ref a from r)
    have ha : sysModules ≠ a := by
      rintro rfl
      obtain ⟨o0, g0, c0⟩ := hK
      have n := (I.bs _ _ g0).2
      rcases h with h | ⟨o, its, n', h1, h2, _⟩
      · unfold Rd at h; simp [n] at h
      · have := I.mod.kin _ _ h1
        rw [g0] at this; cases this; exact c0 h2
    obtain ⟨its, rv, ⟨o, n, h1, h2, _, h3⟩, _⟩ := I.list h
    obtain ⟨as, q, nm⟩ := DenAll.reads1 I hK ds rv cl
    exact ⟨_, .list h1 h2 h3 (by simpa using q), fun z => (List.mem_cons.mp z).elim ha nm⟩
  | _, _, u, .tup (a := a) h ds, r, cl => by
    cases (show u = Value.ref a from r)
    obtain ⟨its, rv, ⟨o, h1, h2, n, h3⟩, _⟩ := I.tuple h
    obtain ⟨as, q, nm⟩ := DenAll.reads1 I hK ds rv cl
    exact ⟨_, .tuple h1 h2 h3 (by simpa using q), nm⟩
  | _, _, u, .dct (a := a) (kvs := kvs) h, r, cl => by
    have hk : kvs = [] := by cases kvs with | nil => rfl | cons => cases (show false = true from cl)
    subst hk
    cases (show u = Value.ref a from r)
    obtain ⟨_, ns, vs, kv, m⟩ := (show ObjOk X.prog X.w H s.heap a (.dK []) from I.hok a _ h)
    have hv : vs = [] := by cases kv; rfl
    subst hv
    obtain ⟨o, n, h1, h2, h3⟩ := dict_empty m
    exact ⟨a :: [] ++ [], .dict h1 h2 h3 .nil .nil, fun z => by simp at z; rw [← z] at ns; simp at ns⟩
theorem DenAll.reads1 (I : Inv X pins σ H s) (hK : ∃ o, X.base.get? sysModules = some o ∧ o.cls ≠ .type "list") : ∀ {xs : List V} {ds : List PyData} {us : List Value}, DenAll X.K H xs ds → Vals xs us → lay1A ds = true → ∃ as, ReadsAll s.heap us ds as ∧ sysModules ∉ as
  | _, _, _, .nil, .nil, _ => ⟨_, .nil, nofun⟩
  | _, d :: ds, _, .cons h t, .cons r rs, cl => by
    have cl' : (lay1 d && lay1A ds) = true := cl
    rw [Bool.and_eq_true] at cl'
    obtain ⟨as, q, n1⟩ := Den.reads1 I hK h r cl'.1
    obtain ⟨bs, q', n2⟩ := DenAll.reads1 I hK t rs cl'.2
    exact ⟨_, .cons q q', fun z => (List.mem_append.mp z).elim n1 n2⟩
end
end
end L2

namespace L2
open PySem PySem.Spec PyProof.Rows
/-! str(x) of things with empty dicts in them -/
def showE1 (d : PyData) : Prop := (lay1 d = true ∧ d.showable = true) ∧ d.depth ≤ 60 ∧ d.shown.length ≤ sizeLine
def rStrD1 (K : PySem.W.Frag) : List V → Hp → VK → Prop := fun xs H Q => ∃ x d, xs = [x] ∧ Den K H x d ∧ showE1 d ∧ Q (.str (told d)) H
section
variable {X : Cx}
theorem call_strD1 (hS : ∃ o, X.K.lookup sysModules = some o ∧ o.cls ≠ .type "list") (hg : X.A.guards = some []) (hu : X.A.units + 64 < cLine) : CallR X (.type "str") (rStrD1 X.K) := by
  intro pins s σ H xs us Q I r h
  obtain ⟨x, d, rfl, hd, ⟨⟨hc, hs⟩, dp, hl⟩, q⟩ := h
  obtain ⟨u, rfl, rx⟩ := vals1 r
  have hK : ∃ o, X.base.get? sysModules = some o ∧ o.cls ≠ .type "list" := by
    obtain ⟨o, e, c⟩ := hS
    exact ⟨o, I.mod.kin _ _ e, c⟩
  have fin : ∀ h' t tk, (∀ b o, s.heap.get? b = some o → h'.get? b = some o) → EP X pins σ Q (.str (told d) t) { s with heap := h', toks := tk } := fun h' t tk hk => ⟨.str _, H, I.kept (t' := tk) hk, ⟨t, rfl⟩, q⟩
  obtain ⟨as, rd, nm⟩ := hd.reads1 I hK rx hc
  cases hd with
  | non => cases (show u = Value.none from rx); exact PySem.P.str_of_none (fin _ _ _ fun _ _ e => e)
  | bl b => cases (show u = Value.bool b from rx); cases b <;> exact PySem.P.str_of_bool (fin _ _ _ fun _ _ e => e)
  | int i =>
    obtain ⟨t, e⟩ := (show ∃ t, u = Value.int i t from rx); cases e
    exact PySem.P.str_of_int (by simpa [PyData.showable] using hs) (fin _ _ _ fun _ _ e => e)
  | str z => obtain ⟨t, e⟩ := (show ∃ t, u = Value.str z t from rx); cases e; exact PySem.P.str_of_str (fin _ _ _ fun _ _ e => e)
  | lst h ds =>
    rename_i a vs xs
    cases (show u = Value.ref a from rx)
    exact str_of_reads rd hs (fun _ => nm) hg (by omega) (fun _ _ e => e) (fun h' t tk hk => fin h' t tk hk) hl
  | tup h ds =>
    rename_i a vs xs
    cases (show u = Value.ref a from rx)
    exact str_of_reads rd hs (fun _ => nm) hg (by omega) (fun _ _ e => e) (fun h' t tk hk => fin h' t tk hk) hl
  | dct h =>
    rename_i a kvs
    cases (show u = Value.ref a from rx)
    exact str_of_reads rd hs (fun _ => nm) hg (by omega) (fun _ _ e => e) (fun h' t tk hk => fin h' t tk hk) hl
theorem call_strD1K {K : PySem.W.Frag} (h : X.K = K) (hS : ∃ o, K.lookup sysModules = some o ∧ o.cls ≠ .type "list") (hg : X.A.guards = some []) (hu : X.A.units + 64 < cLine) : CallR X (.type "str") (rStrD1 K) := by subst h; exact call_strD1 hS hg hu
end
end L2
namespace Pu
open PySem L2 My Prf
def pStr1 (pa : PDt) (env : PEnv) (Q : SV → PEnv → Prop) : Prop := pa env fun d e => showE1 d ∧ Q (.d (.str (told d))) e
instance re_strD1 {K : Frag} {te : TE} {pa : PDt} [ha : RW K te pa] : RE K (tCB (rStrD1 K) (tCons te tNil)) (pStr1 pa) where
  ok := by
    rintro c w env σ Qp Q rfl E p k
    refine ha.ok c w env σ _ _ rfl E p fun v x e1 w1 E1 l1 d1 q1 => ?_
    exact ⟨v, x, rfl, d1.den E1.wok, q1.1, k _ _ e1 w1 ((Res.data E1 (.str _)).pre l1) q1.2⟩
end Pu

namespace L2
open PySem PySem.Spec PyProof.Rows
theorem op_catTK {X : Cx} {K : PySem.W.Frag} (h : X.K = K) : OpR X (binaryOp .Add) (rCatT K) := by subst h; exact op_catT
end L2
namespace Pu
open PySem L2 My Prf
/-! one tuple and another one, both with something in them -/
def pCatT (x y : PyData) (Q : SV → Prop) : Prop := match x, y with
  | .tuple (x :: xs), .tuple (y :: ys) => xs.length + ys.length ≤ 1000 ∧ Q (.d (.tuple (x :: xs ++ y :: ys)))
  | _, _ => False
theorem pCatT_t {x y : PyData} {xs ys : List PyData} {Q : SV → Prop} : pCatT (.tuple (x :: xs)) (.tuple (y :: ys)) Q = (xs.length + ys.length ≤ 1000 ∧ Q (.d (.tuple (x :: xs ++ y :: ys)))) := rfl
instance ro_catT {K : Frag} : RO K (rCatT K) pCatT where
  ok := by
    rintro c w env σ x y dx dy Qp Q rfl E vx vy p k
    unfold pCatT at p
    split at p
    · rename_i a as b bs
      obtain ⟨l, vs, e, h1, h2⟩ := vx.tup E.wok
      obtain ⟨m, us, e', g1, g2⟩ := vy.tup E.wok
      have n1 := h2.len
      have n2 := g2.len
      have z1 : vs ≠ [] := fun z => by rw [z] at n1; cases n1
      have z2 : us ≠ [] := fun z => by rw [z] at n2; cases n2
      have n3 : vs.length + us.length ≤ 1002 := by rw [n1, n2]; simp; omega
      exact ⟨l, m, vs, us, e, e', h1, g1, z1, Nat.le_trans n3 (by decide), fun z => absurd z z2, fun _ q hq => k _ _ _ (Res.tup E hq (h2.app g2)) p.2⟩
    · exact p.elim
end Pu

namespace L2
open PySem PySem.Spec PyProof.Rows
/-! a, b = xs of a list -/
section
variable {prog : Program} {w : World} {A : Around} {E : Value → Shared → Prop}
theorem drawL {I l : Addr} {xs : Array Value} (ne : l ≠ I) : ∀ (n i : Nat) (s : Shared) (Q : List Value → Shared → Prop), s.heap.IsListIter I l i → s.heap.IsList l xs → i + n ≤ xs.size →
    (∀ h', h'.IsListIter I l (i + n) → Heap.SameBut I s.heap h' → Q ((xs.toList.drop i).take n) { s with heap := h' }) → wpAny (model prog w) A (draw (.ref I) n) Q E s
  | 0, i, s, Q, a, _, _, q => wpAny_pure (by have := q s.heap a (Heap.SameBut.refl ..); simpa using this)
  | n + 1, i, s, Q, a, b, le, q => by
    have lt : i < xs.size := by omega
    refine wpAny_bind (wpAny_pyNext_list_item a b (x := xs[i]) (by simp [lt]) fun h1 a1 s1 => ?_)
    refine wpAny_bind (wpAny_holding (drawL ne n (i + 1) _ _ a1 (b.extBut s1.extBut ne) (by omega) fun h2 a2 s2 => ?_))
    refine wpAny_pure ?_
    have e : xs.toList.drop i = xs[i] :: xs.toList.drop (i + 1) := by simp [List.drop_eq_getElem_cons, lt]
    have z := q h2 (by rw [Nat.add_comm n 1, ← Nat.add_assoc]; exact a2) (s1.trans s2)
    rw [e, List.take_succ_cons] at z
    exact z
theorem unpackL {l : Addr} {xs : Array Value} {ts : List (Bool × (Value → Sem Unit))} {s : Shared} {Q : Unit → Shared → Prop} (hh : A.handled = none) (b : s.heap.IsList l xs) (hn : ts.length = xs.size) (hs : ts.findIdx? (·.1) = none)
    (q : ∀ h', Heap.ExtBut s.heap.objs.size s.heap h' → wpAny (model prog w) A (assignInOrder (ts.map (·.2)) xs.toList) Q E { s with heap := h' }) : wpAny (model prog w) A (unpack (.ref l) ts) Q E s := by
  have ne : l ≠ s.heap.objs.size := by obtain ⟨o, ho, _⟩ := b; exact Nat.ne_of_lt (Heap.lt_size ho)
  unfold unpack
  rw [hn, hs]
  refine wpAny_bind (wpAny_holding ?_)
  unfold unpackItems
  refine wpAny_bind ?_
  unfold notIterableAtAll
  refine wpAny_bind (wpAny_specialOf b.typeIs slot_list_iter.lookup (wpAny_pure ?_))
  simp only [Bool.false_eq_true, if_false]
  refine wpAny_bind (wpAny_holding (wpAny_pyIter_list b ?_))
  refine wpAny_bind (wpAny_holding (drawL ne xs.size 0 _ _ ⟨_, Heap.get?_push_size _ rfl, rfl, rfl⟩ (b.push _) (by omega) fun h1 a1 s1 => ?_))
  have e : (xs.toList.drop 0).take xs.size = xs.toList := List.take_of_length_le (Nat.le_of_eq (by simp))
  rw [e, if_neg (by simp)]
  refine wpAny_bind (wpAny_holding (wpAny_pyNext_list_end hh a1 ((b.push _).extBut s1.extBut ne) (by simp) fun h2 x2 => ?_))
  simp only [Option.isSome_none, Bool.false_eq_true, if_false]
  exact wpAny_pure (q h2 fun c o hc z => x2 c o hc (s1.extBut c o hc (Heap.get?_push_of_some _ z)))
end
def gLst (K : PySem.W.Frag) (n : Nat) (t : TGs) : TG := fun v σ H Q => ∃ a xs, v = .ref a ∧ SqL K H a xs ∧ xs.length = n ∧ t xs σ H Q
theorem qpg_lstK {X : Cx} {K : PySem.W.Frag} {pos : Pos} {es : List Expr} {k : Nat} {t : TGs} {n : Nat} (h : X.K = K) (hc : X.calm = true) (hg : QGs X es t)
    (hn : (assignEach es X.env).length = n := by rfl) (hst : (assignEach es X.env).findIdx? (·.1) = none := by rfl) : QG X (.Tuple es k pos) (gLst K n t) := ⟨by
  subst h
  intro pins s σ H v u Q I r hw
  obtain ⟨a, xs, e, hq, hl, hw⟩ := hw
  subst e
  cases r
  obtain ⟨its, rv, ht, hz⟩ := I.list hq
  have hL : s.heap.IsList a its.toArray := by obtain ⟨o, m, h1, h2, _, h3⟩ := ht; exact ⟨o, h1, h2, m, h3⟩
  rw [assign_Tuple]
  refine wpAny_bind (wpAny_standAt (unpackL (I.ok.hd hc) hL (by simp [hn, ← hl, rv.length]) hst fun h' hx => ?_))
  have J : Inv X pins σ H { s with heap := h' } := I.kept (t' := s.toks) fun b o z => hx b o (Nat.ne_of_lt (Heap.lt_size z)) z
  exact hg.out pins _ σ H xs _ Q J (by simpa using rv) hw⟩
end L2
namespace Pu
open PySem L2 My Prf
def qLsU (n : Nat) (pr : List PyData → PEnv → (PEnv → Prop) → Prop) (x : PyData) (env : PEnv) (Q : PEnv → Prop) : Prop := match x with
  | .list xs => xs.length = n ∧ pr xs env Q
  | _ => False
theorem qLsU_l {n : Nat} {pr : List PyData → PEnv → (PEnv → Prop) → Prop} {xs : List PyData} {env : PEnv} {Q : PEnv → Prop} : qLsU n pr (.list xs) env Q = (xs.length = n ∧ pr xs env Q) := rfl
theorem sqL_same {K : Frag} {F H : Hpp} {a : Addr} {vs : List V} (s : Same F H) (h : SqL K F a vs) : SqL K H a vs := by
  rcases h with (h | ⟨o, h⟩) | h
  · exact .inl (.inl (s _ _ h))
  · exact .inl (.inr ⟨o, s _ _ h⟩)
  · exact .inr h
instance rg_lst {K : Frag} {n : Nat} {gs : TGs} {pr : List PyData → PEnv → (PEnv → Prop) → Prop} [hr : RGs K gs pr] : RG K (gLst K n gs) (qLsU n pr) where
  ok := by
    rintro c w env σ v x Qp Q rfl E d p k
    unfold qLsU at p
    split at p
    · obtain ⟨a, vs, e, h1, h2⟩ := d.lstE
      exact ⟨a, vs, e, sqL_same E.wok.sub h1, h2.len.trans p.1, hr.ok c w env σ _ _ _ _ rfl E h2 p.2 k⟩
    · exact p.elim
def pAsgL (pd : PDt) (n : Nat) (pr : List PyData → PEnv → (PEnv → Prop) → Prop) (D : PEnds) (env : PEnv) : Prop := pd env fun x e => qLsU n pr x e D.nx
instance rs_asgL {K : Frag} {te : TE} {pd : PDt} {n : Nat} {gs : TGs} {pr : List PyData → PEnv → (PEnv → Prop) → Prop} [he : RD K te pd] [hr : RGs K gs pr] : RS K (tAsg te (gLst K n gs)) (pAsgL pd n pr) where
  ok := by
    rintro c w env σ Dp D rfl E h p
    refine he.ok c w env σ _ _ rfl E p fun v x e1 w1 E1 l1 d1 q1 => ?_
    exact rg_lst.ok c w1 e1 σ v x _ _ rfl E1 d1 q1 fun e2 σ2 E2 q2 => h.nx e2 σ2 w1 E2 l1.f q2
end Pu

namespace L2
open PySem PySem.W PySem.Spec PyProof.Rows
/-! the top's run over a tree, and what is seen behind it -/
def topRunT (tb : String → Option Builtin) (p : Program) (w : World) (m : Nat) (ann : Option Value) : Nat → SharedT → Thread → Option SharedT
  | 0, _, _ => none
  | n + 1, s, t => match through t with
    | true => some s
    | false => match stepOk m ann t with
      | false => none
      | true => match stepT (denote tb) p w s t with
        | some x => topRunT tb p w m ann n x.1 x.2
        | none => none
theorem topRunT_of {tb : String → Option Builtin} {p : Program} {w : World} {m : Nat} {ann : Option Value} : ∀ (n : Nat) (s r : SharedT) (t : Thread), topRunT tb p w m ann n s t = some r → topRun tb p w m ann n s.abs t = some r.abs
  | 0, _, _, _, h => by cases h
  | n + 1, s, r, t, h => by
    unfold topRunT at h
    unfold topRun
    cases a : through t with
    | true => rw [a] at h; cases h; rfl
    | false =>
      rw [a] at h
      cases b : stepOk m ann t with
      | false => rw [b] at h; cases h
      | true =>
        rw [b] at h
        cases c : stepT (denote tb) p w s t with
        | none => rw [c] at h; cases h
        | some x =>
          rw [c] at h
          rw [stepT_spec (s' := x.1) (t' := x.2) c]
          exact topRunT_of n x.1 r x.2 h
def mkT (os : List Obj) : Nat → Nat → Nat → BT
  | 0, _, _ => .nil
  | k + 1, a, b => match os[b]? with
    | some o => .node o (mkT os k (2 * a) (a + b)) (mkT os k (2 * a) (2 * a + b))
    | none => .nil
noncomputable def boot0 (w : World) (os : OsState) : Shared := ⟨boot_heap w.params, Array.mk [], boot_drawn, boot_toks, os⟩
noncomputable def bootT (w : World) (os : OsState) : SharedT := ⟨mkT (boot_heap w.params).objs.toList 12 1 0, (boot_heap w.params).objs.size, (boot_heap w.params).life, Array.mk [], boot_drawn, boot_toks, os⟩
theorem boot_abs (w : World) (os : OsState) : (bootT w os).abs = boot0 w os := by kernel_rfl
theorem boot_ns (w : World) (os : OsState) : ((boot0 w os).heap.isNs mainGlobals && (boot0 w os).gens.size == 0) = true := by kernel_rfl
theorem leftT {p q : Program} {loose : List Str} {Xt : Shared → Bool} {α : Type} {Yf : Shared → α} {Ya : World → α} {N : Nat} (ho : opening p = plainProg p.main.scope.names) (hN : Nat.ble 600 N = true) (hf : ∀ s, fenceModules? p s = some s)
    (run : ∀ (w : World) (os : OsState), (topRunT treeTable p w (boot_heap w.params).objs.size ((boot_heap w.params).nsMap mainGlobals "__annotations__") N (bootT w os) (topStub p)).map
      (fun x => (staticsOk (importedModules p.main.body) (boot_heap w.params) x.abs.heap && namesBound p x.abs.heap && gensDone x.abs && laidKept (boot_heap w.params) x.abs.heap, openSeen q loose (importedModules p.main.body) Xt true x.abs, Yf x.abs)) = some (true, openGood q loose, Ya w)) :
    LeftO p q loose Xt Yf Ya N := fun w => by
  obtain ⟨⟨h, gs, d, k, os⟩, e, z⟩ := Option.map_eq_some_iff.mp (boot_open ho hN hf w)
  obtain ⟨rfl, rfl, rfl, rfl⟩ : h = boot_heap w.params ∧ gs = Array.mk [] ∧ d = boot_drawn ∧ k = boot_toks := by simpa using z
  obtain ⟨x, r, v⟩ := Option.map_eq_some_iff.mp (run w os)
  have r := topRunT_of _ _ _ _ r
  rw [boot_abs] at r
  obtain ⟨v1, v2⟩ := Prod.mk.inj v
  obtain ⟨v2, v3⟩ := Prod.mk.inj v2
  show ((fencedOpening treeTable p w N).bind (topFrom treeTable p w N)).map _ = _
  rw [e]
  show (topFrom treeTable p w N (boot0 w os)).map _ = _
  have t : topFrom treeTable p w N (boot0 w os) = some x.abs := by
    unfold topFrom
    rw [boot_ns]
    show (topRun treeTable p w (boot_heap w.params).objs.size ((boot_heap w.params).nsMap mainGlobals "__annotations__") N (boot0 w os) (topStub p)).bind _ = _
    rw [r]
    show (match staticsOk (importedModules p.main.body) (boot_heap w.params) x.abs.heap && namesBound p x.abs.heap && gensDone x.abs && laidKept (boot_heap w.params) x.abs.heap with | true => some x.abs | false => none) = _
    rw [v1]
  rw [t]
  show some (openSeen q loose (importedModules p.main.body) Xt true x.abs, Yf x.abs) = _
  rw [v2, v3]
noncomputable abbrev ranT (p : Program) (N : Nat) (w : World) (os : OsState) : Option SharedT := topRunT treeTable p w (boot_heap w.params).objs.size ((boot_heap w.params).nsMap mainGlobals "__annotations__") N (bootT w os) (topStub p)
theorem leftT3 {p q : Program} {loose : List Str} {Xt : Shared → Bool} {α : Type} {Yf : Shared → α} {Ya : World → α} {N : Nat} (ho : opening p = plainProg p.main.scope.names) (hN : Nat.ble 600 N = true) (hf : ∀ s, fenceModules? p s = some s)
    (a : ∀ (w : World) (os : OsState), (ranT p N w os).map (fun x => staticsOk (importedModules p.main.body) (boot_heap w.params) x.abs.heap && namesBound p x.abs.heap && gensDone x.abs && laidKept (boot_heap w.params) x.abs.heap) = some true)
    (b : ∀ (w : World) (os : OsState), (ranT p N w os).map (fun x => openSeen q loose (importedModules p.main.body) Xt true x.abs) = some (openGood q loose))
    (c : ∀ (w : World) (os : OsState), (ranT p N w os).map (fun x => Yf x.abs) = some (Ya w)) : LeftO p q loose Xt Yf Ya N :=
  leftT ho hN hf fun w os => by
    obtain ⟨x, r, e⟩ := Option.map_eq_some_iff.mp (a w os)
    have r' : topRunT treeTable p w (boot_heap w.params).objs.size ((boot_heap w.params).nsMap mainGlobals "__annotations__") N (bootT w os) (topStub p) = some x := r
    have f : openSeen q loose (importedModules p.main.body) Xt true x.abs = openGood q loose := by have z := b w os; rw [r] at z; exact Option.some.inj z
    have g : Yf x.abs = Ya w := by have z := c w os; rw [r] at z; exact Option.some.inj z
    rw [r']
    show some (_, _, _) = _
    rw [e, f, g]
theorem leftT4 {p q : Program} {loose : List Str} {Xt : Shared → Bool} {α : Type} {Yf : Shared → α} {Ya : World → α} {N : Nat} (ho : opening p = plainProg p.main.scope.names) (hN : Nat.ble 600 N = true) (hf : ∀ s, fenceModules? p s = some s)
    (a : ∀ (w : World) (os : OsState), (ranT p N w os).map (fun x => staticsOk (importedModules p.main.body) (boot_heap w.params) x.abs.heap && namesBound p x.abs.heap && gensDone x.abs && laidKept (boot_heap w.params) x.abs.heap) = some true)
    (b : ∀ (w : World) (os : OsState), (ranT p N w os).map (fun x => (openSeen q loose (importedModules p.main.body) Xt true x.abs).1) = some (openGood q loose).1)
    (b' : ∀ (w : World) (os : OsState), (ranT p N w os).map (fun x => (openSeen q loose (importedModules p.main.body) Xt true x.abs).2) = some (openGood q loose).2)
    (c : ∀ (w : World) (os : OsState), (ranT p N w os).map (fun x => Yf x.abs) = some (Ya w)) : LeftO p q loose Xt Yf Ya N :=
  leftT3 ho hN hf a (fun w os => by
    obtain ⟨x, r, e⟩ := Option.map_eq_some_iff.mp (b w os)
    have z := b' w os
    rw [r] at z ⊢
    exact congrArg some (Prod.ext e (Option.some.inj z))) c
end L2

set_option synthInstance.maxHeartbeats 0
set_option synthInstance.maxSize 100000
set_option maxHeartbeats 4000000
namespace Prf
open PySem L2 My Pu
local macro_rules | `(tactic| trivial) => `(tactic| try simp only [pSeq, pNext, pBreak, pCont, pNever, pDrop, pRet, pRetV_o, oRetV_d, oRetV_o, oRetV_s, oRetV_t, pRetN, pIf, pAsg, pAsgT, pPar_o, oPar_2, pApp, asOwn_o, pClear, pPopS, pTest, asB_b, pYes, pNot, pAnd, pOr, pNotV, pAndV, pOrV, pIfE, pOp, pI_i, pI0_i, pEqD, pNeD, pIsN, pNotN, isNo_none, isNo_int, isNo_bool, isNo_str, isNo_list, isNo_tup, pIxL_h, pIxT_h, pU_i, pUn, pNil, pCons, pTup, pLst, pCB, pLen_dq, pLen_list, pLen_tup, pAbs_i, pMax_i, pMin_i, pInt_i, pInt_b, pLstOf_l, pLstOf_t, pIsi_o, oKit_s, tyD_int, tyD_bool, tyD_str, tyD_none, tyD_list, tyD_tup, tyD_dcn, pVar_o, oVar_d, oVar_o, oVar_s, pVarV_o, oVarV_d, oVarV_o, oVarV_b, pC, pdat, asD_d, asD_o, pCall_h, pNilA, pConsD, pConsV, pConsS, asL_l, isSt_s, qName, qNil_n, qCons_c, qTup_tup, qTup_dcn, pWhile, pIter, pIterV_o, oIterV_d, oIterV_o, oIterV_b, asSeq_dq, asSeq_list, asSeq_tup, asSeq_dcn, pRng1_o, oRng1_i, pRng2_o, oRng2_i, pFor, pComp_h, pSetComp_h, capEnv, SV.lent, pNoPart, pPart, asI_i, pSlL, pRev, pRngD_o, oRngD_i, pCat_l, pAll_l, pAny_l, pIsit_o, List.map_cons, List.map_nil, List.replicate_succ, List.replicate_zero, List.cons_append, List.nil_append, List.getElem?_cons_zero, List.getElem?_cons_succ, List.set_cons_zero, List.set_cons_succ, List.length_cons, List.length_nil, pGet0, pGet1, pGet2, pGet3, Option.bind_some, Option.bind_none, Option.map_some, Option.map_none, Option.join_some, pIx_dq0, pIx_dq1, lay_int, lay_bool, lay_none, dep_int, dep_bool, dep_str, dep_none, lay_dq, dep_dq, eqv_int, eqv_dq, eqv_noneL, eqv_noneR, isNo_dq, tyD_dq, decide_eq_true_eq, Bool.not_eq_true', decide_eq_false_iff_not, ite_not, true_and, and_true, reduceIte, Nat.zero_le, Nat.reduceAdd, Nat.reduceLeDiff, Nat.reduceSub, Int.zero_add, pIx_dcn0, pIx_dcn1, List.length_map, zero_dq, one_dq, two3_dq, half_dq, eqv_nil, lay_nil, dep_nil, kit_tt, kit_ib, kit_bb, kit_ii, kit_bi, kit_ss, kit_ll, kit_lt, kit_tl, kit_tb, kit_nt, Bool.true_eq_false, Bool.false_eq_true, reduceCtorEq, Bool.not_true, Bool.not_false, decide_true, decide_false, pZip_o, oZip_2, pEnum_o, oEnum_1, pLsN, pLsC, pLstD, pLstV_o, oLstV_d, oLstV_o, oLstV_b, lay_dcn, dep_dcn, eqv_dcn, isNo_dcn, eq_self, pZipS, asZip_list, asZip_tup, eqv_bool, eqv_str, kits_ltB, kits_ltN, kits_ltI, kits_ltS, kits_ltL, kits_ltT, kit_is, kit_bs, kit_ns, pSeqT, pConsT, pNilT, ot_d, ot_o, ot_t, pCallH_h, pVarH_o, oVarH_d, oVarH_o, oVarH_b, oVarH_t, pKid, pClearT, asTr_t, pdatH, asH_d, asH_o, asH_t, pTr, pTrV_o, oTrV_d, oTrV_t, oTrV_b, pConsB, pUnp_o, oUnp_b, oUnp_d, pAsgK_o, oAsgK_b, sv_leaves, qTup_dq, hold_app, pIterK, oIterK_b, pConsM, oMove_d, oMove_o, oMove_t, pKidD, pIn, kit2_ii, kit2_ib, kit2_it, kit2_is, kit2_bi, kit2_bb, kit2_bt, kit2_bs, kit2_ni, kit2_nb, kit2_nt, kit2_ns, kit2_si, kit2_sb, kit2_st, kit2_ss, kit2_li, kit2_lb, kit2_lt, kit2_ls, kit2_ti, kit2_tb, kit2_tt, kit2_ts, kit2_di, kit2_db, kit2_dt, kit2_ds, tyD_dict, asS_s, pIterS, pS, pCatS, pIx2_l, pIx2_t, pIx2_q, pIx2_c, pIx2_s, pLen2_l, pLen2_t, pLen2_q, pLen2_s, pJoin, pSetI, pDict, pChain, pRep, pLstZip, pDict1, pIdx, pRepr, pStep, pTupOf, pStr, pStr1, pCatT_t, pAsgL, qLsU_l])
local macro_rules | `(tactic| nofun) => `(tactic| try simp -implicitDefEqProofs only [pSeq, pNext, pBreak, pCont, pNever, pDrop, pRet, pRetV_o, oRetV_d, oRetV_o, oRetV_s, oRetV_t, pRetN, pIf, pAsg, pAsgT, pPar_o, oPar_2, pApp, asOwn_o, pClear, pPopS, pTest, asB_b, pYes, pNot, pAnd, pOr, pNotV, pAndV, pOrV, pIfE, pOp, pI_i, pI0_i, pEqD, pNeD, pIsN, pNotN, isNo_none, isNo_int, isNo_bool, isNo_str, isNo_list, isNo_tup, pIxL_h, pIxT_h, pU_i, pUn, pNil, pCons, pTup, pLst, pCB, pLen_dq, pLen_list, pLen_tup, pAbs_i, pMax_i, pMin_i, pInt_i, pInt_b, pLstOf_l, pLstOf_t, pIsi_o, oKit_s, tyD_int, tyD_bool, tyD_str, tyD_none, tyD_list, tyD_tup, tyD_dcn, pVar_o, oVar_d, oVar_o, oVar_s, pVarV_o, oVarV_d, oVarV_o, oVarV_b, pC, pdat, asD_d, asD_o, pCall_h, pNilA, pConsD, pConsV, pConsS, asL_l, isSt_s, qName, qNil_n, qCons_c, qTup_tup, qTup_dcn, pWhile, pIter, pIterV_o, oIterV_d, oIterV_o, oIterV_b, asSeq_dq, asSeq_list, asSeq_tup, asSeq_dcn, pRng1_o, oRng1_i, pRng2_o, oRng2_i, pFor, pComp_h, pSetComp_h, capEnv, SV.lent, pNoPart, pPart, asI_i, pSlL, pRev, pRngD_o, oRngD_i, pCat_l, pAll_l, pAny_l, pIsit_o, List.map_cons, List.map_nil, List.replicate_succ, List.replicate_zero, List.cons_append, List.nil_append, List.getElem?_cons_zero, List.getElem?_cons_succ, List.set_cons_zero, List.set_cons_succ, List.length_cons, List.length_nil, pGet0, pGet1, pGet2, pGet3, Option.bind_some, Option.bind_none, Option.map_some, Option.map_none, Option.join_some, pIx_dq0, pIx_dq1, lay_int, lay_bool, lay_none, dep_int, dep_bool, dep_str, dep_none, lay_dq, dep_dq, eqv_int, eqv_dq, eqv_noneL, eqv_noneR, isNo_dq, tyD_dq, decide_eq_true_eq, Bool.not_eq_true', decide_eq_false_iff_not, ite_not, true_and, and_true, reduceIte, Nat.zero_le, Nat.reduceAdd, Nat.reduceLeDiff, Nat.reduceSub, Int.zero_add, pIx_dcn0, pIx_dcn1, List.length_map, zero_dq, one_dq, two3_dq, half_dq, eqv_nil, lay_nil, dep_nil, kit_tt, kit_ib, kit_bb, kit_ii, kit_bi, kit_ss, kit_ll, kit_lt, kit_tl, kit_tb, kit_nt, Bool.true_eq_false, Bool.false_eq_true, reduceCtorEq, Bool.not_true, Bool.not_false, decide_true, decide_false, pZip_o, oZip_2, pEnum_o, oEnum_1, pLsN, pLsC, pLstD, pLstV_o, oLstV_d, oLstV_o, oLstV_b, lay_dcn, dep_dcn, eqv_dcn, isNo_dcn, eq_self, pZipS, asZip_list, asZip_tup, eqv_bool, eqv_str, kits_ltB, kits_ltN, kits_ltI, kits_ltS, kits_ltL, kits_ltT, kit_is, kit_bs, kit_ns, pSeqT, pConsT, pNilT, ot_d, ot_o, ot_t, pCallH_h, pVarH_o, oVarH_d, oVarH_o, oVarH_b, oVarH_t, pKid, pClearT, asTr_t, pdatH, asH_d, asH_o, asH_t, pTr, pTrV_o, oTrV_d, oTrV_t, oTrV_b, pConsB, pUnp_o, oUnp_b, oUnp_d, pAsgK_o, oAsgK_b, sv_leaves, qTup_dq, hold_app, pIterK, oIterK_b, pConsM, oMove_d, oMove_o, oMove_t, pKidD, pIn, kit2_ii, kit2_ib, kit2_it, kit2_is, kit2_bi, kit2_bb, kit2_bt, kit2_bs, kit2_ni, kit2_nb, kit2_nt, kit2_ns, kit2_si, kit2_sb, kit2_st, kit2_ss, kit2_li, kit2_lb, kit2_lt, kit2_ls, kit2_ti, kit2_tb, kit2_tt, kit2_ts, kit2_di, kit2_db, kit2_dt, kit2_ds, tyD_dict, asS_s, pIterS, pS, pCatS, pIx2_l, pIx2_t, pIx2_q, pIx2_c, pIx2_s, pLen2_l, pLen2_t, pLen2_q, pLen2_s, pJoin, pSetI, pDict, pChain, pRep, pLstZip, pDict1, pIdx, pRepr, pStep, pTupOf, pStr, pStr1, pCatT_t, pAsgL, qLsU_l])
set_option genInjectivity false
set_option genSizeOfSpec false
def top (i : Nat) : Stmt := PySem.Challenge.pw_hurryprice_k05_offers_let_by.main.body.getD i (.Pass ⟨0, 0, 0, 0⟩)
abbrev s_iswhole : Stmt := top 4
abbrev s_istupleof : Stmt := top 5
abbrev s_commonpart : Stmt := top 6
abbrev s_isratio : Stmt := top 7
abbrev s_plus : Stmt := top 10
abbrev s_minus : Stmt := top 11
abbrev s_product : Stmt := top 12
abbrev s_parted : Stmt := top 13
abbrev s_isless : Stmt := top 14
abbrev s_isfromnought : Stmt := top 18
abbrev s_iscorner : Stmt := top 19
abbrev s_ratebetween : Stmt := top 20
abbrev s_aredearerinorder : Stmt := top 21
abbrev s_areeversteeper : Stmt := top 22
abbrev s_isoffer : Stmt := top 23
abbrev s_Lbegun : Stmt := top 25
abbrev s_Ltake : Stmt := top 26
abbrev s_Llow : Stmt := top 27
abbrev s_Lplus : Stmt := top 28
abbrev s_Lminus : Stmt := top 29
abbrev s_Ltimes : Stmt := top 30
abbrev s_Lamount : Stmt := top 31
abbrev s_Loffer : Stmt := top 32
abbrev s_Lscaled : Stmt := top 33
abbrev s_Lothers : Stmt := top 34
abbrev s_Lturned : Stmt := top 35
abbrev s_Lraised : Stmt := top 36
abbrev s_Lsix : Stmt := top 37
abbrev s_Ltold : Stmt := top 38
abbrev s_law : Stmt := top 39
structure Adr where
  a_iswhole : Addr
  d_iswhole : FuncData
  a_istupleof : Addr
  d_istupleof : FuncData
  a_commonpart : Addr
  d_commonpart : FuncData
  a_isratio : Addr
  d_isratio : FuncData
  a_plus : Addr
  d_plus : FuncData
  a_minus : Addr
  d_minus : FuncData
  a_product : Addr
  d_product : FuncData
  a_parted : Addr
  d_parted : FuncData
  a_isless : Addr
  d_isless : FuncData
  a_isfromnought : Addr
  d_isfromnought : FuncData
  a_iscorner : Addr
  d_iscorner : FuncData
  a_ratebetween : Addr
  d_ratebetween : FuncData
  a_aredearerinorder : Addr
  d_aredearerinorder : FuncData
  a_areeversteeper : Addr
  d_areeversteeper : FuncData
  a_isoffer : Addr
  d_isoffer : FuncData
  a_Lbegun : Addr
  d_Lbegun : FuncData
  a_Ltake : Addr
  d_Ltake : FuncData
  a_Llow : Addr
  d_Llow : FuncData
  a_Lplus : Addr
  d_Lplus : FuncData
  a_Lminus : Addr
  d_Lminus : FuncData
  a_Ltimes : Addr
  d_Ltimes : FuncData
  a_Lamount : Addr
  d_Lamount : FuncData
  a_Loffer : Addr
  d_Loffer : FuncData
  a_Lscaled : Addr
  d_Lscaled : FuncData
  a_Lothers : Addr
  d_Lothers : FuncData
  a_Lturned : Addr
  d_Lturned : FuncData
  a_Lraised : Addr
  d_Lraised : FuncData
  a_Lsix : Addr
  d_Lsix : FuncData
  a_Ltold : Addr
  d_Ltold : FuncData
  a_law : Addr
  d_law : FuncData
  k_NOUGHT : Addr
  k_KINDS : Addr
structure Txt (K : PySem.W.Frag) (mg : Str → Option Value) (D : Adr) : Prop where
  F_iswhole : Fun K "is_whole" "is_whole" s_iswhole D.a_iswhole D.d_iswhole
  m_iswhole : mg "is_whole" = some (.ref D.a_iswhole)
  F_istupleof : Fun K "is_tuple_of" "is_tuple_of" s_istupleof D.a_istupleof D.d_istupleof
  m_istupleof : mg "is_tuple_of" = some (.ref D.a_istupleof)
  F_commonpart : Fun K "common_part" "common_part" s_commonpart D.a_commonpart D.d_commonpart
  m_commonpart : mg "common_part" = some (.ref D.a_commonpart)
  F_isratio : Fun K "is_ratio" "is_ratio" s_isratio D.a_isratio D.d_isratio
  m_isratio : mg "is_ratio" = some (.ref D.a_isratio)
  F_plus : Fun K "plus" "plus" s_plus D.a_plus D.d_plus
  m_plus : mg "plus" = some (.ref D.a_plus)
  F_minus : Fun K "minus" "minus" s_minus D.a_minus D.d_minus
  m_minus : mg "minus" = some (.ref D.a_minus)
  F_product : Fun K "product" "product" s_product D.a_product D.d_product
  m_product : mg "product" = some (.ref D.a_product)
  F_parted : Fun K "parted" "parted" s_parted D.a_parted D.d_parted
  m_parted : mg "parted" = some (.ref D.a_parted)
  F_isless : Fun K "is_less" "is_less" s_isless D.a_isless D.d_isless
  m_isless : mg "is_less" = some (.ref D.a_isless)
  F_isfromnought : Fun K "is_from_nought" "is_from_nought" s_isfromnought D.a_isfromnought D.d_isfromnought
  m_isfromnought : mg "is_from_nought" = some (.ref D.a_isfromnought)
  F_iscorner : Fun K "is_corner" "is_corner" s_iscorner D.a_iscorner D.d_iscorner
  m_iscorner : mg "is_corner" = some (.ref D.a_iscorner)
  F_ratebetween : Fun K "rate_between" "rate_between" s_ratebetween D.a_ratebetween D.d_ratebetween
  m_ratebetween : mg "rate_between" = some (.ref D.a_ratebetween)
  F_aredearerinorder : Fun K "are_dearer_in_order" "are_dearer_in_order" s_aredearerinorder D.a_aredearerinorder D.d_aredearerinorder
  m_aredearerinorder : mg "are_dearer_in_order" = some (.ref D.a_aredearerinorder)
  F_areeversteeper : Fun K "are_ever_steeper" "are_ever_steeper" s_areeversteeper D.a_areeversteeper D.d_areeversteeper
  m_areeversteeper : mg "are_ever_steeper" = some (.ref D.a_areeversteeper)
  F_isoffer : Fun K "is_offer" "is_offer" s_isoffer D.a_isoffer D.d_isoffer
  m_isoffer : mg "is_offer" = some (.ref D.a_isoffer)
  F_Lbegun : Fun K "_law_begun" "_law_begun" s_Lbegun D.a_Lbegun D.d_Lbegun
  m_Lbegun : mg "_law_begun" = some (.ref D.a_Lbegun)
  F_Ltake : Fun K "_law_take" "_law_take" s_Ltake D.a_Ltake D.d_Ltake
  m_Ltake : mg "_law_take" = some (.ref D.a_Ltake)
  F_Llow : Fun K "_law_low" "_law_low" s_Llow D.a_Llow D.d_Llow
  m_Llow : mg "_law_low" = some (.ref D.a_Llow)
  F_Lplus : Fun K "_law_plus" "_law_plus" s_Lplus D.a_Lplus D.d_Lplus
  m_Lplus : mg "_law_plus" = some (.ref D.a_Lplus)
  F_Lminus : Fun K "_law_minus" "_law_minus" s_Lminus D.a_Lminus D.d_Lminus
  m_Lminus : mg "_law_minus" = some (.ref D.a_Lminus)
  F_Ltimes : Fun K "_law_times" "_law_times" s_Ltimes D.a_Ltimes D.d_Ltimes
  m_Ltimes : mg "_law_times" = some (.ref D.a_Ltimes)
  F_Lamount : Fun K "_law_amount" "_law_amount" s_Lamount D.a_Lamount D.d_Lamount
  m_Lamount : mg "_law_amount" = some (.ref D.a_Lamount)
  F_Loffer : Fun K "_law_offer" "_law_offer" s_Loffer D.a_Loffer D.d_Loffer
  m_Loffer : mg "_law_offer" = some (.ref D.a_Loffer)
  F_Lscaled : Fun K "_law_scaled" "_law_scaled" s_Lscaled D.a_Lscaled D.d_Lscaled
  m_Lscaled : mg "_law_scaled" = some (.ref D.a_Lscaled)
  F_Lothers : Fun K "_law_others" "_law_others" s_Lothers D.a_Lothers D.d_Lothers
  m_Lothers : mg "_law_others" = some (.ref D.a_Lothers)
  F_Lturned : Fun K "_law_turned" "_law_turned" s_Lturned D.a_Lturned D.d_Lturned
  m_Lturned : mg "_law_turned" = some (.ref D.a_Lturned)
  F_Lraised : Fun K "_law_raised" "_law_raised" s_Lraised D.a_Lraised D.d_Lraised
  m_Lraised : mg "_law_raised" = some (.ref D.a_Lraised)
  F_Lsix : Fun K "_law_six" "_law_six" s_Lsix D.a_Lsix D.d_Lsix
  m_Lsix : mg "_law_six" = some (.ref D.a_Lsix)
  F_Ltold : Fun K "_law_told" "_law_told" s_Ltold D.a_Ltold D.d_Ltold
  m_Ltold : mg "_law_told" = some (.ref D.a_Ltold)
  F_law : Fun K "law" "law" s_law D.a_law D.d_law
  m_law : mg "law" = some (.ref D.a_law)
  c_NOUGHT : mg "NOUGHT" = some (.ref D.k_NOUGHT)
  c_KINDS : mg "KINDS" = some (.ref D.k_KINDS)
  z_abs : mg "abs" = none
  z_all : mg "all" = none
  z_bool : mg "bool" = none
  z_int : mg "int" = none
  z_isinstance : mg "isinstance" = none
  z_len : mg "len" = none
  z_list : mg "list" = none
  z_max : mg "max" = none
  z_min : mg "min" = none
  z_range : mg "range" = none
  z_str : mg "str" = none
  z_tuple : mg "tuple" = none
  c2_NOUGHT : Pu.GD K D.k_NOUGHT (dq 0)
  c2_KINDS : Pu.GD K D.k_KINDS (.tuple [.str "straight", .str "steps"])
  ci_MOST_CORNERS : ∃ t, mg "MOST_CORNERS" = some (.int 5 t)
  sysm : ∃ o, K.lookup sysModules = some o ∧ o.cls ≠ .type "list"
abbrev sp_law := spLaw
section
variable {K : PySem.W.Frag} {mg : Str → Option Value} {D : Adr}
theorem sc_iswhole : FnScope ["thing"] ["thing"] (defScope s_iswhole) := ⟨rfl, rfl, rfl, by decide +kernel, rfl, by decide +kernel, by decide +kernel⟩
theorem b_iswhole (T : Txt K mg D) : Binds K D.d_iswhole ["thing"] [] := T.F_iswhole.binds (ps := ["thing"]) fun _ _ _ _ _ _ us hl => by obtain ⟨_, rfl⟩ := us1 hl; rfl
theorem sc_istupleof : FnScope ["thing", "many"] ["thing", "many"] (defScope s_istupleof) := ⟨rfl, rfl, rfl, by decide +kernel, rfl, by decide +kernel, by decide +kernel⟩
theorem b_istupleof (T : Txt K mg D) : Binds K D.d_istupleof ["thing", "many"] [] := T.F_istupleof.binds (ps := ["thing", "many"]) fun _ _ _ _ _ _ us hl => by obtain ⟨_, _, rfl⟩ := us2 hl; rfl
theorem sc_commonpart : FnScope ["one", "other"] ["one", "other"] (defScope s_commonpart) := ⟨rfl, rfl, rfl, by decide +kernel, rfl, by decide +kernel, by decide +kernel⟩
theorem b_commonpart (T : Txt K mg D) : Binds K D.d_commonpart ["one", "other"] [] := T.F_commonpart.binds (ps := ["one", "other"]) fun _ _ _ _ _ _ us hl => by obtain ⟨_, _, rfl⟩ := us2 hl; rfl
theorem sc_isratio : FnScope ["thing", "top", "bottom"] ["thing"] (defScope s_isratio) := ⟨rfl, rfl, rfl, by decide +kernel, rfl, by decide +kernel, by decide +kernel⟩
theorem b_isratio (T : Txt K mg D) : Binds K D.d_isratio ["thing"] [] := T.F_isratio.binds (ps := ["thing"]) fun _ _ _ _ _ _ us hl => by obtain ⟨_, rfl⟩ := us1 hl; rfl
theorem sc_plus : FnScope ["one", "other", "shared", "mine", "theirs", "top", "rest"] ["one", "other"] (defScope s_plus) := ⟨rfl, rfl, rfl, by decide +kernel, rfl, by decide +kernel, by decide +kernel⟩
theorem b_plus (T : Txt K mg D) : Binds K D.d_plus ["one", "other"] [] := T.F_plus.binds (ps := ["one", "other"]) fun _ _ _ _ _ _ us hl => by obtain ⟨_, _, rfl⟩ := us2 hl; rfl
theorem sc_minus : FnScope ["one", "other"] ["one", "other"] (defScope s_minus) := ⟨rfl, rfl, rfl, by decide +kernel, rfl, by decide +kernel, by decide +kernel⟩
theorem b_minus (T : Txt K mg D) : Binds K D.d_minus ["one", "other"] [] := T.F_minus.binds (ps := ["one", "other"]) fun _ _ _ _ _ _ us hl => by obtain ⟨_, _, rfl⟩ := us2 hl; rfl
theorem sc_product : FnScope ["one", "other", "mine", "theirs"] ["one", "other"] (defScope s_product) := ⟨rfl, rfl, rfl, by decide +kernel, rfl, by decide +kernel, by decide +kernel⟩
theorem b_product (T : Txt K mg D) : Binds K D.d_product ["one", "other"] [] := T.F_product.binds (ps := ["one", "other"]) fun _ _ _ _ _ _ us hl => by obtain ⟨_, _, rfl⟩ := us2 hl; rfl
theorem sc_parted : FnScope ["one", "other", "top", "bottom"] ["one", "other"] (defScope s_parted) := ⟨rfl, rfl, rfl, by decide +kernel, rfl, by decide +kernel, by decide +kernel⟩
theorem b_parted (T : Txt K mg D) : Binds K D.d_parted ["one", "other"] [] := T.F_parted.binds (ps := ["one", "other"]) fun _ _ _ _ _ _ us hl => by obtain ⟨_, _, rfl⟩ := us2 hl; rfl
theorem sc_isless : FnScope ["one", "other"] ["one", "other"] (defScope s_isless) := ⟨rfl, rfl, rfl, by decide +kernel, rfl, by decide +kernel, by decide +kernel⟩
theorem b_isless (T : Txt K mg D) : Binds K D.d_isless ["one", "other"] [] := T.F_isless.binds (ps := ["one", "other"]) fun _ _ _ _ _ _ us hl => by obtain ⟨_, _, rfl⟩ := us2 hl; rfl
theorem sc_isfromnought : FnScope ["thing"] ["thing"] (defScope s_isfromnought) := ⟨rfl, rfl, rfl, by decide +kernel, rfl, by decide +kernel, by decide +kernel⟩
theorem b_isfromnought (T : Txt K mg D) : Binds K D.d_isfromnought ["thing"] [] := T.F_isfromnought.binds (ps := ["thing"]) fun _ _ _ _ _ _ us hl => by obtain ⟨_, rfl⟩ := us1 hl; rfl
theorem sc_iscorner : FnScope ["thing"] ["thing"] (defScope s_iscorner) := ⟨rfl, rfl, rfl, by decide +kernel, rfl, by decide +kernel, by decide +kernel⟩
theorem b_iscorner (T : Txt K mg D) : Binds K D.d_iscorner ["thing"] [] := T.F_iscorner.binds (ps := ["thing"]) fun _ _ _ _ _ _ us hl => by obtain ⟨_, rfl⟩ := us1 hl; rfl
theorem sc_ratebetween : FnScope ["longer", "quicker"] ["longer", "quicker"] (defScope s_ratebetween) := ⟨rfl, rfl, rfl, by decide +kernel, rfl, by decide +kernel, by decide +kernel⟩
theorem b_ratebetween (T : Txt K mg D) : Binds K D.d_ratebetween ["longer", "quicker"] [] := T.F_ratebetween.binds (ps := ["longer", "quicker"]) fun _ _ _ _ _ _ us hl => by obtain ⟨_, _, rfl⟩ := us2 hl; rfl
theorem sc_aredearerinorder : FnScope ["corners", "at", "ahead", "corner"] ["corners"] (defScope s_aredearerinorder) := ⟨rfl, rfl, rfl, by decide +kernel, rfl, by decide +kernel, by decide +kernel⟩
theorem b_aredearerinorder (T : Txt K mg D) : Binds K D.d_aredearerinorder ["corners"] [] := T.F_aredearerinorder.binds (ps := ["corners"]) fun _ _ _ _ _ _ us hl => by obtain ⟨_, rfl⟩ := us1 hl; rfl
theorem sc_areeversteeper : FnScope ["corners", "rates"] ["corners"] (defScope s_areeversteeper) := ⟨rfl, rfl, rfl, by decide +kernel, rfl, by decide +kernel, by decide +kernel⟩
theorem b_areeversteeper (T : Txt K mg D) : Binds K D.d_areeversteeper ["corners"] [] := T.F_areeversteeper.binds (ps := ["corners"]) fun _ _ _ _ _ _ us hl => by obtain ⟨_, rfl⟩ := us1 hl; rfl
theorem sc_isoffer : FnScope ["thing", "kind", "corners"] ["thing"] (defScope s_isoffer) := ⟨rfl, rfl, rfl, by decide +kernel, rfl, by decide +kernel, by decide +kernel⟩
theorem b_isoffer (T : Txt K mg D) : Binds K D.d_isoffer ["thing"] [] := T.F_isoffer.binds (ps := ["thing"]) fun _ _ _ _ _ _ us hl => by obtain ⟨_, rfl⟩ := us1 hl; rfl
theorem sc_Lbegun : FnScope ["_law_script", "_law_k", "_law_cell"] ["_law_script", "_law_k"] (defScope s_Lbegun) := ⟨rfl, rfl, rfl, by decide +kernel, rfl, by decide +kernel, by decide +kernel⟩
theorem b_Lbegun (T : Txt K mg D) : Binds K D.d_Lbegun ["_law_script", "_law_k"] [] := T.F_Lbegun.binds (ps := ["_law_script", "_law_k"]) fun _ _ _ _ _ _ us hl => by obtain ⟨_, _, rfl⟩ := us2 hl; rfl
theorem sc_Ltake : FnScope ["_law_state", "_law_many", "_law_digit", "_law_made", "_law_turn"] ["_law_state", "_law_many"] (defScope s_Ltake) := ⟨rfl, rfl, rfl, by decide +kernel, rfl, by decide +kernel, by decide +kernel⟩
theorem b_Ltake (T : Txt K mg D) : Binds K D.d_Ltake ["_law_state", "_law_many"] [] := T.F_Ltake.binds (ps := ["_law_state", "_law_many"]) fun _ _ _ _ _ _ us hl => by obtain ⟨_, _, rfl⟩ := us2 hl; rfl
theorem sc_Llow : FnScope ["_law_top", "_law_bottom", "_law_one", "_law_other"] ["_law_top", "_law_bottom"] (defScope s_Llow) := ⟨rfl, rfl, rfl, by decide +kernel, rfl, by decide +kernel, by decide +kernel⟩
theorem b_Llow (T : Txt K mg D) : Binds K D.d_Llow ["_law_top", "_law_bottom"] [] := T.F_Llow.binds (ps := ["_law_top", "_law_bottom"]) fun _ _ _ _ _ _ us hl => by obtain ⟨_, _, rfl⟩ := us2 hl; rfl
theorem sc_Lplus : FnScope ["_law_one", "_law_other"] ["_law_one", "_law_other"] (defScope s_Lplus) := ⟨rfl, rfl, rfl, by decide +kernel, rfl, by decide +kernel, by decide +kernel⟩
theorem b_Lplus (T : Txt K mg D) : Binds K D.d_Lplus ["_law_one", "_law_other"] [] := T.F_Lplus.binds (ps := ["_law_one", "_law_other"]) fun _ _ _ _ _ _ us hl => by obtain ⟨_, _, rfl⟩ := us2 hl; rfl
theorem sc_Lminus : FnScope ["_law_one", "_law_other"] ["_law_one", "_law_other"] (defScope s_Lminus) := ⟨rfl, rfl, rfl, by decide +kernel, rfl, by decide +kernel, by decide +kernel⟩
theorem b_Lminus (T : Txt K mg D) : Binds K D.d_Lminus ["_law_one", "_law_other"] [] := T.F_Lminus.binds (ps := ["_law_one", "_law_other"]) fun _ _ _ _ _ _ us hl => by obtain ⟨_, _, rfl⟩ := us2 hl; rfl
theorem sc_Ltimes : FnScope ["_law_one", "_law_other"] ["_law_one", "_law_other"] (defScope s_Ltimes) := ⟨rfl, rfl, rfl, by decide +kernel, rfl, by decide +kernel, by decide +kernel⟩
theorem b_Ltimes (T : Txt K mg D) : Binds K D.d_Ltimes ["_law_one", "_law_other"] [] := T.F_Ltimes.binds (ps := ["_law_one", "_law_other"]) fun _ _ _ _ _ _ us hl => by obtain ⟨_, _, rfl⟩ := us2 hl; rfl
theorem sc_Lamount : FnScope ["_law_state", "_law_plain", "_law_least", "_law_way", "_law_bottom"] ["_law_state", "_law_plain", "_law_least"] (defScope s_Lamount) := ⟨rfl, rfl, rfl, by decide +kernel, rfl, by decide +kernel, by decide +kernel⟩
theorem b_Lamount (T : Txt K mg D) : Binds K D.d_Lamount ["_law_state", "_law_plain", "_law_least"] [] := T.F_Lamount.binds (ps := ["_law_state", "_law_plain", "_law_least"]) fun _ _ _ _ _ _ us hl => by obtain ⟨_, _, _, rfl⟩ := us3 hl; rfl
theorem sc_Loffer : FnScope ["_law_state", "_law_kind", "_law_most", "_law_plain", "_law_many", "_law_time", "_law_price", "_law_gaps", "_law_gap", "_law_corners", "_law_rate", "_law_step"] ["_law_state", "_law_kind", "_law_most", "_law_plain"] (defScope s_Loffer) := ⟨rfl, rfl, rfl, by decide +kernel, rfl, by decide +kernel, by decide +kernel⟩
theorem b_Loffer (T : Txt K mg D) : Binds K D.d_Loffer ["_law_state", "_law_kind", "_law_most", "_law_plain"] [] := T.F_Loffer.binds (ps := ["_law_state", "_law_kind", "_law_most", "_law_plain"]) fun _ _ _ _ _ _ us hl => by obtain ⟨_, _, _, _, rfl⟩ := us4 hl; rfl
theorem sc_Lscaled : FnScope ["_law_state", "_law_offer_here", "_law_span", "_law_cost"] ["_law_state", "_law_offer_here"] (defScope s_Lscaled) := ⟨rfl, rfl, rfl, by decide +kernel, rfl, by decide +kernel, by decide +kernel⟩
theorem b_Lscaled (T : Txt K mg D) : Binds K D.d_Lscaled ["_law_state", "_law_offer_here"] [] := T.F_Lscaled.binds (ps := ["_law_state", "_law_offer_here"]) fun _ _ _ _ _ _ us hl => by obtain ⟨_, _, rfl⟩ := us2 hl; rfl
theorem sc_Lothers : FnScope ["_law_state", "_law_offer_here", "_law_kind", "_law_corners", "_law_at", "_law_time", "_law_price", "_law_bad", "_law_odd", "_law_some", "_law_corner"] ["_law_state", "_law_offer_here"] (defScope s_Lothers) := ⟨rfl, rfl, rfl, by decide +kernel, rfl, by decide +kernel, by decide +kernel⟩
theorem b_Lothers (T : Txt K mg D) : Binds K D.d_Lothers ["_law_state", "_law_offer_here"] [] := T.F_Lothers.binds (ps := ["_law_state", "_law_offer_here"]) fun _ _ _ _ _ _ us hl => by obtain ⟨_, _, rfl⟩ := us2 hl; rfl
theorem sc_Lturned : FnScope ["_law_state", "_law_offer_here", "_law_kind", "_law_corners", "_law_at", "_law_one", "_law_other", "_law_some"] ["_law_state", "_law_offer_here"] (defScope s_Lturned) := ⟨rfl, rfl, rfl, by decide +kernel, rfl, by decide +kernel, by decide +kernel⟩
theorem b_Lturned (T : Txt K mg D) : Binds K D.d_Lturned ["_law_state", "_law_offer_here"] [] := T.F_Lturned.binds (ps := ["_law_state", "_law_offer_here"]) fun _ _ _ _ _ _ us hl => by obtain ⟨_, _, rfl⟩ := us2 hl; rfl
theorem sc_Lraised : FnScope ["_law_state", "_law_offer_here", "_law_kind", "_law_corners", "_law_at", "_law_one", "_law_other", "_law_part", "_law_whole", "_law_share", "_law_dearer", "_law_price"] ["_law_state", "_law_offer_here"] (defScope s_Lraised) := ⟨rfl, rfl, rfl, by decide +kernel, rfl, by decide +kernel, by decide +kernel⟩
theorem b_Lraised (T : Txt K mg D) : Binds K D.d_Lraised ["_law_state", "_law_offer_here"] [] := T.F_Lraised.binds (ps := ["_law_state", "_law_offer_here"]) fun _ _ _ _ _ _ us hl => by obtain ⟨_, _, rfl⟩ := us2 hl; rfl
theorem sc_Lsix : FnScope ["_law_offer_here", "_law_kind", "_law_corners", "_law_made", "_law_rate", "_law_time", "_law_price"] ["_law_offer_here"] (defScope s_Lsix) := ⟨rfl, rfl, rfl, by decide +kernel, rfl, by decide +kernel, by decide +kernel⟩
theorem b_Lsix (T : Txt K mg D) : Binds K D.d_Lsix ["_law_offer_here"] [] := T.F_Lsix.binds (ps := ["_law_offer_here"]) fun _ _ _ _ _ _ us hl => by obtain ⟨_, rfl⟩ := us1 hl; rfl
theorem sc_Ltold : FnScope ["_law_thing", "_law_due", "_law_kept", "_law_told_here"] ["_law_thing", "_law_due"] (defScope s_Ltold) := ⟨rfl, rfl, rfl, by decide +kernel, rfl, by decide +kernel, by decide +kernel⟩
theorem b_Ltold (T : Txt K mg D) : Binds K D.d_Ltold ["_law_thing", "_law_due"] [] := T.F_Ltold.binds (ps := ["_law_thing", "_law_due"]) fun _ _ _ _ _ _ us hl => by obtain ⟨_, _, rfl⟩ := us2 hl; rfl
theorem sc_law : FnScope ["_law_script", "_law_at", "_law_state", "_law_offer_here", "_law_some", "_law_thing"] ["_law_script"] (defScope s_law) := ⟨rfl, rfl, rfl, by decide +kernel, rfl, by decide +kernel, by decide +kernel⟩
theorem b_law (T : Txt K mg D) : Binds K D.d_law ["_law_script"] [] := T.F_law.binds (ps := ["_law_script"]) fun _ _ _ _ _ _ us hl => by obtain ⟨_, rfl⟩ := us1 hl; rfl
end

theorem lay_sp : (PyData.str "steps").canLay0 = true := by decide +kernel
theorem lay_st : (PyData.str "straight").canLay0 = true := by decide +kernel
theorem eqv_pp : PyData.eqv (.str "steps") (.str "steps") = true := by decide +kernel
theorem eqv_tt : PyData.eqv (.str "straight") (.str "straight") = true := by decide +kernel
theorem eqv_pt : PyData.eqv (.str "steps") (.str "straight") = false := by decide +kernel
theorem eqv_tp : PyData.eqv (.str "straight") (.str "steps") = false := by decide +kernel
def offD (kd : Str) (cs : List (Rat × Rat)) : PyData := .tuple [.str kd, .list (cs.map dcn)]
def Kd (kd : Str) : Prop := kd = "straight" ∨ kd = "steps"
theorem Kd.lay {kd : Str} (h : Kd kd) : (PyData.str kd).canLay0 = true := by rcases h with rfl | rfl; exact lay_st; exact lay_sp
def steep (c d : Rat × Rat) : Rat := (d.2 - c.2) / (c.1 - d.1)
theorem sv_str {s : Str} : OT.sv (.leaf (.str s)) = .d (.str s) := rfl
theorem sv_list {xs : List PyData} : OT.sv (.leaf (.list xs)) = .bor xs := rfl
theorem lays_cs (cs : List (Rat × Rat)) : PyData.canLayAll0 (cs.map dcn) = true := dcs_lay cs
def CvI (l : List (Rat × Rat)) : Prop := ∀ (i : Nat) a b c, l[i]? = some a → l[i + 1]? = some b → l[i + 2]? = some c → steep a b < steep b c
def Ltt (l : List (Rat × Rat)) : Prop := l.Pairwise fun a b => b.1 < a.1
theorem Dec_ltt : ∀ {l : List (Rat × Rat)}, Dec l → Ltt l
  | [], _ => .nil
  | _ :: _, h => .cons (fun d hd => h.lt d hd) (Dec_ltt h.tail)
theorem steep_mul {a b : Rat × Rat} (h : b.1 < a.1) : steep a b * (a.1 - b.1) = b.2 - a.2 := by unfold steep; exact Rat.div_mul_cancel (by grind)
theorem CvI.push {l : List (Rat × Rat)} {c : Rat × Rat} (H : CvI l) (h : ∀ A a b, l = A ++ [a, b] → steep a b < steep b c) : CvI (l ++ [c]) := by
  intro j x y z h1 h2 h3
  have hl : j + 2 < l.length + 1 := by have := (List.getElem?_eq_some_iff.mp h3).1; simpa using this
  rcases (show j + 2 < l.length ∨ j + 2 = l.length by omega) with q | q
  · rw [List.getElem?_append_left (by omega)] at h1 h2 h3
    exact H j x y z h1 h2 h3
  · rw [List.getElem?_append_left (by omega)] at h1 h2
    rw [List.getElem?_append_right (by omega), q, Nat.sub_self] at h3
    cases h3
    refine h (l.take j) x y ?_
    have e1 : l.drop j = [x, y] := by
      refine List.ext_getElem? fun k => ?_
      rw [List.getElem?_drop]
      match k with
      | 0 => simpa using h1
      | 1 => simpa using h2
      | k + 2 => simp; omega
    rw [← e1, List.take_append_drop]
def CvR (l : List (Rat × Rat)) (R : Rat) : Prop := CvI l ∧ ∀ A a b, l = A ++ [a, b] → steep a b = R
theorem CvR.one (c : Rat × Rat) : CvR [c] 0 := by
  refine ⟨fun i a b d h1 h2 h3 => ?_, fun A a b e => ?_⟩
  · have := (List.getElem?_eq_some_iff.mp h3).1; simp at this
  · have := congrArg List.length e; simp at this
theorem CvR.step {cs : List (Rat × Rat)} {T P R q v v2 : Rat} (q0 : 0 < q) (v0 : 0 < v) (hv : v2 = (R + v) * q) (h : CvR (cs ++ [(T, P)]) R) : CvR (cs ++ [(T, P)] ++ [(T - q, P + v2)]) (R + v) := by
  have es : steep (T, P) (T - q, P + v2) = R + v := by
    have e := steep_mul (a := (T, P)) (b := (T - q, P + v2)) (by show T - q < T; grind)
    have e' : steep (T, P) (T - q, P + v2) * q = (R + v) * q := by
      rw [← hv]
      have : steep (T, P) (T - q, P + v2) * (T - (T - q)) = P + v2 - P := e
      grind
    have hq : q ≠ 0 := by grind
    rw [← Rat.mul_div_cancel (b := q) hq (a := steep (T, P) (T - q, P + v2)), e', Rat.mul_div_cancel hq]
  refine ⟨h.1.push fun A a b e => ?_, fun A a b e => ?_⟩
  · have hb : b = (T, P) := by
      have e' : cs ++ [(T, P)] = (A ++ [a]) ++ [b] := by rw [e]; simp
      have := (List.append_inj' e' rfl).2
      cases this; rfl
    have := h.2 A a b e
    rw [this, hb, es]; grind
  · have e' : cs ++ [(T, P), (T - q, P + v2)] = A ++ [a, b] := by rw [← e]; simp
    have := (List.append_inj' e' rfl).2
    cases this; exact es
theorem CvI.scale {l : List (Rat × Rat)} {s k : Rat} (hs : 0 < s) (hk : 0 < k) (d : Ltt l) (h : CvI l) : CvI (l.map fun c => (c.1 * s, c.2 * k)) := by
  have hh : ∀ {a b : Rat × Rat}, b.1 < a.1 → steep (a.1 * s, a.2 * k) (b.1 * s, b.2 * k) * s = steep a b * k := by
    intro a b hb
    have m := Rat.mul_pos (show 0 < a.1 - b.1 by grind) hs
    have e1 := steep_mul (a := (a.1 * s, a.2 * k)) (b := (b.1 * s, b.2 * k)) (by show b.1 * s < a.1 * s; grind)
    have e2 := steep_mul hb
    have e1' : steep (a.1 * s, a.2 * k) (b.1 * s, b.2 * k) * (a.1 * s - b.1 * s) = b.2 * k - a.2 * k := e1
    generalize steep (a.1 * s, a.2 * k) (b.1 * s, b.2 * k) = z at *
    have hn : a.1 - b.1 ≠ 0 := by grind
    have e3 : (z * s) * (a.1 - b.1) = (steep a b * k) * (a.1 - b.1) := by grind
    rw [← Rat.mul_div_cancel (b := a.1 - b.1) hn (a := z * s), e3, Rat.mul_div_cancel hn]
  intro i a b c h1 h2 h3
  rw [List.getElem?_map] at h1 h2 h3
  cases x1 : l[i]? with
  | none => rw [x1] at h1; cases h1
  | some a' => cases x2 : l[i + 1]? with
    | none => rw [x2] at h2; cases h2
    | some b' => cases x3 : l[i + 2]? with
      | none => rw [x3] at h3; cases h3
      | some c' =>
        rw [x1] at h1; rw [x2] at h2; rw [x3] at h3
        cases h1; cases h2; cases h3
        have lt1 : b'.1 < a'.1 := List.pairwise_iff_getElem.mp d i (i + 1) (List.getElem?_eq_some_iff.mp x1).1 (List.getElem?_eq_some_iff.mp x2).1 (by omega) |> fun z => by
          rw [(List.getElem?_eq_some_iff.mp x1).2, (List.getElem?_eq_some_iff.mp x2).2] at z; exact z
        have lt2 : c'.1 < b'.1 := List.pairwise_iff_getElem.mp d (i + 1) (i + 2) (List.getElem?_eq_some_iff.mp x2).1 (List.getElem?_eq_some_iff.mp x3).1 (by omega) |> fun z => by
          rw [(List.getElem?_eq_some_iff.mp x2).2, (List.getElem?_eq_some_iff.mp x3).2] at z; exact z
        have g := h i a' b' c' x1 x2 x3
        have g1 := hh lt1
        have g2 := hh lt2
        have g3 := Rat.mul_pos (show 0 < steep b' c' - steep a' b' by grind) hk
        refine Rat.not_le.mp fun z => ?_
        have g4 := Rat.mul_nonneg (show 0 ≤ steep (a'.1 * s, a'.2 * k) (b'.1 * s, b'.2 * k) - steep (b'.1 * s, b'.2 * k) (c'.1 * s, c'.2 * k) by grind) (Rat.le_of_lt hs)
        grind
theorem cut_to {α : Type} {f : α → PyData} {xs : List α} {n : Nat} (h : n ≤ xs.length) : cutD (xs.map f) none (some (n : Int)) = (xs.take n).map f := by
  unfold cutD
  rw [HT.sIx_none, show HT.sIx (xs.map f).length (xs.map f).length (some (n : Int)) = min n xs.length by rw [List.length_map]; exact HT.sIx_nat _ _ n, List.map_take]
  rw [Nat.min_eq_left h]; simp
theorem cut_fr {α : Type} {f : α → PyData} {xs : List α} {n : Nat} (h : n ≤ xs.length) : cutD (xs.map f) (some (n : Int)) none = (xs.drop n).map f := by
  unfold cutD
  rw [HT.sIx_none, show HT.sIx (xs.map f).length 0 (some (n : Int)) = min n xs.length by rw [List.length_map]; exact HT.sIx_nat _ _ n, List.map_drop, Nat.min_eq_left h, List.length_map]
  rw [List.take_of_length_le (by simp)]
theorem of_lay {kd : Str} (cs : List (Rat × Rat)) (h : (PyData.str kd).canLay0 = true) : (PyData.tuple [.str kd, .list (cs.map dcn)]).canLay0 = true := by
  show ((PyData.str kd).canLay0 && (PyData.canLayAll0 (cs.map dcn) && true)) = true
  rw [h, dcs_lay]; rfl
theorem of_depth {kd : Str} (cs : List (Rat × Rat)) : (PyData.tuple [.str kd, .list (cs.map dcn)]).depth ≤ 60 := by
  show max 0 (max (PyData.depthAll (cs.map dcn) + 1) 0) + 1 ≤ 60
  have := dcs_depth cs
  omega
theorem kd_ne : ("steps" : Str) ≠ "straight" := by decide +kernel
theorem Dec_of : ∀ {l : List (Rat × Rat)}, Ltt l → Dec l
  | [], _ => True.intro
  | [_], _ => True.intro
  | _ :: d :: _, .cons h t => ⟨h d (by simp), Dec_of t⟩
theorem Ltt.at {l : List (Rat × Rat)} (d : Ltt l) {i : Nat} {a b : Rat × Rat} (h1 : l[i]? = some a) (h2 : l[i + 1]? = some b) : b.1 < a.1 := by
  have z := List.pairwise_iff_getElem.mp d i (i + 1) (List.getElem?_eq_some_iff.mp h1).1 (List.getElem?_eq_some_iff.mp h2).1 (by omega)
  rw [(List.getElem?_eq_some_iff.mp h1).2, (List.getElem?_eq_some_iff.mp h2).2] at z; exact z
def isW : PyData → Bool
  | .int _ => true
  | _ => false
def isT (n : Int) : PyData → Bool
  | .tuple xs => decide ((xs.length : Int) = n)
  | _ => false
def isR : PyData → Bool
  | .tuple [.int a, .int b] => decide (1 ≤ b) && decide (((Int.gcd a b : Nat) : Int) = 1)
  | _ => false
theorem bls_map {α : Type} (f : α → Bool) : ∀ xs : List α, blsD (xs.map fun x => .bool (f x)) = some (xs.map f)
  | [] => rfl
  | x :: r => by
    show (blsD (r.map fun x => .bool (f x))).map (f x :: ·) = _
    rw [bls_map f r]; rfl
theorem smr0 : SmR 1 1 0 := ⟨by unfold Sm; decide, by unfold Sm; decide⟩
theorem smq0 : SmQ 3900 0 := ⟨smr0.1.mono (by decide), smr0.2.mono (by decide)⟩
/-- the fraction that a thing is -/
def ratOf : PyData → Option Rat
  | .tuple [.int a, .int b] => if 1 ≤ b ∧ Int.gcd a b = 1 then some (Rat.divInt a b) else none
  | _ => none
theorem ratOf_dq {x : PyData} {q : Rat} (h : ratOf x = some q) : x = dq q := by
  unfold ratOf at h
  split at h
  · rename_i a b
    split at h
    · rename_i hc
      cases h
      have hb : b ≠ 0 := by omega
      have e1 := low_num (t := a) hb
      have e2 := low_den (t := a) hb
      have hs : sh a b = 1 := by unfold sh; rw [if_neg (by omega), hc.2]; rfl
      rw [hs, Int.fdiv_one] at e1 e2
      unfold dq
      rw [← e1, ← e2]
    · cases h
  · cases h
theorem ratOf_of (q : Rat) : ratOf (dq q) = some q := by
  have h1 := q.den_pos
  have h2 : Int.gcd q.num (q.den : Int) = 1 := q.reduced
  show (if 1 ≤ (q.den : Int) ∧ Int.gcd q.num (q.den : Int) = 1 then some (Rat.divInt q.num (q.den : Int)) else none) = some q
  rw [if_pos ⟨by omega, h2⟩, Rat.num_divInt_den]
theorem isR_iff (x : PyData) : isR x = (ratOf x).isSome := by
  unfold isR ratOf
  split
  · rename_i a b
    have e : (((Int.gcd a b : Nat) : Int) = 1) ↔ Int.gcd a b = 1 := by omega
    by_cases h1 : 1 ≤ b <;> by_cases h2 : Int.gcd a b = 1 <;> simp [h1, h2, e]
  · rename_i hn
    first
      | rfl
      | (split
         · rename_i a b; exact absurd rfl (hn a b)
         · rfl)
/-- from nought on -/
def nnOf (x : PyData) : Option Rat := (ratOf x).filter fun q => decide (0 ≤ q)
def bdOf : PyData → Option (Rat × Rat)
  | .tuple [a, b] => match nnOf a, nnOf b with
    | some p, some q => some (p, q)
    | _, _ => none
  | _ => none
/-- small enough to be looked at -/
def SmX (x : PyData) : Prop := ∀ a b, x = .tuple [.int a, .int b] → Sm 1000 a ∧ Sm 1000 b
theorem SmX.q {x : PyData} {q : Rat} (h : SmX x) (e : ratOf x = some q) : SmR 1000 1000 q := by
  have := ratOf_dq e
  subst this
  exact h _ _ rfl
theorem nn_some {x : PyData} {q : Rat} (h : nnOf x = some q) : ratOf x = some q ∧ 0 ≤ q := by
  unfold nnOf at h
  obtain ⟨h1, h2⟩ := Option.filter_eq_some_iff.mp h
  exact ⟨h1, by simpa using h2⟩
theorem num_lt {q : Rat} : q.num < 0 ↔ q < 0 := by
  rw [← Rat.not_le, ← Rat.num_nonneg]; omega
theorem num_ps {q : Rat} (h : 0 < q) : 0 < q.num := by
  have h3 := Rat.num_nonneg.mpr (Rat.le_of_lt h)
  have h4 : q.num ≠ 0 := fun z => by rw [Rat.num_eq_zero.mp z] at h; exact absurd h (by decide)
  omega
theorem nn_neg {q : Rat} (h : q < 0) : nnOf (dq q) = none := by
  unfold nnOf; rw [ratOf_of]; simp [Option.filter, Rat.not_le.mpr h]
theorem nn_pos {q : Rat} (h : 0 ≤ q) : nnOf (dq q) = some q := by
  unfold nnOf; rw [ratOf_of]; simp [Option.filter, h]
theorem bd_tup {a b : PyData} : bdOf (.tuple [a, b]) = match nnOf a, nnOf b with | some p, some q => some (p, q) | _, _ => none := rfl
theorem bd_some {x : PyData} {c : Rat × Rat} (h : bdOf x = some c) : x = dcn c ∧ 0 ≤ c.1 ∧ 0 ≤ c.2 := by
  unfold bdOf at h
  split at h
  · rename_i a b
    split at h
    · rename_i p q e1 e2
      cases h
      obtain ⟨h1, h2⟩ := nn_some e1
      obtain ⟨h3, h4⟩ := nn_some e2
      exact ⟨by rw [ratOf_dq h1, ratOf_dq h3]; rfl, h2, h4⟩
    · cases h
  · cases h
theorem bd_of {c : Rat × Rat} (h1 : 0 ≤ c.1) (h2 : 0 ≤ c.2) : bdOf (dcn c) = some c := by
  show (match nnOf (dq c.1), nnOf (dq c.2) with | some p, some q => some (p, q) | _, _ => none) = some c
  have e : ∀ q : Rat, 0 ≤ q → nnOf (dq q) = some q := fun q h => by unfold nnOf; rw [ratOf_of]; simp [Option.filter, h]
  rw [e _ h1, e _ h2]
/-- small enough, a bend or not -/
def SmX2 (x : PyData) : Prop := ∀ a b, x = .tuple [.int a, .int b] → Sm 200 a ∧ Sm 200 b
theorem SmX2.q {x : PyData} {q : Rat} (h : SmX2 x) (e : ratOf x = some q) : SmR 200 200 q := by
  have := ratOf_dq e
  subst this
  exact h _ _ rfl
theorem SmX2.up {x : PyData} (h : SmX2 x) : SmX x := fun a b e => ⟨(h a b e).1.mono (by decide), (h a b e).2.mono (by decide)⟩
def SmB (x : PyData) : Prop := ∀ a b, x = .tuple [a, b] → SmX2 a ∧ SmX b
theorem SmB.sm {c : Rat × Rat} (h : SmB (dcn c)) : SmR 200 200 c.1 ∧ SmR 1000 1000 c.2 := by
  obtain ⟨h1, h2⟩ := h _ _ rfl
  exact ⟨h1.q (ratOf_of _), h2.q (ratOf_of _)⟩
theorem bds_map : ∀ {ds : List PyData}, (∀ d ∈ ds, (bdOf d).isSome = true) → ds = (ds.filterMap bdOf).map dcn
  | [], _ => rfl
  | d :: r, h => by
    have ih := bds_map fun x hx => h x (List.mem_cons_of_mem _ hx)
    cases e : bdOf d with
    | none => have := h d List.mem_cons_self; rw [e] at this; cases this
    | some c => rw [List.filterMap_cons_some e, List.map_cons, ← ih, ← (bd_some e).1]
theorem bds_of : ∀ {cs : List (Rat × Rat)}, (∀ c ∈ cs, 0 ≤ c.1 ∧ 0 ≤ c.2) → (cs.map dcn).filterMap bdOf = cs
  | [], _ => rfl
  | c :: r, h => by
    have h1 := h c List.mem_cons_self
    rw [List.map_cons, List.filterMap_cons_some (bd_of h1.1 h1.2), bds_of fun x hx => h x (List.mem_cons_of_mem _ hx)]
/-- times fall and prices rise -/
def RiseO (cs : List (Rat × Rat)) : Prop := ∀ (i : Nat) c d, cs[i]? = some c → cs[i + 1]? = some d → d.1 < c.1 ∧ c.2 < d.2
theorem RiseO.one (c : Rat × Rat) : RiseO [c] := fun i a b _ h => by rw [List.getElem?_eq_none (by simp)] at h; cases h
theorem RiseO.snoc {cs : List (Rat × Rat)} {c d : Rat × Rat} (h : RiseO (cs ++ [c])) (h1 : d.1 < c.1) (h2 : c.2 < d.2) : RiseO (cs ++ [c] ++ [d]) := fun i a b ha hb => by
  rcases Nat.lt_trichotomy (i + 1) (cs ++ [c]).length with z | z | z
  · rw [List.getElem?_append_left (by omega)] at ha
    rw [List.getElem?_append_left z] at hb
    exact h i a b ha hb
  · rw [List.getElem?_append_left (by omega)] at ha
    rw [z, List.getElem?_append_right (Nat.le_refl _), Nat.sub_self] at hb
    have hi : i = cs.length := by simp at z; exact z
    rw [hi, List.getElem?_append_right (Nat.le_refl _), Nat.sub_self] at ha
    cases ha; cases hb
    exact ⟨h1, h2⟩
  · rw [List.getElem?_eq_none (by simp at z ⊢; omega)] at hb; cases hb
def sumR (qs : List Rat) : Rat := qs.foldr (· + ·) 0
theorem sumR_snoc : ∀ (qs : List Rat) (q : Rat), sumR (qs ++ [q]) = sumR qs + q
  | [], q => by show q + 0 = 0 + q; grind
  | p :: r, q => by
    have h := sumR_snoc r q
    show p + sumR (r ++ [q]) = p + sumR r + q
    rw [h]; grind
theorem sumR_nn : ∀ {qs : List Rat}, (∀ q ∈ qs, 0 < q) → 0 ≤ sumR qs
  | [], _ => Rat.le_refl
  | p :: r, h => by
    have h1 := sumR_nn (qs := r) fun q hq => h q (List.mem_cons_of_mem _ hq)
    have h2 := h p List.mem_cons_self
    show 0 ≤ p + sumR r
    grind
structure OfG (kd : Str) (cs : List (Rat × Rat)) (a b c d : Nat) : Prop where
  ok : OfOk cs a b c d
  nn : ∀ x ∈ cs, 0 ≤ x.1 ∧ 0 ≤ x.2
  up : RiseO cs
  cv : kd = "straight" → CvI cs
theorem RiseO.scale {cs : List (Rat × Rat)} {s k : Rat} (hs : 0 < s) (hk : 0 < k) (h : RiseO cs) : RiseO (cs.map fun c => (c.1 * s, c.2 * k)) := fun i a b ha hb => by
  rw [List.getElem?_map] at ha hb
  obtain ⟨c, hc, rfl⟩ := Option.map_eq_some_iff.mp ha
  obtain ⟨d, hd, rfl⟩ := Option.map_eq_some_iff.mp hb
  obtain ⟨h1, h2⟩ := h i c d hc hd
  exact ⟨Rat.mul_lt_mul_of_pos_right h1 hs, Rat.mul_lt_mul_of_pos_right h2 hk⟩
theorem so_steep {c d : Rat × Rat} (h : d.1 < c.1) (hc : SmR 200 200 c.1 ∧ SmR 1000 1000 c.2) (hd : SmR 200 200 d.1 ∧ SmR 1000 1000 d.2) : SmR 2500 2500 (steep c d) :=
  ((hd.2.sub hc.2).div (hc.1.sub hd.1) (by grind)).mono (by decide) (by decide)

theorem hd {a b : PSt} {D : PEnds} {e : PEnv} (h : ∀ R, R = b → pSeq a R D e) : pSeq a b D e := h b rfl
open Classical in
noncomputable def ofB : PyData → Bool
  | .tuple [.str z, .list ds] => decide (Kd z ∧ (1 ≤ ds.length ∧ ds.length ≤ 5) ∧ (∀ d ∈ ds, (bdOf d).isSome = true) ∧ RiseO (ds.filterMap bdOf) ∧ (z = "steps" ∨ CvI (ds.filterMap bdOf)))
  | _ => false
def OSm (x : PyData) : Prop := ∀ y b, x = .tuple [y, b] → (∀ z, y = .str z → (PyData.str z).canLay0 = true) ∧ ∀ ds, b = .list ds → ds.length ≤ 1000 ∧ ∀ d ∈ ds, SmB d
theorem isT_two {x : PyData} (ht : ¬ isT 2 x = false) : ∃ a b, x = .tuple [a, b] := by
  unfold isT at ht
  split at ht
  · rename_i xs
    match xs with
    | [a, b] => exact ⟨a, b, rfl⟩
    | [] => simp at ht
    | [_] => simp at ht
    | _ :: _ :: _ :: _ => simp at ht; omega
  · exact absurd rfl ht
theorem ofB_no {x : PyData} (h : ∀ z ds, x ≠ .tuple [.str z, .list ds]) : ofB x = false := by
  unfold ofB
  split
  · rename_i z ds; exact absurd rfl (h z ds)
  · rfl
theorem lay_kinds : PyData.canLayAll0 [PyData.str (Str.ofString "straight"), PyData.str (Str.ofString "steps")] = true := by decide +kernel
theorem eqv_strs {a b : Str} : PyData.eqv (.str a) (.str b) = decide (a = b) := by
  rw [Bool.eq_iff_iff, decide_eq_true_eq]
  simp [PyData.eqv]
theorem kinds_yes {z : Str} (h : Kd z) : ¬ ([PyData.str (Str.ofString "straight"), PyData.str (Str.ofString "steps")].any fun z_1 => z_1.eqv (PyData.str z)) = false := by
  rcases h with h | h <;> subst h <;> decide +kernel
theorem kinds_no {z : Str} (h : ¬ Kd z) : ([PyData.str (Str.ofString "straight"), PyData.str (Str.ofString "steps")].any fun z_1 => z_1.eqv (PyData.str z)) = false := by
  rw [List.any_cons, List.any_cons, List.any_nil, eqv_strs, eqv_strs, decide_eq_false (fun e => h (.inl e.symm)), decide_eq_false (fun e => h (.inr e.symm))]; rfl
open Classical in
theorem ofB_f {z : Str} {ds : List PyData} (h : ¬ (Kd z ∧ (1 ≤ ds.length ∧ ds.length ≤ 5) ∧ (∀ d ∈ ds, (bdOf d).isSome = true) ∧ RiseO (ds.filterMap bdOf) ∧ (z = "steps" ∨ CvI (ds.filterMap bdOf)))) : ofB (.tuple [.str z, .list ds]) = false := by
  unfold ofB; exact decide_eq_false h
open Classical in
theorem ofB_t {z : Str} {ds : List PyData} (h : Kd z ∧ (1 ≤ ds.length ∧ ds.length ≤ 5) ∧ (∀ d ∈ ds, (bdOf d).isSome = true) ∧ RiseO (ds.filterMap bdOf) ∧ (z = "steps" ∨ CvI (ds.filterMap bdOf))) : ofB (.tuple [.str z, .list ds]) = true := by
  unfold ofB; exact decide_eq_true h
theorem ofB_kd {z : Str} {b : PyData} (h : ¬ Kd z) : ofB (.tuple [.str z, b]) = false := by
  cases b with
  | list ds => exact ofB_f fun q => h q.1
  | _ => rfl
mutual
def Pl1 : PyData → Bool
  | .none => true
  | .bool _ => true
  | .int i => decide (i.natAbs < 2 ^ 1000)
  | .str z => PyData.strOk z && decide ((PyData.str z).shown.length ≤ 1010) && PyData.strOk (PyData.str z).shown
  | .list xs => Pl1A xs
  | .tuple xs => Pl1A xs
  | .dict kvs => kvs.isEmpty
def Pl1A : List PyData → Bool
  | [] => true
  | x :: r => Pl1 x && Pl1A r
end
mutual
def szD : PyData → Nat
  | .list xs => 4 + szA xs
  | .tuple xs => 4 + szA xs
  | _ => 1010
def szA : List PyData → Nat
  | [] => 0
  | x :: r => szD x + 2 + szA r
end
theorem cat_len (a b : Str) : (a ++ b).length = a.length + b.length := by
  show (a.cps ++ b.cps).size = _
  rw [Array.size_append]; rfl
theorem textFrom_up : ∀ (ts : List Str) (k : Nat) (acc : Str), (textFrom k acc ts).length ≤ acc.length + (ts.map fun t => t.length + 2).sum
  | [], k, acc => by show acc.length ≤ _; omega
  | t :: r, k, acc => by
    have h := textFrom_up r (k + 1) (acc ++ (if k > 0 then ", " else "" : String) ++ t)
    have e : (acc ++ (if k > 0 then ", " else "" : String) ++ t).length ≤ acc.length + (t.length + 2) := by
      rw [cat_len, cat_len]
      have : (Str.ofString (if k > 0 then ", " else "")).length ≤ 2 := by
        split
        · decide +kernel
        · decide +kernel
      omega
    show (textFrom (k + 1) (acc ++ (if k > 0 then ", " else "" : String) ++ t) r).length ≤ _
    rw [List.map_cons, List.sum_cons]
    omega
theorem sok_cat {a b : Str} (h1 : PyData.strOk a = true) (h2 : PyData.strOk b = true) : PyData.strOk (a ++ b) = true := by
  show ((a.cps ++ b.cps).all (· < 0x110000)) = true
  rw [Array.all_append]
  have h1 : a.cps.all (· < 0x110000) = true := h1
  have h2 : b.cps.all (· < 0x110000) = true := h2
  rw [h1, h2]; rfl
theorem sok_of (z : String) : PyData.strOk (Str.ofString z) = true := by
  rw [Str.ofString_eq_toList]
  show ((z.toList.map Char.toNat).toArray.all (· < 0x110000)) = true
  rw [Array.all_eq_true_iff_forall_mem]
  intro c hc
  obtain ⟨x, _, rfl⟩ := List.mem_map.mp (List.mem_toArray.mp hc)
  have : x.toNat.isValidChar := x.valid
  unfold Nat.isValidChar at this
  exact decide_eq_true (by omega)
theorem sok_join {z : Str} (hz : PyData.strOk z = true) : ∀ ts : List Str, (∀ t ∈ ts, PyData.strOk t = true) → PyData.strOk (z.join ts) = true
  | [], _ => by rw [Str.join]; decide +kernel
  | [t], h => by rw [Str.join]; exact h t List.mem_cons_self
  | t :: u :: r, h => sok_cat (sok_cat (h t List.mem_cons_self) hz) (sok_join hz (u :: r) fun x hx => h x (List.mem_cons_of_mem _ hx))
theorem sok_from : ∀ (ts : List Str) (k : Nat) (acc : Str), PyData.strOk acc = true → (∀ t ∈ ts, PyData.strOk t = true) → PyData.strOk (textFrom k acc ts) = true
  | [], _, _, h, _ => h
  | t :: r, k, acc, h, ht => sok_from r (k + 1) _ (sok_cat (sok_cat h (sok_of _)) (ht t List.mem_cons_self)) fun x hx => ht x (List.mem_cons_of_mem _ hx)
mutual
theorem pl1_all : ∀ d : PyData, Pl1 d = true → (lay1 d = true ∧ d.showable = true) ∧ d.shown.length ≤ szD d ∧ PyData.strOk d.shown = true
  | .none, _ => ⟨⟨rfl, rfl⟩, by decide +kernel, by decide +kernel⟩
  | .bool b, _ => ⟨⟨rfl, rfl⟩, by cases b <;> decide +kernel, by cases b <;> decide +kernel⟩
  | .int i, h => by
    have h : i.natAbs < 2 ^ 1000 := by simpa [Pl1] using h
    have hl : i.natAbs.log2 < 1000 := by
      by_cases z : i.natAbs = 0
      · rw [z]; decide
      · exact (Nat.log2_lt z).mpr h
    refine ⟨⟨rfl, by simp [PyData.showable]; omega⟩, ?_, sok_of (toString i)⟩
    have := int_text_length_le (a := i) (k := 1000) (by decide) hl
    show (Str.ofString (toString i)).length ≤ 1010
    rw [ofString_length]; omega
  | .str z, h => by
    have h : (PyData.strOk z && decide ((PyData.str z).shown.length ≤ 1010) && PyData.strOk (PyData.str z).shown) = true := h
    rw [Bool.and_eq_true, Bool.and_eq_true] at h
    exact ⟨⟨h.1.1, rfl⟩, of_decide_eq_true h.1.2, h.2⟩
  | .dict [], h => ⟨⟨rfl, rfl⟩, by decide +kernel, by decide +kernel⟩
  | .dict (_ :: _), h => by cases (show false = true from h)
  | .list xs, h => by
    obtain ⟨⟨h1, h2⟩, h3, h4⟩ := pl1A_all xs (by simpa [Pl1] using h)
    refine ⟨⟨h1, h2⟩, ?_, ?_⟩
    · show (textFrom 0 "[" (PyData.shownAll xs) ++ "]").length ≤ 4 + szA xs
      rw [cat_len]
      have := textFrom_up (PyData.shownAll xs) 0 "["
      have e1 : (Str.ofString "[").length = 1 := by decide +kernel
      have e2 : (Str.ofString "]").length = 1 := by decide +kernel
      omega
    · exact sok_cat (sok_from _ 0 _ (sok_of "[") h4) (sok_of "]")
  | .tuple xs, h => by
    obtain ⟨⟨h1, h2⟩, h3, h4⟩ := pl1A_all xs (by simpa [Pl1] using h)
    refine ⟨⟨h1, h2⟩, ?_, ?_⟩
    · show (("(" : Str) ++ Str.join ", " (PyData.shownAll xs) ++ (if (PyData.shownAll xs).length == 1 then ",)" else ")" : String)).length ≤ 4 + szA xs
      rw [cat_len, cat_len]
      have := L2.join_len (sep := Str.ofString ", ") (zs := PyData.shownAll xs)
      have e0 : (Str.ofString ", ").length = 2 := by decide +kernel
      rw [e0] at this
      have e1 : (Str.ofString "(").length = 1 := by decide +kernel
      have e2 : (Str.ofString (if (PyData.shownAll xs).length == 1 then ",)" else ")")).length ≤ 2 := by
        split
        · decide +kernel
        · decide +kernel
      omega
    · exact sok_cat (sok_cat (sok_of "(") (sok_join (sok_of ", ") _ h4)) (sok_of _)
theorem pl1A_all : ∀ xs : List PyData, Pl1A xs = true → (lay1A xs = true ∧ PyData.showableAll xs = true) ∧ ((PyData.shownAll xs).map fun t => t.length + 2).sum ≤ szA xs ∧ ∀ t ∈ PyData.shownAll xs, PyData.strOk t = true
  | [], _ => ⟨⟨rfl, rfl⟩, by decide, fun _ z => by cases z⟩
  | x :: r, h => by
    have h : Pl1 x = true ∧ Pl1A r = true := by simpa [Pl1A] using h
    obtain ⟨⟨a1, a2⟩, a3, a4⟩ := pl1_all x h.1
    obtain ⟨⟨b1, b2⟩, b3, b4⟩ := pl1A_all r h.2
    refine ⟨⟨?_, ?_⟩, ?_, ?_⟩
    · show (lay1 x && lay1A r) = true
      rw [a1, b1]; rfl
    · show (x.showable && PyData.showableAll r) = true
      rw [a2, b2]; rfl
    · show ((x.shown :: PyData.shownAll r).map fun t => t.length + 2).sum ≤ szD x + 2 + szA r
      rw [List.map_cons, List.sum_cons]; omega
    · intro t ht
      rcases List.mem_cons.mp (show t ∈ x.shown :: PyData.shownAll r from ht) with rfl | z
      · exact a4
      · exact b4 t z
end
theorem line_big : 1000000 ≤ sizeLine := by rw [sizeLine_eq]; decide
structure Th (x : PyData) : Prop where
  sm : OSm x
  sh : showE1 x
  so : PyData.strOk (told x) = true
structure El (d : PyData) : Prop where
  pl : Pl1 d = true
  dp : d.depth ≤ 5
  sz : szD d ≤ 7000
  sb : SmB d
theorem el_all : ∀ {ds : List PyData}, (∀ d ∈ ds, El d) → Pl1A ds = true ∧ PyData.depthAll ds ≤ 5 ∧ szA ds ≤ 7002 * ds.length
  | [], _ => ⟨rfl, by decide, by decide⟩
  | d :: r, h => by
    obtain ⟨a1, a2, a3⟩ := el_all fun x hx => h x (List.mem_cons_of_mem _ hx)
    have h1 := h d List.mem_cons_self
    refine ⟨by show (Pl1 d && Pl1A r) = true; rw [h1.pl, a1]; rfl, ?_, ?_⟩
    · show max d.depth (PyData.depthAll r) ≤ 5
      have := h1.dp; omega
    · show szD d + 2 + szA r ≤ 7002 * (r.length + 1)
      have := h1.sz; omega
theorem th_told {x : PyData} (hs : ∀ z, x ≠ .str z) : told x = x.shown := by
  cases x with
  | str z => exact absurd rfl (hs z)
  | _ => rfl
theorem th_of {x : PyData} (sm : OSm x) (hs : ∀ z, x ≠ .str z) (h : Pl1 x = true) (hd : x.depth ≤ 60) (hz : szD x ≤ 1000000) : Th x := by
  obtain ⟨h1, h2, h3⟩ := pl1_all x h
  exact ⟨sm, ⟨h1, hd, Nat.le_trans (Nat.le_trans h2 hz) line_big⟩, by rw [th_told hs]; exact h3⟩
theorem pl_q {q : Rat} (h : SmR 1000 1000 q) : Pl1 (dq q) = true := by
  have h1 : q.num.natAbs < 2 ^ 1000 := h.1
  have h2 : ((q.den : Int)).natAbs < 2 ^ 1000 := h.2
  show (decide (q.num.natAbs < 2 ^ 1000) && (decide (((q.den : Int)).natAbs < 2 ^ 1000) && true)) = true
  rw [decide_eq_true h1, decide_eq_true h2]; rfl
theorem sx_q {q : Rat} (h : SmR 1000 1000 q) : SmX (dq q) := fun a b e => by
  unfold dq at e
  injection e with e
  injection e with e1 e2
  injection e2 with e2 _
  injection e1 with e1
  injection e2 with e2
  subst e1 e2
  exact ⟨h.1, h.2⟩
theorem sx2_q {q : Rat} (h : SmR 200 200 q) : SmX2 (dq q) := fun a b e => by
  unfold dq at e
  injection e with e
  injection e with e1 e2
  injection e2 with e2 _
  injection e1 with e1
  injection e2 with e2
  subst e1 e2
  exact ⟨h.1, h.2⟩
theorem el_dcn {c : Rat × Rat} (h1 : SmR 200 200 c.1) (h2 : SmR 1000 1000 c.2) : El (dcn c) :=
  ⟨by show (Pl1 (dq c.1) && (Pl1 (dq c.2) && true)) = true; rw [pl_q (h1.mono (by decide) (by decide)), pl_q h2]; rfl, Nat.le_of_ble_eq_true rfl, Nat.le_of_ble_eq_true rfl, fun a b e => by
    have e : PyData.tuple [dq c.1, dq c.2] = .tuple [a, b] := e
    injection e with e
    injection e with e1 e2
    injection e2 with e2 _
    subst e1 e2
    exact ⟨sx2_q h1, sx_q h2⟩⟩
theorem th_off {z : Str} {ds : List PyData} (hz : Pl1 (.str z) = true) (h : ∀ d ∈ ds, El d) (hl : ds.length ≤ 40) : Th (.tuple [.str z, .list ds]) := by
  obtain ⟨h1, h2, h3⟩ := el_all h
  have hz1 : (PyData.str z).canLay0 = true := by
    have hz : (PyData.strOk z && decide ((PyData.str z).shown.length ≤ 1010) && PyData.strOk (PyData.str z).shown) = true := hz
    rw [Bool.and_eq_true, Bool.and_eq_true] at hz
    exact hz.1.1
  refine th_of (fun y b e => ?_) (fun z e => by cases e) ?_ ?_ ?_
  · cases e
    exact ⟨fun w e => by cases e; exact hz1, fun ds' e => by cases e; exact ⟨by omega, fun d hd => (h d hd).sb⟩⟩
  · show (Pl1 (.str z) && (Pl1A ds && true)) = true
    rw [hz, h1]; rfl
  · show max 1 (max (PyData.depthAll ds + 1) 0) + 1 ≤ 60
    omega
  · show 4 + (1010 + 2 + (4 + szA ds + 2 + 0)) ≤ 1000000
    omega
theorem pl_kd {z : Str} (h : Kd z) : Pl1 (.str z) = true := by rcases h with h | h <;> subst h <;> decide +kernel
/-- one corner is none -/
theorem of_bad {z : Str} {ds : List PyData} {w : PyData} (hw : w ∈ ds) (h : bdOf w = none) : ofB (.tuple [.str z, .list ds]) = false :=
  ofB_f fun q => by have := q.2.2.1 w hw; rw [h] at this; cases this
/-- two are out of order -/
theorem of_turn {z : Str} {A B : List (Rat × Rat)} {a b : Rat × Rat} (nn : ∀ c ∈ A ++ a :: b :: B, 0 ≤ c.1 ∧ 0 ≤ c.2) (h : ¬ (b.1 < a.1 ∧ a.2 < b.2)) : ofB (.tuple [.str z, .list ((A ++ a :: b :: B).map dcn)]) = false := by
  refine ofB_f fun q => h ?_
  have := q.2.2.2.1
  rw [bds_of nn] at this
  exact this A.length a b (by simp) (by rw [List.getElem?_append_right (by omega)]; simp)
theorem of_long {z : Str} {ds : List PyData} (h : 5 < ds.length) : ofB (.tuple [.str z, .list ds]) = false := ofB_f fun q => by have := q.2.1.2; omega
theorem of_good {kd : Str} {cs : List (Rat × Rat)} {a b c d : Nat} (hk : Kd kd) (h : OfG kd cs a b c d) : ofB (offD kd cs) = true := by
  refine ofB_t ⟨hk, ⟨by rw [List.length_map]; exact h.ok.ne, by rw [List.length_map]; exact h.ok.le⟩, fun x hx => ?_, ?_⟩
  · obtain ⟨y, hy, rfl⟩ := List.mem_map.mp hx
    rw [bd_of (h.nn y hy).1 (h.nn y hy).2]; rfl
  · rw [bds_of h.nn]
    refine ⟨h.up, ?_⟩
    rcases hk with z | z
    · exact .inr (h.cv z)
    · exact .inl z
theorem th_good {kd : Str} {cs : List (Rat × Rat)} {a b c d : Nat} (hk : Kd kd) (h : OfG kd cs a b c d) (ha : a ≤ 200) (hb : b ≤ 200) (hc : c ≤ 1000) (hd : d ≤ 1000) : Th (offD kd cs) :=
  th_off (pl_kd hk) (fun x hx => by
    obtain ⟨y, hy, rfl⟩ := List.mem_map.mp hx
    obtain ⟨s1, s2⟩ := h.ok.sm y hy
    exact el_dcn (s1.mono ha hb) (s2.mono hc hd)) (by rw [List.length_map]; have := h.ok.le; omega)
theorem cut_pre {A R : List (Rat × Rat)} : cutD ((A ++ R).map dcn) none (some (A.length : Int)) = A.map dcn := by
  rw [cut_to (by simp)]; simp
theorem cut_post {A R : List (Rat × Rat)} : cutD ((A ++ R).map dcn) (some (A.length : Int)) none = R.map dcn := by
  rw [cut_fr (by simp)]; simp
theorem cut_post1 {A B : List (Rat × Rat)} {p : Rat × Rat} : cutD ((A ++ p :: B).map dcn) (some ((A.length : Int) + 1)) none = B.map dcn := by
  have := cut_post (A := A ++ [p]) (R := B)
  rw [List.length_append, List.append_assoc] at this
  exact this
theorem cut_post2 {A B : List (Rat × Rat)} {p q : Rat × Rat} : cutD ((A ++ p :: q :: B).map dcn) (some ((A.length : Int) + 2)) none = B.map dcn := by
  have := cut_post (A := A ++ [p, q]) (R := B)
  rw [List.length_append, List.append_assoc] at this
  exact this
theorem cut_two {A B : List (Rat × Rat)} {p q : Rat × Rat} : cutD ((A ++ p :: q :: B).map dcn) (some (A.length : Int)) (some ((A.length : Int) + 2)) = [dcn p, dcn q] := by
  have h1 : cutD ((A ++ p :: q :: B).map dcn) (some (A.length : Int)) (some ((A.length : Int) + 2)) = (((A ++ p :: q :: B).map dcn).drop A.length).take 2 := by
    unfold cutD
    have e1 : HT.sIx ((A ++ p :: q :: B).map dcn).length 0 (some (A.length : Int)) = A.length := by rw [HT.sIx_nat, List.length_map]; simp
    have e2 : HT.sIx ((A ++ p :: q :: B).map dcn).length ((A ++ p :: q :: B).map dcn).length (some ((A.length : Int) + 2)) = A.length + 2 := by
      have := HT.sIx_nat ((A ++ p :: q :: B).map dcn).length ((A ++ p :: q :: B).map dcn).length (A.length + 2)
      rw [List.length_map] at *
      rw [show ((A.length : Int) + 2) = ((A.length + 2 : Nat) : Int) by omega, this]
      simp <;> omega
    rw [e1, e2, show A.length + 2 - A.length = 2 by omega]
  rw [h1, List.map_append, List.drop_append_of_le_length (by simp)]
  rw [show ((A.map dcn).drop A.length) = [] by rw [List.drop_eq_nil_iff]; simp]
  rfl
theorem tx_turn {kd : Str} {X Y : List (Rat × Rat)} {a b : Rat × Rat} (hk : Kd kd) (nn : ∀ c ∈ X ++ a :: b :: Y, 0 ≤ c.1 ∧ 0 ≤ c.2) (sm : ∀ c ∈ X ++ a :: b :: Y, SmR 200 200 c.1 ∧ SmR 1000 1000 c.2) (hl : (X ++ a :: b :: Y).length ≤ 40) (h : ¬ (b.1 < a.1 ∧ a.2 < b.2)) :
    Th (.tuple [.str kd, .list (X.map dcn ++ [dcn a, dcn b] ++ Y.map dcn)]) ∧ ofB (.tuple [.str kd, .list (X.map dcn ++ [dcn a, dcn b] ++ Y.map dcn)]) = false := by
  have e : X.map dcn ++ [dcn a, dcn b] ++ Y.map dcn = (X ++ a :: b :: Y).map dcn := by simp
  rw [e]
  refine ⟨th_off (pl_kd hk) (fun x hx => ?_) (by rw [List.length_map]; exact hl), of_turn nn h⟩
  obtain ⟨c, hc, rfl⟩ := List.mem_map.mp hx
  exact el_dcn (sm c hc).1 (sm c hc).2
def onWay (c d : Rat × Rat) (t : Rat) : Rat := c.2 + steep c d * (c.1 - t)
theorem way_eq (c d : Rat × Rat) (t : Rat) : c.2 + (c.1 - t) / (c.1 - d.1) * (d.2 - c.2) = onWay c d t := by
  unfold onWay steep
  rw [Rat.div_def, Rat.div_def]
  grind
theorem way_up {p q : Rat × Rat} {t : Rat} (h : q.1 < p.1) (u : p.2 < q.2) (h1 : t ≤ p.1) (h2 : q.1 ≤ t) : p.2 ≤ onWay p q t ∧ onWay p q t ≤ q.2 := by
  have e := steep_mul h
  have d : 0 < p.1 - q.1 := by grind
  have S : ¬ steep p q < 0 := fun z => by
    have := Rat.mul_lt_mul_of_pos_right z d
    rw [e, Rat.zero_mul] at this; grind
  have S0 : 0 ≤ steep p q := Rat.not_lt.mp S
  have g1 := Rat.mul_nonneg S0 (show 0 ≤ p.1 - t by grind)
  have g2 := Rat.mul_nonneg S0 (show 0 ≤ t - q.1 by grind)
  unfold onWay
  have : steep p q * (p.1 - q.1) = steep p q * (p.1 - t) + steep p q * (t - q.1) := by grind
  exact ⟨by grind, by grind⟩
theorem raise_no {p q : Rat × Rat} {x t : Rat} (h1 : x < p.1) (h2 : q.1 < x) (h : onWay p q x ≤ t) : ¬ steep p (x, t) < steep (x, t) q := by
  intro hlt
  have e1 : steep p (x, t) * (p.1 - x) = t - p.2 := steep_mul (a := p) (b := (x, t)) h1
  have e2 : steep (x, t) q * (x - q.1) = q.2 - t := steep_mul (a := (x, t)) (b := q) h2
  have e3 := steep_mul (a := p) (b := q) (by grind)
  unfold onWay at h
  have d1 : 0 < p.1 - x := by grind
  have d2 : 0 < x - q.1 := by grind
  have e4 : steep p q * (p.1 - q.1) = steep p q * (p.1 - x) + steep p q * (x - q.1) := by grind
  have g1 : ¬ steep p (x, t) < steep p q := fun z => by have := Rat.mul_lt_mul_of_pos_right z d1; grind
  have g2 : ¬ steep p q < steep (x, t) q := fun z => by have := Rat.mul_lt_mul_of_pos_right z d2; grind
  grind
theorem of_raise {X Y : List (Rat × Rat)} {p q n : Rat × Rat} (nn : ∀ c ∈ X ++ p :: n :: q :: Y, 0 ≤ c.1 ∧ 0 ≤ c.2) (h : ¬ steep p n < steep n q) : ofB (.tuple [.str "straight", .list ((X ++ p :: n :: q :: Y).map dcn)]) = false := by
  refine ofB_f fun z => ?_
  have := z.2.2.2.2.resolve_left fun e => kd_ne e.symm
  rw [bds_of nn] at this
  exact h (this X.length p n q (by simp) (by rw [List.getElem?_append_right (by omega)]; simp) (by rw [List.getElem?_append_right (by omega)]; simp))
theorem split2 {cs : List (Rat × Rat)} {n : Nat} (h : n + 1 < cs.length) : ∃ A p q B, cs = A ++ p :: q :: B ∧ A.length = n :=
  ⟨cs.take n, cs[n], cs[n + 1], cs.drop (n + 2), by rw [← List.drop_eq_getElem_cons, ← List.drop_eq_getElem_cons, List.take_append_drop], by rw [List.length_take]; omega⟩
theorem split1 {cs : List (Rat × Rat)} {n : Nat} (h : n < cs.length) : ∃ A p B, cs = A ++ p :: B ∧ A.length = n :=
  ⟨cs.take n, cs[n], cs.drop (n + 1), by rw [← List.drop_eq_getElem_cons, List.take_append_drop], by rw [List.length_take]; omega⟩
theorem smr1 : SmR 1 1 1 := ⟨by unfold Sm; decide, by unfold Sm; decide⟩
def rt (z : Nat) : Rat := Rat.divInt 1 ((10 : Int) ^ (6 + 3 * z))
theorem rt_dq (z : Nat) : PyData.tuple [.int 1, .int ((10 : Int) ^ (6 + 3 * z))] = dq (rt z) := by
  have hb : 1 ≤ (10 : Int) ^ (6 + 3 * z) := by
    have : (0 : Int) < (10 : Int) ^ (6 + 3 * z) := Int.pow_pos (by decide)
    omega
  refine ratOf_dq ?_
  show (if 1 ≤ (10 : Int) ^ (6 + 3 * z) ∧ Int.gcd 1 ((10 : Int) ^ (6 + 3 * z)) = 1 then some (Rat.divInt 1 ((10 : Int) ^ (6 + 3 * z))) else none) = some (rt z)
  rw [if_pos ⟨hb, Int.one_gcd⟩]; rfl
theorem rt_nd (z : Nat) : (rt z).num = 1 ∧ ((rt z).den : Int) = (10 : Int) ^ (6 + 3 * z) := by
  have h := rt_dq z
  unfold dq at h
  injection h with h
  injection h with h1 h2
  injection h2 with h2 _
  injection h1 with h1
  injection h2 with h2
  exact ⟨h1.symm, h2.symm⟩
theorem rt_sm {z : Nat} (h : z ≤ 5) : SmR 2 71 (rt z) := by
  obtain ⟨a, b⟩ := rt_nd z
  refine ⟨by unfold Sm; rw [a]; decide, ?_⟩
  unfold Sm
  rw [b]
  have : z = 0 ∨ z = 1 ∨ z = 2 ∨ z = 3 ∨ z = 4 ∨ z = 5 := by omega
  rcases this with rfl | rfl | rfl | rfl | rfl | rfl <;> decide
def bads : List PyData := [.tuple [.int 2, .int 4], .tuple [.int 1, .int 0], .tuple [.int (-1), .int 2], .tuple [.int 1, .int (-1)], .list [.int 1, .int 2], .int 1, .none, .str "1", .tuple [.int 1], .tuple [.bool true, .int 1], .tuple [.int 1, .bool true], .tuple [.int 0, .int 2], .tuple [.int 3, .int 1, .int 1]]
structure Bd (x : PyData) : Prop where
  pl : Pl1 x = true
  dp : x.depth ≤ 3
  sz : szD x ≤ 3100
  s2 : SmX2 x
  nn : nnOf x = none
  sb : SmB x
  bd : bdOf x = none
theorem nn_no' {x : PyData} (h : ∀ p q, x ≠ .tuple [p, q]) : nnOf x = none := by
  unfold nnOf ratOf
  split
  · exact absurd rfl (h _ _)
  · rfl
theorem bd_of' {x : PyData} (pl : Pl1 x = true) (dp : Nat.ble x.depth 3 = true) (sz : Nat.ble (szD x) 3100 = true) (s2 : SmX2 x) (nn : nnOf x = none) (sb : ∀ a b, x = .tuple [a, b] → (∀ p q, a ≠ .tuple [p, q]) ∧ ∀ p q, b ≠ .tuple [p, q]) : Bd x := ⟨pl, Nat.le_of_ble_eq_true dp, Nat.le_of_ble_eq_true sz, s2, nn, fun a b e => ⟨fun p q z => absurd z ((sb a b e).1 _ _), fun p q z => absurd z ((sb a b e).2 _ _)⟩, by
  unfold bdOf
  split
  · rename_i a b
    have h : nnOf a = none := nn_no' fun p q z => (sb a b rfl).1 _ _ z
    rw [h]
  · rfl⟩
theorem sx2_i {a b : Int} (h1 : Sm 200 a) (h2 : Sm 200 b) : SmX2 (.tuple [.int a, .int b]) := fun x y e => by cases e; exact ⟨h1, h2⟩
theorem sx2_no {x : PyData} (h : ∀ a b, x ≠ .tuple [.int a, .int b]) : SmX2 x := fun a b e => absurd e (h a b)
theorem nn_no {x : PyData} (h : ratOf x = none) : nnOf x = none := by unfold nnOf; rw [h]; rfl
theorem bads_ok : ∀ x ∈ bads, Bd x := by
  have s (z : Int) (h : z.natAbs < 10) : Sm 200 z := Nat.lt_trans h (by decide)
  simp only [bads, List.mem_cons, forall_eq_or_imp, List.not_mem_nil, false_imp_iff, implies_true, and_true]
  refine ⟨?_, ?_, ?_, ?_, ?_, ?_, ?_, ?_, ?_, ?_, ?_, ?_, ?_⟩
  · exact bd_of' (by decide +kernel) rfl rfl (sx2_i (s _ (by decide)) (s _ (by decide))) (nn_no (by decide +kernel)) (fun a b e => by cases e; exact ⟨fun p q e => (by cases e), fun p q e => (by cases e)⟩)
  · exact bd_of' (by decide +kernel) rfl rfl (sx2_i (s _ (by decide)) (s _ (by decide))) (nn_no (by decide +kernel)) (fun a b e => by cases e; exact ⟨fun p q e => (by cases e), fun p q e => (by cases e)⟩)
  · exact bd_of' (by decide +kernel) rfl rfl (sx2_i (s _ (by decide)) (s _ (by decide))) (by decide +kernel) (fun a b e => by cases e; exact ⟨fun p q e => (by cases e), fun p q e => (by cases e)⟩)
  · exact bd_of' (by decide +kernel) rfl rfl (sx2_i (s _ (by decide)) (s _ (by decide))) (nn_no (by decide +kernel)) (fun a b e => by cases e; exact ⟨fun p q e => (by cases e), fun p q e => (by cases e)⟩)
  · exact bd_of' (by decide +kernel) rfl rfl (sx2_no fun a b e => by cases e) (nn_no rfl) (fun a b e => by cases e)
  · exact bd_of' (by decide +kernel) rfl rfl (sx2_no fun a b e => by cases e) (nn_no rfl) (fun a b e => by cases e)
  · exact bd_of' (by decide +kernel) rfl rfl (sx2_no fun a b e => by cases e) (nn_no rfl) (fun a b e => by cases e)
  · exact bd_of' (by decide +kernel) rfl rfl (sx2_no fun a b e => by cases e) (nn_no rfl) (fun a b e => by cases e)
  · exact bd_of' (by decide +kernel) rfl rfl (sx2_no fun a b e => by cases e) (nn_no rfl) (fun a b e => by cases e)
  · exact bd_of' (by decide +kernel) rfl rfl (sx2_no fun a b e => by cases e) (nn_no rfl) (fun a b e => by cases e; exact ⟨fun p q e => (by cases e), fun p q e => (by cases e)⟩)
  · exact bd_of' (by decide +kernel) rfl rfl (sx2_no fun a b e => by cases e) (nn_no rfl) (fun a b e => by cases e; exact ⟨fun p q e => (by cases e), fun p q e => (by cases e)⟩)
  · exact bd_of' (by decide +kernel) rfl rfl (sx2_i (s _ (by decide)) (s _ (by decide))) (nn_no (by decide +kernel)) (fun a b e => by cases e; exact ⟨fun p q e => (by cases e), fun p q e => (by cases e)⟩)
  · exact bd_of' (by decide +kernel) rfl rfl (sx2_no fun a b e => by cases e) (nn_no rfl) (fun a b e => by cases e)
theorem pl_l {xs : List PyData} (h : Pl1A xs = true) : Pl1 (.list xs) = true := h
theorem pl_tt {xs : List PyData} (h : Pl1A xs = true) : Pl1 (.tuple xs) = true := h
theorem pla_cons {x : PyData} {xs : List PyData} (h : Pl1 x = true) (g : Pl1A xs = true) : Pl1A (x :: xs) = true := by
  show (Pl1 x && Pl1A xs) = true
  rw [h, g]; rfl
theorem pla_nil : Pl1A [] = true := rfl
theorem dp_l {xs : List PyData} {n : Nat} (h : PyData.depthAll xs ≤ n) : (PyData.list xs).depth ≤ n + 1 := by
  show PyData.depthAll xs + 1 ≤ n + 1
  omega
theorem dp_tt {xs : List PyData} {n : Nat} (h : PyData.depthAll xs ≤ n) : (PyData.tuple xs).depth ≤ n + 1 := by
  show PyData.depthAll xs + 1 ≤ n + 1
  omega
theorem dpa_cons {x : PyData} {xs : List PyData} {n : Nat} (h : x.depth ≤ n) (g : PyData.depthAll xs ≤ n) : PyData.depthAll (x :: xs) ≤ n := by
  show max x.depth (PyData.depthAll xs) ≤ n
  omega
theorem th_pl {x : PyData} (sm : OSm x) (h : Pl1 x = true) (hd : x.depth ≤ 60) (hz : szD x ≤ 1000000) : Th x := by
  obtain ⟨h1, h2, h3⟩ := pl1_all x h
  refine ⟨sm, ⟨h1, hd, Nat.le_trans (Nat.le_trans h2 hz) line_big⟩, ?_⟩
  cases x with
  | str z =>
    have h : (PyData.strOk z && decide ((PyData.str z).shown.length ≤ 1010) && PyData.strOk (PyData.str z).shown) = true := h
    rw [Bool.and_eq_true, Bool.and_eq_true] at h
    exact h.1.1
  | _ => exact h3
theorem osm2 {y b : PyData} (h1 : ∀ z, y = .str z → (PyData.str z).canLay0 = true) (h2 : ∀ ds, b = .list ds → ds.length ≤ 1000 ∧ ∀ d ∈ ds, SmB d) : OSm (.tuple [y, b]) := fun y' b' e => by
  injection e with e
  injection e with e1 e2
  injection e2 with e2 _
  subst e1 e2
  exact ⟨h1, h2⟩
theorem osm_no {x : PyData} (h : ∀ y b, x ≠ .tuple [y, b]) : OSm x := fun y b e => absurd e (h y b)
theorem rise_last {cs : List (Rat × Rat)} (h : RiseO cs) {a : Rat × Rat} (h0 : cs[0]? = some a) : ∀ (n : Nat) b, cs[n]? = some b → b.1 ≤ a.1
  | 0, b, e => by rw [h0] at e; cases e; exact Rat.le_refl
  | n + 1, b, e => by
    have hn : n < cs.length := by have := (List.getElem?_eq_some_iff.mp e).1; omega
    have e2 := List.getElem?_eq_getElem hn
    have h1 := rise_last h h0 n _ e2
    have h2 := (h n _ b e2 e).1
    grind
theorem all_app {p : PyData → Prop} {a b : List PyData} (h : ∀ x ∈ a, p x) (g : ∀ x ∈ b, p x) : ∀ x ∈ a ++ b, p x := fun x hx => by
  rcases List.mem_append.mp hx with z | z
  · exact h x z
  · exact g x z
theorem all_cons {p : PyData → Prop} {a : PyData} {b : List PyData} (h : p a) (g : ∀ x ∈ b, p x) : ∀ x ∈ a :: b, p x := fun x hx => by
  rcases List.mem_cons.mp hx with z | z
  · exact z ▸ h
  · exact g x z
theorem all_nil {p : PyData → Prop} : ∀ x ∈ ([] : List PyData), p x := fun _ z => nomatch z
theorem OfG.steps {kd : Str} {cs : List (Rat × Rat)} {a b c d : Nat} (h : OfG kd cs a b c d) : OfG "steps" cs a b c d := ⟨h.ok, h.nn, h.up, fun z => absurd z kd_ne⟩

section
variable {P : Program} {w : World} {K : PySem.W.Frag} {mg : Str → Option Value} {base : Heap} {D : Adr}
def ps_iswhole : Pu.PSp := fun as Q => ∃ x : PyData, as = [.d x] ∧ Q (.d (.bool (isW x)))
theorem ok_iswhole (T : Txt K mg D) : FnOk P w K mg base CX0 1 D.a_iswhole D.d_iswhole ["thing"] (Pu.spOf K [.dat] ps_iswhole) := by
  refine T.F_iswhole.ok sc_iswhole (Pu.spOf.len rfl) (fun cdv A outer s H vs Q E hr h => ?_)
  refine ⟨_, (QSs.out (qpss_one (qps_ret (qpe_and (qpe_callB (call_isiK (K := K) rfl) (by rfl) T.z_isinstance (by rfl) (qpa_cons (qpv 0) (qpa_cons (qpe_bltn (v := .ty "int") rfl T.z_int (by rfl) rfl) qpa_nil))) (qpe_one (qpe_not (qpe_callB (call_isiK (K := K) rfl) (by rfl) T.z_isinstance (by rfl) (qpa_cons (qpv 0) (qpa_cons (qpe_bltn (v := .ty "bool") rfl T.z_bool (by rfl) rfl) qpa_nil))))))))), ?_⟩
  haveI := T.c2_NOUGHT
  haveI := T.c2_KINDS
  refine Pu.enter h ?_
  rintro as Qp ⟨x, rfl, k⟩
  trivial
  cases x <;> trivial <;> exact k
def ps_istupleof : Pu.PSp := fun as Q => ∃ (x : PyData) (n : Int), as = [.d x, .d (.int n)] ∧ Q (.d (.bool (isT n x)))
theorem ok_istupleof (T : Txt K mg D) : FnOk P w K mg base CX0 1 D.a_istupleof D.d_istupleof ["thing", "many"] (Pu.spOf K [.dat, .dat] ps_istupleof) := by
  refine T.F_istupleof.ok sc_istupleof (Pu.spOf.len rfl) (fun cdv A outer s H vs Q E hr h => ?_)
  refine ⟨_, (QSs.out (qpss_one (qps_ret (qpe_and (qpe_callB (call_isiK (K := K) rfl) (by rfl) T.z_isinstance (by rfl) (qpa_cons (qpv 0) (qpa_cons (qpe_bltn (v := .ty "tuple") rfl T.z_tuple (by rfl) rfl) qpa_nil))) (qpe_one (qpe_cmpR (op_eqDK (K := K) rfl hr.units) (qpe_callB (call_len2K (K := K) rfl) (by rfl) T.z_len PySem.boot_len (qpa_cons (qpv 0) qpa_nil)) (qpv 1) (nomark _))))))), ?_⟩
  haveI := T.c2_NOUGHT
  haveI := T.c2_KINDS
  refine Pu.enter h ?_
  rintro as Qp ⟨x, n, rfl, k⟩
  trivial
  cases x <;> trivial <;> exact k
theorem ok_commonpart (T : Txt K mg D) : FnOk P w K mg base CX0 1 D.a_commonpart D.d_commonpart ["one", "other"] (Pu.spOf K [.dat, .dat] ps_gcd) := by
  refine T.F_commonpart.ok sc_commonpart (Pu.spOf.len rfl) (fun cdv A outer s H vs Q E hr h => ?_)
  refine ⟨_, (QSs.out (qpss_cons (qps_par (i := 0) (j := 1) rfl sc_commonpart.nd rfl rfl (by decide) rfl rfl (qpa_cons (qpe_callB call_absN (by rfl) T.z_abs (by rfl) (qpa_cons (qpv 0) qpa_nil)) (qpa_cons (qpe_callB call_absN (by rfl) T.z_abs (by rfl) (qpa_cons (qpv 1) qpa_nil)) qpa_nil)) rfl)
      (qpss_cons (qps_while PassesOwn.never (qpt_cmpR (op_neDK (K := K) rfl hr.units) (qpv 1) qpe_int (nomark _))
        (qpss_one (qps_par (i := 0) (j := 1) rfl sc_commonpart.nd rfl rfl (by decide) rfl rfl (qpa_cons (qpv 1) (qpa_cons (qpe_op op_mod (qpv 0) (qpv 1)) qpa_nil)) rfl)))
      (qpss_one (qps_ret (qpv 0)))))), ?_⟩
  haveI := T.c2_NOUGHT
  haveI := T.c2_KINDS
  refine Pu.enter h ?_
  rintro as Qp ⟨a, b, rfl, k⟩
  trivial
  refine ⟨fun m e => ∃ x y : Int, e = [some (.d (.int x)), some (.d (.int y))] ∧ 0 ≤ x ∧ 0 ≤ y ∧ m = y.toNat ∧ Int.gcd x y = Int.gcd a b, ⟨_, _, _, rfl, by split <;> omega, by split <;> omega, rfl, gcd_abs a b⟩, ?_⟩
  rintro m e ⟨x, y, rfl, hx, hy, rfl, hg⟩
  trivial
  refine ite2 (fun e => ?_) (fun hn => ?_)
  · subst e
    have := gcd_zero x hx
    rw [hg] at this
    rw [← this]; exact k
  · have h1 := Int.emod_lt_of_pos x (show 0 < y by omega)
    have h2 := Int.emod_nonneg x hn
    exact ⟨by omega, (x % y).toNat, by omega, y, x % y, rfl, hy, h2, rfl, by rw [gcd_mod, hg]⟩
def ps_isratio : Pu.PSp := fun as Q => ∃ x : PyData, as = [.d x] ∧ Q (.d (.bool (isR x)))
theorem ok_isratio (T : Txt K mg D) : FnOk P w K mg base CX0 2 D.a_isratio D.d_isratio ["thing"] (Pu.spOf K [.dat] ps_isratio) := by
  refine T.F_isratio.ok sc_isratio (Pu.spOf.len rfl) (fun cdv A outer s H vs Q E hr h => ?_)
  refine ⟨_, (QSs.out (qpss_cons (qps_if (qpt_not (qpt_val (qpe_call (ok_istupleof (K := K) T) (hr.mono (by first | decide | omega)) rfl T.m_istupleof T.F_istupleof.kp (b_istupleof T) .nil pass0 (qpa_cons (qpv 0) (qpa_cons qpe_int qpa_nil)))))
        (qpss_one (qps_ret qpe_bl))
        qpss_nil)
      (qpss_cons (qps_asg (qpv 0) (qpg_tupK (K := K) (n := 2) rfl rfl (qpgs_cons (qpg_name (i := 1) sc_isratio.nd rfl (Or.inl rfl) (Or.inl rfl)) (qpgs_cons (qpg_name (i := 2) sc_isratio.nd rfl (Or.inl rfl) (Or.inl rfl)) qpgs_nil)) rfl rfl))
      (qpss_cons (qps_if (QW.pt (qpw_or (qpt_not (qpt_val (qpe_call (ok_iswhole (K := K) T) (hr.mono (by first | decide | omega)) rfl T.m_iswhole T.F_iswhole.kp (b_iswhole T) .nil pass0 (qpa_cons (qpv 1) qpa_nil)))) (qpw_or1 (qpt_not (qpt_val (qpe_call (ok_iswhole (K := K) T) (hr.mono (by first | decide | omega)) rfl T.m_iswhole T.F_iswhole.kp (b_iswhole T) .nil pass0 (qpa_cons (qpv 2) qpa_nil)))))))
        (qpss_one (qps_ret qpe_bl))
        qpss_nil)
      (qpss_one (qps_ret (qpe_and (qpe_cmpR op_ge (qpv 2) qpe_int (nomark _)) (qpe_one (qpe_cmpR (op_eqDK (K := K) rfl hr.units) (qpe_call (ok_commonpart (K := K) T) (hr.mono (by first | decide | omega)) rfl T.m_commonpart T.F_commonpart.kp (b_commonpart T) .nil pass0 (qpa_cons (qpv 1) (qpa_cons (qpv 2) qpa_nil))) qpe_int (nomark _)))))))))), ?_⟩
  haveI := T.c2_NOUGHT
  haveI := T.c2_KINDS
  refine Pu.enter h ?_
  rintro as Qp ⟨x, rfl, k⟩
  trivial
  refine ⟨x, 2, rfl, ?_⟩
  trivial
  by_cases ht : isT 2 x = false
  · rw [if_pos ht]
    have : isR x = false := by
      unfold isT at ht
      unfold isR
      split
      · simp at ht
      · rfl
    rw [this] at k; exact k
  · rw [if_neg ht]
    obtain ⟨a, b, rfl⟩ : ∃ a b, x = .tuple [a, b] := by
      unfold isT at ht
      split at ht
      · rename_i xs
        match xs with
        | [a, b] => exact ⟨a, b, rfl⟩
        | [] => simp at ht
        | [_] => simp at ht
        | _ :: _ :: _ :: _ => simp at ht; omega
      · exact absurd rfl ht
    trivial
    refine ⟨a, rfl, ?_⟩
    trivial
    by_cases ha : isW a = false
    · rw [if_pos ha]
      have : isR (.tuple [a, b]) = false := by
        cases a with
        | int i => simp [isW] at ha
        | _ => rfl
      rw [this] at k; exact k
    · rw [if_neg ha]
      obtain ⟨i, rfl⟩ : ∃ i, a = .int i := by
        cases a with
        | int i => exact ⟨i, rfl⟩
        | _ => exact absurd rfl ha
      refine ⟨b, rfl, ?_⟩
      trivial
      by_cases hb : isW b = false
      · rw [if_pos hb]
        have : isR (.tuple [.int i, b]) = false := by
          cases b with
          | int j => simp [isW] at hb
          | _ => rfl
        rw [this] at k; exact k
      · rw [if_neg hb]
        obtain ⟨j, rfl⟩ : ∃ j, b = .int j := by
          cases b with
          | int j => exact ⟨j, rfl⟩
          | _ => exact absurd rfl hb
        trivial
        have k : Qp (.d (.bool (decide (1 ≤ j) && decide (((Int.gcd i j : Nat) : Int) = 1)))) := k
        refine ite2 (fun h => ?_) (fun h => ?_)
        · rw [decide_eq_true h, Bool.true_and] at k
          refine ⟨_, _, rfl, ?_⟩
          trivial
          exact k
        · rw [decide_eq_false h, Bool.false_and] at k
          exact k
theorem ok_plus (T : Txt K mg D) : FnOk P w K mg base CX0 2 D.a_plus D.d_plus ["one", "other"] (Pu.spOf K [.dat, .dat] (ps_bin (·+·))) := by
  refine T.F_plus.ok sc_plus (Pu.spOf.len rfl) (fun cdv A outer s H vs Q E hr h => ?_)
  refine ⟨_, (QSs.out (qpss_cons (qps_set (i := 2) sc_plus.nd rfl (Or.inl rfl) (qpe_call (ok_commonpart (K := K) T) (hr.mono (by first | decide | omega)) rfl T.m_commonpart T.F_commonpart.kp (b_commonpart T) .nil pass0 (qpa_cons (qpe_ix (ix_seqK (K := K) rfl) (qpv 0) qpe_int (fun _ _ => rfl)) (qpa_cons (qpe_ix (ix_seqK (K := K) rfl) (qpv 1) qpe_int (fun _ _ => rfl)) qpa_nil))))
      (qpss_cons (qps_par (i := 3) (j := 4) rfl sc_plus.nd rfl rfl (by decide) rfl rfl (qpa_cons (qpe_op op_fdivB (qpe_ix (ix_seqK (K := K) rfl) (qpv 0) qpe_int (fun _ _ => rfl)) (qpv 2)) (qpa_cons (qpe_op op_fdivB (qpe_ix (ix_seqK (K := K) rfl) (qpv 1) qpe_int (fun _ _ => rfl)) (qpv 2)) qpa_nil)) rfl)
      (qpss_cons (qps_set (i := 5) sc_plus.nd rfl (Or.inl rfl) (qpe_op op_add (qpe_op op_mulB (qpe_ix (ix_seqK (K := K) rfl) (qpv 0) qpe_int (fun _ _ => rfl)) (qpv 4)) (qpe_op op_mulB (qpe_ix (ix_seqK (K := K) rfl) (qpv 1) qpe_int (fun _ _ => rfl)) (qpv 3))))
      (qpss_cons (qps_set (i := 6) sc_plus.nd rfl (Or.inl rfl) (qpe_call (ok_commonpart (K := K) T) (hr.mono (by first | decide | omega)) rfl T.m_commonpart T.F_commonpart.kp (b_commonpart T) .nil pass0 (qpa_cons (qpv 5) (qpa_cons (qpv 2) qpa_nil))))
      (qpss_one (qps_ret (qpe_tup (qpa_cons (qpe_op op_fdivB (qpv 5) (qpv 6)) (qpa_cons (qpe_op op_mulB (qpv 3) (qpe_op op_fdivB (qpe_ix (ix_seqK (K := K) rfl) (qpv 1) qpe_int (fun _ _ => rfl)) (qpv 6))) qpa_nil)))))))))), ?_⟩
  haveI := T.c2_NOUGHT
  haveI := T.c2_KINDS
  refine Pu.enter h ?_
  rintro as Qp ⟨p, q, rfl, sp, sq, k⟩
  trivial
  refine ⟨_, _, rfl, ?_⟩
  trivial
  have p2 := sp.2.mono (l := 8000) (by decide)
  have q2 := sq.2.mono (l := 8000) (by decide)
  have g0 := gcd_den_ne (t := (p.den : Int)) q
  have gs := sm_gcd (t := (p.den : Int)) q2 (den0 q)
  have gn : (0 : Int) ≤ ((Int.gcd (p.den : Int) (q.den : Int) : Nat) : Int) := Int.natCast_nonneg _
  refine ⟨⟨g0, gs⟩, ⟨g0, gs⟩, ⟨sp.1.mono (by decide), fd_sm q2 gn⟩, ⟨sq.1.mono (by decide), fd_sm p2 gn⟩, _, _, rfl, ?_⟩
  trivial
  refine ⟨⟨gcd_ne_r g0, sm_gcd gs g0⟩, ⟨gcd_ne_r g0, sm_gcd gs g0⟩, ⟨fd_sm p2 gn, fd_sm q2 (Int.natCast_nonneg _)⟩, ?_⟩
  obtain ⟨e1, e2⟩ := pl_both p q _ _ rfl rfl
  rw [e1, e2]; exact k
theorem ok_minus (T : Txt K mg D) : FnOk P w K mg base CX0 3 D.a_minus D.d_minus ["one", "other"] (Pu.spOf K [.dat, .dat] (ps_bin (·-·))) := by
  refine T.F_minus.ok sc_minus (Pu.spOf.len rfl) (fun cdv A outer s H vs Q E hr h => ?_)
  refine ⟨_, (QSs.out (qpss_one (qps_ret (qpe_call (ok_plus (K := K) T) (hr.mono (by first | decide | omega)) rfl T.m_plus T.F_plus.kp (b_plus T) .nil pass0 (qpa_cons (qpv 0) (qpa_cons (qpe_tup (qpa_cons (qpe_un un_neg (qpe_ix (ix_seqK (K := K) rfl) (qpv 1) qpe_int (fun _ _ => rfl))) (qpa_cons (qpe_ix (ix_seqK (K := K) rfl) (qpv 1) qpe_int (fun _ _ => rfl)) qpa_nil))) qpa_nil)))))), ?_⟩
  haveI := T.c2_NOUGHT
  haveI := T.c2_KINDS
  refine Pu.enter h ?_
  rintro as Qp ⟨p, q, rfl, sp, sq, k⟩
  trivial
  rw [dq_neg]
  refine ⟨_, _, rfl, sp, ⟨by have := sq.1; unfold Sm at *; show (-q.num).natAbs < _; omega, sq.2⟩, ?_⟩
  show Qp (.d (dq (p + -q)))
  rw [← Rat.sub_eq_add_neg]; exact k
theorem ok_product (T : Txt K mg D) : FnOk P w K mg base CX0 2 D.a_product D.d_product ["one", "other"] (Pu.spOf K [.dat, .dat] (ps_bin (·*·))) := by
  refine T.F_product.ok sc_product (Pu.spOf.len rfl) (fun cdv A outer s H vs Q E hr h => ?_)
  refine ⟨_, (QSs.out (qpss_cons (qps_par (i := 2) (j := 3) rfl sc_product.nd rfl rfl (by decide) rfl rfl (qpa_cons (qpe_call (ok_commonpart (K := K) T) (hr.mono (by first | decide | omega)) rfl T.m_commonpart T.F_commonpart.kp (b_commonpart T) .nil pass0 (qpa_cons (qpe_ix (ix_seqK (K := K) rfl) (qpv 0) qpe_int (fun _ _ => rfl)) (qpa_cons (qpe_ix (ix_seqK (K := K) rfl) (qpv 1) qpe_int (fun _ _ => rfl)) qpa_nil))) (qpa_cons (qpe_call (ok_commonpart (K := K) T) (hr.mono (by first | decide | omega)) rfl T.m_commonpart T.F_commonpart.kp (b_commonpart T) .nil pass0 (qpa_cons (qpe_ix (ix_seqK (K := K) rfl) (qpv 1) qpe_int (fun _ _ => rfl)) (qpa_cons (qpe_ix (ix_seqK (K := K) rfl) (qpv 0) qpe_int (fun _ _ => rfl)) qpa_nil))) qpa_nil)) rfl)
      (qpss_one (qps_ret (qpe_tup (qpa_cons (qpe_op op_mulB (qpe_op op_fdivB (qpe_ix (ix_seqK (K := K) rfl) (qpv 0) qpe_int (fun _ _ => rfl)) (qpv 2)) (qpe_op op_fdivB (qpe_ix (ix_seqK (K := K) rfl) (qpv 1) qpe_int (fun _ _ => rfl)) (qpv 3))) (qpa_cons (qpe_op op_mulB (qpe_op op_fdivB (qpe_ix (ix_seqK (K := K) rfl) (qpv 0) qpe_int (fun _ _ => rfl)) (qpv 3)) (qpe_op op_fdivB (qpe_ix (ix_seqK (K := K) rfl) (qpv 1) qpe_int (fun _ _ => rfl)) (qpv 2))) qpa_nil))))))), ?_⟩
  haveI := T.c2_NOUGHT
  haveI := T.c2_KINDS
  refine Pu.enter h ?_
  rintro as Qp ⟨p, q, rfl, sp, sq, k⟩
  trivial
  refine ⟨_, _, rfl, ?_⟩
  trivial
  refine ⟨_, _, rfl, ?_⟩
  trivial
  have p1 := sp.1.mono (l := 8000) (by decide)
  have q1 := sq.1.mono (l := 8000) (by decide)
  have p2 := sp.2.mono (l := 8000) (by decide)
  have q2 := sq.2.mono (l := 8000) (by decide)
  have g0 := gcd_den_ne (t := p.num) q
  have gs := sm_gcd (t := p.num) q2 (den0 q)
  have h0 := gcd_den_ne (t := q.num) p
  have hs := sm_gcd (t := q.num) p2 (den0 p)
  refine ⟨⟨g0, gs⟩, ⟨h0, hs⟩, ⟨fd_sm p1 (Int.natCast_nonneg _), fd_sm q1 (Int.natCast_nonneg _)⟩, ⟨h0, hs⟩, ⟨g0, gs⟩, ⟨fd_sm p2 (Int.natCast_nonneg _), fd_sm q2 (Int.natCast_nonneg _)⟩, ?_⟩
  rw [mu_num, mu_den]; exact k
theorem ok_parted (T : Txt K mg D) : FnOk P w K mg base CX0 3 D.a_parted D.d_parted ["one", "other"] (Pu.spOf K [.dat, .dat] ps_parted) := by
  refine T.F_parted.ok sc_parted (Pu.spOf.len rfl) (fun cdv A outer s H vs Q E hr h => ?_)
  refine ⟨_, (QSs.out (qpss_cons (qps_asg (qpv 1) (qpg_tupK (K := K) (n := 2) rfl rfl (qpgs_cons (qpg_name (i := 2) sc_parted.nd rfl (Or.inl rfl) (Or.inl rfl)) (qpgs_cons (qpg_name (i := 3) sc_parted.nd rfl (Or.inl rfl) (Or.inl rfl)) qpgs_nil)) rfl rfl))
      (qpss_cons (qps_if (qpt_cmpR (op_eqDK (K := K) rfl hr.units) (qpv 2) qpe_int (nomark _))
        (qpss_one qps_never)
        qpss_nil)
      (qpss_one (qps_ret (qpe_call (ok_product (K := K) T) (hr.mono (by first | decide | omega)) rfl T.m_product T.F_product.kp (b_product T) .nil pass0 (qpa_cons (qpv 0) (qpa_cons (qpe_ifExp (qpt_cmpR op_gt (qpv 2) qpe_int (nomark _)) (qpe_tup (qpa_cons (qpv 3) (qpa_cons (qpv 2) qpa_nil))) (qpe_tup (qpa_cons (qpe_un un_neg (qpv 3)) (qpa_cons (qpe_un un_neg (qpv 2)) qpa_nil)))) qpa_nil)))))))), ?_⟩
  haveI := T.c2_NOUGHT
  haveI := T.c2_KINDS
  refine Pu.enter h ?_
  rintro as Qp ⟨p, q, rfl, sp, sq, hq, k⟩
  trivial
  rw [if_neg (num_ne hq)]
  have e := inv_num hq
  have kk : Qp (.d (dq (p * q⁻¹))) := by rw [← Rat.div_def]; exact k
  refine ite2 (fun h => ?_) (fun h => ?_)
  · rw [if_pos h, if_pos h] at e
    trivial
    rw [← e]
    exact ⟨_, _, rfl, sp, inv_sm sq hq, kk⟩
  · rw [if_neg h, if_neg h] at e
    trivial
    rw [← e]
    exact ⟨_, _, rfl, sp, inv_sm sq hq, kk⟩
theorem ok_isless (T : Txt K mg D) : FnOk P w K mg base CX0 1 D.a_isless D.d_isless ["one", "other"] (Pu.spOf K [.dat, .dat] ps_less) := by
  refine T.F_isless.ok sc_isless (Pu.spOf.len rfl) (fun cdv A outer s H vs Q E hr h => ?_)
  refine ⟨_, (QSs.out (qpss_one (qps_ret (qpe_cmpR op_lt (qpe_op op_mulB (qpe_ix (ix_seqK (K := K) rfl) (qpv 0) qpe_int (fun _ _ => rfl)) (qpe_ix (ix_seqK (K := K) rfl) (qpv 1) qpe_int (fun _ _ => rfl))) (qpe_op op_mulB (qpe_ix (ix_seqK (K := K) rfl) (qpv 1) qpe_int (fun _ _ => rfl)) (qpe_ix (ix_seqK (K := K) rfl) (qpv 0) qpe_int (fun _ _ => rfl))) (nomark _))))), ?_⟩
  haveI := T.c2_NOUGHT
  haveI := T.c2_KINDS
  refine Pu.enter h ?_
  rintro as Qp ⟨p, q, rfl, sp, sq, k⟩
  trivial
  have p1 := sp.1.mono (l := 8000) (by decide)
  have p2 := sp.2.mono (l := 8000) (by decide)
  have q1 := sq.1.mono (l := 8000) (by decide)
  have q2 := sq.2.mono (l := 8000) (by decide)
  refine ⟨⟨p1, q2⟩, ⟨q1, p2⟩, ?_⟩
  rw [less_iff]; exact k
def ps_isfromnought : Pu.PSp := fun as Q => ∃ x : PyData, as = [.d x] ∧ SmX x ∧ Q (.d (.bool (nnOf x).isSome))
theorem ok_isfromnought (T : Txt K mg D) : FnOk P w K mg base CX0 3 D.a_isfromnought D.d_isfromnought ["thing"] (Pu.spOf K [.dat] ps_isfromnought) := by
  refine T.F_isfromnought.ok sc_isfromnought (Pu.spOf.len rfl) (fun cdv A outer s H vs Q E hr h => ?_)
  refine ⟨_, (QSs.out (qpss_one (qps_ret (qpe_and (qpe_call (ok_isratio (K := K) T) (hr.mono (by first | decide | omega)) rfl T.m_isratio T.F_isratio.kp (b_isratio T) .nil pass0 (qpa_cons (qpv 0) qpa_nil)) (qpe_one (qpe_not (qpe_call (ok_isless (K := K) T) (hr.mono (by first | decide | omega)) rfl T.m_isless T.F_isless.kp (b_isless T) .nil pass0 (qpa_cons (qpv 0) (qpa_cons (qpe_glob (v := .ref D.k_NOUGHT) rfl T.c_NOUGHT rfl) qpa_nil))))))))), ?_⟩
  haveI := T.c2_NOUGHT
  haveI := T.c2_KINDS
  refine Pu.enter h ?_
  rintro as Qp ⟨x, rfl, sx, k⟩
  trivial
  refine ⟨x, rfl, ?_⟩
  rw [isR_iff]
  cases e : ratOf x with
  | none =>
    have : nnOf x = none := by unfold nnOf; rw [e]; rfl
    rw [this] at k
    trivial
    exact k
  | some q =>
    have e1 := ratOf_dq e
    have sq := sx.q e
    subst e1
    have : (nnOf (dq q)).isSome = decide (0 ≤ q) := by
      unfold nnOf
      rw [e]
      by_cases h : 0 ≤ q <;> simp [Option.filter, h]
    rw [this] at k
    trivial
    refine ⟨q, 0, rfl, sq.q (by decide) (by decide), smq0, ?_⟩
    rw [show decide (0 ≤ q) = !decide (q < 0) by by_cases h : q < 0 <;> simp [h, Rat.not_lt.mp, Rat.not_le] <;> grind] at k
    trivial
    exact k
def ps_iscorner : Pu.PSp := fun as Q => ∃ x : PyData, as = [.d x] ∧ SmB x ∧ Q (.d (.bool (bdOf x).isSome))
theorem ok_iscorner (T : Txt K mg D) : FnOk P w K mg base CX0 4 D.a_iscorner D.d_iscorner ["thing"] (Pu.spOf K [.dat] ps_iscorner) := by
  refine T.F_iscorner.ok sc_iscorner (Pu.spOf.len rfl) (fun cdv A outer s H vs Q E hr h => ?_)
  refine ⟨_, (QSs.out (qpss_one (qps_ret (qpe_and (qpe_call (ok_istupleof (K := K) T) (hr.mono (by first | decide | omega)) rfl T.m_istupleof T.F_istupleof.kp (b_istupleof T) .nil pass0 (qpa_cons (qpv 0) (qpa_cons qpe_int qpa_nil))) (qpe_and (qpe_call (ok_isfromnought (K := K) T) (hr.mono (by first | decide | omega)) rfl T.m_isfromnought T.F_isfromnought.kp (b_isfromnought T) .nil pass0 (qpa_cons (qpe_ix (ix_seqK (K := K) rfl) (qpv 0) qpe_int (fun _ _ => rfl)) qpa_nil)) (qpe_one (qpe_call (ok_isfromnought (K := K) T) (hr.mono (by first | decide | omega)) rfl T.m_isfromnought T.F_isfromnought.kp (b_isfromnought T) .nil pass0 (qpa_cons (qpe_ix (ix_seqK (K := K) rfl) (qpv 0) qpe_int (fun _ _ => rfl)) qpa_nil)))))))), ?_⟩
  haveI := T.c2_NOUGHT
  haveI := T.c2_KINDS
  refine Pu.enter h ?_
  rintro as Qp ⟨x, rfl, sx, k⟩
  trivial
  refine ⟨x, 2, rfl, ?_⟩
  trivial
  by_cases ht : isT 2 x = true
  · obtain ⟨a, b, rfl⟩ : ∃ a b, x = .tuple [a, b] := by
      unfold isT at ht
      split at ht
      · rename_i xs
        match xs with
        | [a, b] => exact ⟨a, b, rfl⟩
        | [] => simp at ht
        | [_] => simp at ht
        | _ :: _ :: _ :: _ => simp at ht; omega
      · cases ht
    obtain ⟨sa, sb⟩ := sx a b rfl
    rw [if_pos ht]
    trivial
    refine ⟨a, rfl, sa.up, ?_⟩
    trivial
    cases ea : nnOf a with
    | none =>
      have : bdOf (.tuple [a, b]) = none := by rw [bd_tup, ea]
      rw [this] at k
      trivial
      exact k
    | some p =>
      trivial
      refine ⟨b, rfl, sb, ?_⟩
      cases eb : nnOf b with
      | none =>
        have : bdOf (.tuple [a, b]) = none := by rw [bd_tup, ea, eb]
        rw [this] at k
        trivial
        exact k
      | some q =>
        have : bdOf (.tuple [a, b]) = some (p, q) := by rw [bd_tup, ea, eb]
        rw [this] at k
        trivial
        exact k
  · have : bdOf x = none := by
      unfold bdOf
      split
      · exact absurd rfl ht
      · rfl
    rw [this] at k
    rw [if_neg ht]
    trivial
    exact k
def ps_ratebetween : Pu.PSp := fun as Q => ∃ c d : Rat × Rat, as = [.d (dcn c), .d (dcn d)] ∧ d.1 < c.1 ∧ (SmR 200 200 c.1 ∧ SmR 1000 1000 c.2) ∧ (SmR 200 200 d.1 ∧ SmR 1000 1000 d.2) ∧ Q (.d (dq (steep c d)))
theorem ok_ratebetween (T : Txt K mg D) : FnOk P w K mg base CX0 4 D.a_ratebetween D.d_ratebetween ["longer", "quicker"] (Pu.spOf K [.dat, .dat] ps_ratebetween) := by
  refine T.F_ratebetween.ok sc_ratebetween (Pu.spOf.len rfl) (fun cdv A outer s H vs Q E hr h => ?_)
  refine ⟨_, (QSs.out (qpss_one (qps_ret (qpe_call (ok_parted (K := K) T) (hr.mono (by first | decide | omega)) rfl T.m_parted T.F_parted.kp (b_parted T) .nil pass0 (qpa_cons (qpe_call (ok_minus (K := K) T) (hr.mono (by first | decide | omega)) rfl T.m_minus T.F_minus.kp (b_minus T) .nil pass0 (qpa_cons (qpe_ix (ix_seqK (K := K) rfl) (qpv 1) qpe_int (fun _ _ => rfl)) (qpa_cons (qpe_ix (ix_seqK (K := K) rfl) (qpv 0) qpe_int (fun _ _ => rfl)) qpa_nil))) (qpa_cons (qpe_call (ok_minus (K := K) T) (hr.mono (by first | decide | omega)) rfl T.m_minus T.F_minus.kp (b_minus T) .nil pass0 (qpa_cons (qpe_ix (ix_seqK (K := K) rfl) (qpv 0) qpe_int (fun _ _ => rfl)) (qpa_cons (qpe_ix (ix_seqK (K := K) rfl) (qpv 1) qpe_int (fun _ _ => rfl)) qpa_nil))) qpa_nil)))))), ?_⟩
  haveI := T.c2_NOUGHT
  haveI := T.c2_KINDS
  refine Pu.enter h ?_
  rintro as Qp ⟨c, d, rfl, h, ⟨h1, h2⟩, ⟨h3, h4⟩, k⟩
  trivial
  refine ⟨_, _, rfl, h4.q (by decide) (by decide), h2.q (by decide) (by decide), ?_⟩
  trivial
  refine ⟨_, _, rfl, h1.q (by decide) (by decide), h3.q (by decide) (by decide), ?_⟩
  trivial
  exact ⟨_, _, rfl, (h4.sub h2).q (by decide) (by decide), (h1.sub h3).q (by decide) (by decide), by grind, k⟩
theorem ok_Lbegun0 (T : Txt K mg D) : FnOk P w K mg base CX0 1 D.a_Lbegun D.d_Lbegun ["_law_script", "_law_k"] (sp_begun K) := by
  refine T.F_Lbegun.ok sc_Lbegun (fun vs H Q E h => ?_) (fun cdv A outer s H vs Q E hr h => ?_)
  · obtain ⟨a, ns, k, rfl, _⟩ := h; rfl
  · obtain ⟨a, ns, k, rfl, ha, k0, k1, kk⟩ := h
    refine ⟨_, (pss_cons (ps_set (i := 2) sc_Lbegun.nd rfl (Or.inl rfl) pe_int)
      (pss_cons (ps_if (pt_cmpR op_lt (pv 1) (pe_callB call_len_seq (by rfl) T.z_len PySem.boot_len (pa_cons (pv 0) pa_nil)) (nomark _))
        (pss_one (ps_set (i := 2) sc_Lbegun.nd rfl (Or.inl rfl) (pe_ix ix_list (pv 0) (pv 1) (fun _ _ => rfl))))
        pss_nil)
      (pss_one (ps_ret (pe_lst (pa_cons (pv 2) (pa_cons (pe_op op_mod (pe_op op_add (pe_op op_add (pe_op op_mod (pv 2) pe_int) (pe_op op_mulB (pe_op op_mulB pe_int (pv 1)) (pv 1))) pe_int) pe_int) (pa_cons (pe_cmpR op_ge (pv 2) (pe_op op_pow pe_int pe_int) (nomark _)) pa_nil)))))))), ?_⟩
    have fin : ∀ c : Int, ∃ v, ([some (V.ref a), some (V.int k), some (V.int c)] : St)[2]? = some (some v) ∧
        (tCons (tOp (rI (fun _ j => 0 < j) fun i j => .int (i % j)) (tOp (rI0 fun i j => .int (i + j)) (tOp (rI0 fun i j => .int (i + j)) (tOp (rI (fun _ j => 0 < j) fun i j => .int (i % j)) (tVar 2) (tC (.int 2147483587)))
          (tOp (rI CMulB fun i j => .int (i * j)) (tOp (rI CMulB fun i j => .int (i * j)) (tC (.int 104729)) (tVar 1)) (tVar 1))) (tC (.int 7))) (tC (.int 2147483587)))
          (tCons (tOp (rI0 fun i j => .bl (decide (j ≤ i))) (tVar 2) (tOp (rI CPow fun i j => .int (i ^ j.toNat)) (tC (.int 10)) (tC (.int 18)))) tNil)) [some (V.ref a), some (V.int k), some (V.int c)] H
          fun xs H1 => (v :: xs).length ≤ sizeLine ∧ ∀ p, H1 p = none → Q (.ref p) (upd H1 p (.lst (v :: xs))) := by
      intro c
      refine ⟨_, rfl, _, rfl, _, _, rfl, rfl, (by show (0 : Int) < 2147483587; decide), _, rfl, _, _, rfl, rfl, ⟨sm_lit 0, sm_small k0 k1⟩, _, rfl, _, _, rfl, rfl, ⟨(Sm.mul (k := 20) (l := 20) (by unfold Sm; decide) (sm_s20 k0 k1)).mono (by decide), sm_small k0 k1⟩,
        _, _, rfl, rfl, _, _, rfl, rfl, _, _, rfl, rfl, (by show (0 : Int) < 2147483587; decide), _, rfl, _, _, rfl, rfl, cpow10 18, _, _, rfl, rfl, by show 3 ≤ sizeLine; decide, fun p hp => ?_⟩
      have e1 := Int.emod_nonneg (c % 2147483587 + 104729 * k * k + 7) (show (2147483587 : Int) ≠ 0 by decide)
      have e2 := Int.emod_lt_of_pos (c % 2147483587 + 104729 * k * k + 7) (show (0 : Int) < 2147483587 by decide)
      exact kk p _ hp ⟨_, _, _, upd_same, e1, by omega⟩ (Same.upd hp).kp
    refine ⟨_, rfl, _, rfl, a, _, rfl, .inl ha, _, _, rfl, rfl, _, rfl, ?_⟩
    refine ifD (fun hn => ?_) (fun hn => ?_)
    · have hk : (ns.map V.int)[k.toNat]? = some (V.int (ns.getD k.toNat 0)) := by
        have hlt : k.toNat < ns.length := by rw [List.length_map] at hn; omega
        rw [List.getElem?_map, List.getElem?_eq_getElem hlt, List.getD_eq_getElem?_getD, List.getElem?_eq_getElem hlt]; rfl
      have hk' : atI (ns.map V.int) k = some (V.int (ns.getD k.toNat 0)) := by
        have := atI_nat hk
        rwa [show ((k.toNat : Nat) : Int) = k by omega] at this
      refine ⟨_, rfl, _, rfl, a, _, k, _, rfl, rfl, ha, hk', ?_⟩
      exact fin _
    · exact fin 0
theorem ok_Lbegun (T : Txt K mg D) : FnOk P w K mg base CX0 1 D.a_Lbegun D.d_Lbegun ["_law_script", "_law_k"] (Pu.spOf K [.vw, .dat] Pu.ps_begun) := FnOk.imp (ok_Lbegun0 T) Pu.begun_in
theorem ok_Ltake0 (T : Txt K mg D) : FnOk P w K mg base CX0 1 D.a_Ltake D.d_Ltake ["_law_state", "_law_many"] sp_take := by
  refine T.F_Ltake.ok sc_Ltake (fun vs H Q E h => ?_) (fun cdv A outer s H vs Q E hr h => ?_)
  · obtain ⟨p, n, rfl, _⟩ := h; rfl
  · obtain ⟨p, n, rfl, S0, n0, sn, k⟩ := h
    refine ⟨_, (pss_cons (ps_if (pt_val (pe_ix ix_list (pv 0) pe_int (fun _ _ => rfl)))
        (pss_cons (ps_set (i := 2) sc_Ltake.nd rfl (Or.inl rfl) (pe_op op_mod (pe_ix ix_list (pv 0) pe_int (fun _ _ => rfl)) (pv 1)))
        (pss_cons (ps_asg (pe_op op_fdivB (pe_ix ix_list (pv 0) pe_int (fun _ _ => rfl)) (pv 1)) (pg_sub (pv 0) pe_int set_list))
        (pss_cons (ps_asg (pe_cmpR op_gt (pe_ix ix_list (pv 0) pe_int (fun _ _ => rfl)) pe_int (nomark _)) (pg_sub (pv 0) pe_int set_list))
        (pss_one (ps_ret (pv 2))))))
        pss_nil)
      (pss_cons (ps_set (i := 3) sc_Ltake.nd rfl (Or.inl rfl) pe_int)
      (pss_cons (ps_for PassesOwn.never rfl (pi_range1 rfl T.z_range (pa_cons (pe_op op_add pe_int (pe_op op_mulB pe_int (pe_callTy call_int1 (by rfl) T.z_int (by rfl) (pa_cons (pe_cmpR op_gt (pv 1) (pe_op op_pow pe_int pe_int) (nomark _)) pa_nil)))) pa_nil)) (pg_name (i := 4) sc_Ltake.nd rfl (Or.inl rfl) (Or.inl rfl))
        (pss_cons (ps_asg (pe_op op_mod (pe_op op_add (pe_op op_mulB (pe_ix ix_list (pv 0) pe_int (fun _ _ => rfl)) pe_int) pe_int) pe_int) (pg_sub (pv 0) pe_int set_list))
        (pss_one (ps_set (i := 3) sc_Ltake.nd rfl (Or.inl rfl) (pe_op op_add (pe_op op_mulB (pv 3) pe_int) (pe_op op_mod (pe_op op_mulB (pe_ix ix_list (pv 0) pe_int (fun _ _ => rfl)) (pe_ix ix_list (pv 0) pe_int (fun _ _ => rfl))) pe_int))))))
      (pss_one (ps_ret (pe_op op_mod (pe_op op_fdivB (pv 3) pe_int) (pv 1))))))), ?_⟩
    obtain ⟨c, m, f, hp, m0, m1⟩ := S0.ex
    refine ⟨_, rfl, p, _, _, _, rfl, rfl, SqL.of hp, at2, f, rfl, ?_⟩
    have s8 : Sm 8000 n := sn.mono (by decide)
    cases f with
    | true =>
      refine iteT ?_
      refine ⟨_, rfl, p, _, _, _, rfl, rfl, SqL.of hp, at0, _, rfl, _, _, rfl, rfl, n0, ?_⟩
      refine ⟨_, rfl, p, _, _, _, rfl, rfl, SqL.of hp, at0, _, rfl, _, _, rfl, rfl, ⟨by omega, s8⟩, _, rfl, p, _, _, 0, rfl, rfl, hp, rfl, ?_⟩
      refine ⟨_, rfl, p, _, _, _, rfl, rfl, SqL.of upd_same, at0, _, _, rfl, rfl, _, rfl, p, _, _, 2, rfl, rfl, upd_same, rfl, ?_⟩
      refine ⟨_, rfl, ?_⟩
      exact k _ _ (Int.emod_nonneg c (by omega)) (Int.emod_lt_of_pos c n0) ⟨_, _, _, upd_same, m0, m1⟩ (Kp.upd.trans Kp.upd)
    | false =>
      refine iteF ?_
      refine ⟨_, rfl, _, _, rfl, rfl, cpow10 6, _, _, rfl, rfl, .inr ⟨_, rfl, _, _, rfl, rfl, ⟨sm_lit 0, sm_bit _⟩, _, _, rfl, rfl, _, rfl, ?_, ?_, for_range (lo := 0)
        (fun i σ H' => ∃ (m' md : Int) (x : Option V), σ = [some (V.ref p), some (V.int n), none, some (V.int md), x] ∧ H' p = some (.lst [.int c, .int m', .bl false]) ∧ 0 ≤ m' ∧ m' < 2147483648 ∧ Kp p H H' ∧ Sm (40 * i + 1) md)
        ⟨m, 0, none, rfl, hp, m0, m1, Kp.refl, by unfold Sm; decide⟩ ?_ ?_⟩⟩
      · split <;> omega
      · split <;> omega
      · rintro i σ H' hi ⟨m', md, x, rfl, hp', h0, h1, kk, sd⟩
        have hi9 : i < 9 := by
          refine Nat.lt_of_lt_of_le hi ?_
          split <;> decide
        refine ⟨_, rfl, p, _, _, _, rfl, rfl, SqL.of hp', at1, _, _, rfl, rfl, ⟨sm32 h0 h1, sm_lit 0⟩, _, _, rfl, rfl, _, _, rfl, rfl, (by show (0 : Int) < 2147483647; decide), _, rfl, p, _, _, 1, rfl, rfl, hp', rfl, ?_⟩
        have e1 := Int.emod_nonneg (m' * 39373 + 17) (show (2147483647 : Int) ≠ 0 by decide)
        have e2 := Int.emod_lt_of_pos (m' * 39373 + 17) (show (0 : Int) < 2147483647 by decide)
        have sm := sm32 e1 (by omega)
        refine ⟨_, rfl, _, _, rfl, rfl, ⟨sd.mono (by omega), sm_lit 0⟩, _, rfl, p, _, _, _, rfl, rfl, SqL.of upd_same, at1, _, rfl, p, _, _, _, rfl, rfl, SqL.of upd_same, at1, _, _, rfl, rfl, ⟨sm, sm⟩, _, _, rfl, rfl, (by show (0 : Int) < 2147483587; decide), _, _, rfl, rfl, ?_⟩
        have g1 := Int.emod_nonneg ((m' * 39373 + 17) % 2147483647 * ((m' * 39373 + 17) % 2147483647)) (show (2147483587 : Int) ≠ 0 by decide)
        have g2 := Int.emod_lt_of_pos ((m' * 39373 + 17) % 2147483647 * ((m' * 39373 + 17) % 2147483647)) (show (0 : Int) < 2147483587 by decide)
        refine ⟨_, _, _, rfl, upd_same, e1, by omega, kk.trans Kp.upd, ?_⟩
        refine Sm.mono (k := 40 * i + 1 + 32 + 1) (Sm.add (sd.mul (l := 32) (by unfold Sm; decide)) ?_) (by omega)
        exact Sm.mono (k := 32) (by unfold Sm; omega) (by omega)
      · rintro σ H' ⟨m', md, x, rfl, hp', h0, h1, kk, sd⟩
        refine ⟨_, rfl, _, _, rfl, rfl, ⟨by decide, sm_lit 0⟩, _, rfl, _, _, rfl, rfl, n0, ?_⟩
        exact k _ _ (Int.emod_nonneg _ (by omega)) (Int.emod_lt_of_pos _ n0) ⟨_, _, _, hp', h0, h1⟩ kk
theorem ok_Ltake (T : Txt K mg D) : FnOk P w K mg base CX0 1 D.a_Ltake D.d_Ltake ["_law_state", "_law_many"] (Pu.spOf K [.st, .dat] Pu.ps_take) := FnOk.imp (ok_Ltake0 T) Pu.take_in
theorem ok_Llow (T : Txt K mg D) : FnOk P w K mg base CX0 1 D.a_Llow D.d_Llow ["_law_top", "_law_bottom"] (Pu.spOf K [.dat, .dat] ps_lowP) := by
  refine T.F_Llow.ok sc_Llow (Pu.spOf.len rfl) (fun cdv A outer s H vs Q E hr h => ?_)
  refine ⟨_, (QSs.out (qpss_cons (qps_set (i := 2) sc_Llow.nd rfl (Or.inl rfl) (qpv 0))
      (qpss_cons (qps_set (i := 3) sc_Llow.nd rfl (Or.inl rfl) (qpv 1))
      (qpss_cons (qps_while PassesOwn.never (qpt_cmpR (op_neDK (K := K) rfl hr.units) (qpv 3) qpe_int (nomark _))
        (qpss_one (qps_par (i := 2) (j := 3) rfl sc_Llow.nd rfl rfl (by decide) rfl rfl (qpa_cons (qpv 3) (qpa_cons (qpe_op op_mod (qpv 2) (qpv 3)) qpa_nil)) rfl)))
      (qpss_one (qps_ret (qpe_tup (qpa_cons (qpe_op op_fdivB (qpv 0) (qpv 2)) (qpa_cons (qpe_op op_fdivB (qpv 1) (qpv 2)) qpa_nil))))))))), ?_⟩
  haveI := T.c2_NOUGHT
  haveI := T.c2_KINDS
  refine Pu.enter h ?_
  rintro as Qp ⟨t, b, rfl, hb, st, sb, k⟩
  trivial
  refine ⟨fun m e => ∃ x y : Int, e = [some (.d (.int t)), some (.d (.int b)), some (.d (.int x)), some (.d (.int y))] ∧ 0 ≤ y ∧ (y = 0 → 0 < x) ∧ m = y.toNat ∧ Int.gcd x y = Int.gcd t b, ⟨_, _, _, rfl, by omega, fun e => by omega, rfl, rfl⟩, ?_⟩
  rintro m e ⟨x, y, rfl, hy, hx, rfl, hg⟩
  trivial
  refine ite2 (fun e => ?_) (fun hn => ?_)
  · subst e
    have hx0 := hx rfl
    have e1 : x = sh t b := by
      have := gcd_zero x (by omega)
      rw [hg] at this
      unfold sh; rw [if_neg (by omega)]; exact this.symm
    subst e1
    have hb0 : b ≠ 0 := by omega
    refine ⟨⟨sh_ne hb0, sm_sh sb hb0⟩, ⟨sh_ne hb0, sm_sh sb hb0⟩, ?_⟩
    rw [low_num hb0, low_den hb0]; exact k
  · have h1 := Int.emod_lt_of_pos x (show 0 < y by omega)
    have h2 := Int.emod_nonneg x hn
    exact ⟨by omega, (x % y).toNat, by omega, y, x % y, rfl, h2, fun _ => by omega, rfl, by rw [gcd_mod, hg]⟩
theorem ok_Lplus (T : Txt K mg D) : FnOk P w K mg base CX0 2 D.a_Lplus D.d_Lplus ["_law_one", "_law_other"] (Pu.spOf K [.dat, .dat] (ps_bin (·+·))) := by
  refine T.F_Lplus.ok sc_Lplus (Pu.spOf.len rfl) (fun cdv A outer s H vs Q E hr h => ?_)
  refine ⟨_, (QSs.out (qpss_one (qps_ret (qpe_call (ok_Llow (K := K) T) (hr.mono (by first | decide | omega)) rfl T.m_Llow T.F_Llow.kp (b_Llow T) .nil pass0 (qpa_cons (qpe_op op_add (qpe_op op_mulB (qpe_ix (ix_seqK (K := K) rfl) (qpv 0) qpe_int (fun _ _ => rfl)) (qpe_ix (ix_seqK (K := K) rfl) (qpv 1) qpe_int (fun _ _ => rfl))) (qpe_op op_mulB (qpe_ix (ix_seqK (K := K) rfl) (qpv 1) qpe_int (fun _ _ => rfl)) (qpe_ix (ix_seqK (K := K) rfl) (qpv 0) qpe_int (fun _ _ => rfl)))) (qpa_cons (qpe_op op_mulB (qpe_ix (ix_seqK (K := K) rfl) (qpv 0) qpe_int (fun _ _ => rfl)) (qpe_ix (ix_seqK (K := K) rfl) (qpv 1) qpe_int (fun _ _ => rfl))) qpa_nil)))))), ?_⟩
  haveI := T.c2_NOUGHT
  haveI := T.c2_KINDS
  refine Pu.enter h ?_
  rintro as Qp ⟨p, q, rfl, sp, sq, k⟩
  trivial
  have p1 := sp.1.mono (l := 8000) (by decide)
  have p2 := sp.2.mono (l := 8000) (by decide)
  have q1 := sq.1.mono (l := 8000) (by decide)
  have q2 := sq.2.mono (l := 8000) (by decide)
  refine ⟨⟨p1, q2⟩, ⟨q1, p2⟩, ⟨p2, q2⟩, _, _, rfl, Int.mul_pos (denp p) (denp q), ((sp.1.mul sq.2).add (sq.1.mul sp.2)).mono (by decide), (sp.2.mul sq.2).mono (by decide), ?_⟩
  rw [q_add]; exact k
theorem ok_Lminus (T : Txt K mg D) : FnOk P w K mg base CX0 2 D.a_Lminus D.d_Lminus ["_law_one", "_law_other"] (Pu.spOf K [.dat, .dat] (ps_bin (·-·))) := by
  refine T.F_Lminus.ok sc_Lminus (Pu.spOf.len rfl) (fun cdv A outer s H vs Q E hr h => ?_)
  refine ⟨_, (QSs.out (qpss_one (qps_ret (qpe_call (ok_Llow (K := K) T) (hr.mono (by first | decide | omega)) rfl T.m_Llow T.F_Llow.kp (b_Llow T) .nil pass0 (qpa_cons (qpe_op op_sub (qpe_op op_mulB (qpe_ix (ix_seqK (K := K) rfl) (qpv 0) qpe_int (fun _ _ => rfl)) (qpe_ix (ix_seqK (K := K) rfl) (qpv 1) qpe_int (fun _ _ => rfl))) (qpe_op op_mulB (qpe_ix (ix_seqK (K := K) rfl) (qpv 1) qpe_int (fun _ _ => rfl)) (qpe_ix (ix_seqK (K := K) rfl) (qpv 0) qpe_int (fun _ _ => rfl)))) (qpa_cons (qpe_op op_mulB (qpe_ix (ix_seqK (K := K) rfl) (qpv 0) qpe_int (fun _ _ => rfl)) (qpe_ix (ix_seqK (K := K) rfl) (qpv 1) qpe_int (fun _ _ => rfl))) qpa_nil)))))), ?_⟩
  haveI := T.c2_NOUGHT
  haveI := T.c2_KINDS
  refine Pu.enter h ?_
  rintro as Qp ⟨p, q, rfl, sp, sq, k⟩
  trivial
  have p1 := sp.1.mono (l := 8000) (by decide)
  have p2 := sp.2.mono (l := 8000) (by decide)
  have q1 := sq.1.mono (l := 8000) (by decide)
  have q2 := sq.2.mono (l := 8000) (by decide)
  refine ⟨⟨p1, q2⟩, ⟨q1, p2⟩, ⟨p2, q2⟩, _, _, rfl, Int.mul_pos (denp p) (denp q), ((sp.1.mul sq.2).sub (sq.1.mul sp.2)).mono (by decide), (sp.2.mul sq.2).mono (by decide), ?_⟩
  rw [q_sub]; exact k
theorem ok_Ltimes (T : Txt K mg D) : FnOk P w K mg base CX0 2 D.a_Ltimes D.d_Ltimes ["_law_one", "_law_other"] (Pu.spOf K [.dat, .dat] (ps_bin (·*·))) := by
  refine T.F_Ltimes.ok sc_Ltimes (Pu.spOf.len rfl) (fun cdv A outer s H vs Q E hr h => ?_)
  refine ⟨_, (QSs.out (qpss_one (qps_ret (qpe_call (ok_Llow (K := K) T) (hr.mono (by first | decide | omega)) rfl T.m_Llow T.F_Llow.kp (b_Llow T) .nil pass0 (qpa_cons (qpe_op op_mulB (qpe_ix (ix_seqK (K := K) rfl) (qpv 0) qpe_int (fun _ _ => rfl)) (qpe_ix (ix_seqK (K := K) rfl) (qpv 1) qpe_int (fun _ _ => rfl))) (qpa_cons (qpe_op op_mulB (qpe_ix (ix_seqK (K := K) rfl) (qpv 0) qpe_int (fun _ _ => rfl)) (qpe_ix (ix_seqK (K := K) rfl) (qpv 1) qpe_int (fun _ _ => rfl))) qpa_nil)))))), ?_⟩
  haveI := T.c2_NOUGHT
  haveI := T.c2_KINDS
  refine Pu.enter h ?_
  rintro as Qp ⟨p, q, rfl, sp, sq, k⟩
  trivial
  have p1 := sp.1.mono (l := 8000) (by decide)
  have p2 := sp.2.mono (l := 8000) (by decide)
  have q1 := sq.1.mono (l := 8000) (by decide)
  have q2 := sq.2.mono (l := 8000) (by decide)
  refine ⟨⟨p1, q1⟩, ⟨p2, q2⟩, _, _, rfl, Int.mul_pos (denp p) (denp q), (sp.1.mul sq.1).mono (by decide), (sp.2.mul sq.2).mono (by decide), ?_⟩
  rw [q_mul]; exact k
theorem ok_Lamount (T : Txt K mg D) : FnOk P w K mg base CX0 2 D.a_Lamount D.d_Lamount ["_law_state", "_law_plain", "_law_least"] (Pu.spOf K [.st, .dat, .dat] ps_amount) := by
  refine T.F_Lamount.ok sc_Lamount (Pu.spOf.len rfl) (fun cdv A outer s H vs Q E hr h => ?_)
  refine ⟨_, (QSs.out (qpss_cons (qps_set (i := 3) sc_Lamount.nd rfl (Or.inl rfl) (qpe_call (ok_Ltake (K := K) T) (hr.mono (by first | decide | omega)) rfl T.m_Ltake T.F_Ltake.kp (b_Ltake T) .nil pass0 (qpa_cons (qpv 0) (qpa_cons qpe_int qpa_nil))))
      (qpss_cons (qps_if (qpt_val (qpv 1))
        (qpss_one (qps_ret (qpe_tup (qpa_cons (qpe_op op_add (qpv 2) (qpe_call (ok_Ltake (K := K) T) (hr.mono (by first | decide | omega)) rfl T.m_Ltake T.F_Ltake.kp (b_Ltake T) .nil pass0 (qpa_cons (qpv 0) (qpa_cons (qpe_ix (ix_seqK (K := K) rfl) (qpe_lst (qpa_cons qpe_int (qpa_cons qpe_int (qpa_cons qpe_int (qpa_cons qpe_int (qpa_cons qpe_int (qpa_cons qpe_int qpa_nil))))))) (qpv 3) (fun _ _ => rfl)) qpa_nil)))) (qpa_cons qpe_int qpa_nil)))))
        qpss_nil)
      (qpss_cons (qps_set (i := 4) sc_Lamount.nd rfl (Or.inl rfl) (qpe_op op_add qpe_int (qpe_call (ok_Ltake (K := K) T) (hr.mono (by first | decide | omega)) rfl T.m_Ltake T.F_Ltake.kp (b_Ltake T) .nil pass0 (qpa_cons (qpv 0) (qpa_cons (qpe_ix (ix_seqK (K := K) rfl) (qpe_lst (qpa_cons qpe_int (qpa_cons qpe_int (qpa_cons qpe_int (qpa_cons qpe_int (qpa_cons qpe_int (qpa_cons qpe_int qpa_nil))))))) (qpv 3) (fun _ _ => rfl)) qpa_nil)))))
      (qpss_one (qps_ret (qpe_call (ok_Llow (K := K) T) (hr.mono (by first | decide | omega)) rfl T.m_Llow T.F_Llow.kp (b_Llow T) .nil pass0 (qpa_cons (qpe_op op_add (qpv 2) (qpe_call (ok_Ltake (K := K) T) (hr.mono (by first | decide | omega)) rfl T.m_Ltake T.F_Ltake.kp (b_Ltake T) .nil pass0 (qpa_cons (qpv 0) (qpa_cons (qpe_ix (ix_seqK (K := K) rfl) (qpe_lst (qpa_cons qpe_int (qpa_cons qpe_int (qpa_cons qpe_int (qpa_cons qpe_int (qpa_cons (qpe_op op_pow qpe_int qpe_int) (qpa_cons qpe_int qpa_nil))))))) (qpv 3) (fun _ _ => rfl)) qpa_nil)))) (qpa_cons (qpv 4) qpa_nil))))))))), ?_⟩
  haveI := T.c2_NOUGHT
  haveI := T.c2_KINDS
  refine Pu.enter h ?_
  rintro as Qp ⟨pl, le, rfl, hle, k⟩
  trivial
  refine ⟨6, rfl, by decide, sm4 6, fun d d0 d6 => ?_⟩
  trivial
  refine ite2 (fun hp => ?_) (fun hp => ?_)
  · obtain ⟨z, hz, e⟩ := menuP (xs := [2, 3, 3, 4, 5, 6]) d0 d6
    have hb : 2 ≤ z ∧ z ≤ 6 := by simp at hz; omega
    refine pGet_of e ?_
    trivial
    refine ⟨z, rfl, by omega, sm_200 (by omega) (by omega), fun d2 g0 g1 => ?_⟩
    trivial
    rw [dq_int]
    have s3 : Sm 3 (le + d2) := sm_of (B := 7) (by omega) (by omega) (by decide)
    exact k _ (int_nn (by omega)) (fun h1 => int_ps (by omega)) ((smr_int s3).mono (by decide) (by decide)) fun _ => ⟨smr_int s3, smr_den (smr_int s3)⟩
  · obtain ⟨x, hx, ex⟩ := menuP (xs := [1, 1, 2, 4, 12, 60]) d0 d6
    have hbx : 1 ≤ x ∧ x ≤ 60 := by simp at hx; omega
    obtain ⟨z, hz, ez⟩ := menuP (xs := [3, 9, 12, 30, 1000000000000, 90]) d0 d6
    have hbz : 3 ≤ z ∧ z ≤ 1000000000000 := by simp at hz; omega
    refine pGet_of ex ?_
    trivial
    refine ⟨x, rfl, by omega, sm_200 (by omega) (by omega), fun d1 f0 f1 => ?_⟩
    trivial
    refine ⟨cpow10 12, pGet_of ez ?_⟩
    trivial
    refine ⟨z, rfl, by omega, sm_200 (by omega) (by omega), fun d2 g0 g1 => ?_⟩
    trivial
    have st : Sm 41 (le + d2) := sm_of (B := 1000000000000) (by omega) (by omega) (by decide)
    have sb : Sm 6 (1 + d1) := sm_of (B := 60) (by omega) (by omega) (by decide)
    refine ⟨_, _, rfl, by omega, st.mono (by decide), sb.mono (by decide), ?_⟩
    exact k _ (q_nonneg (by omega) (by omega)) (fun h1 => q_pos (by omega) (by omega)) (SmR.low st sb (by omega)) fun h => absurd h hp
def ps_Loffer : Pu.PSp := fun as Q => ∃ kd : Str, as = [.st, .d (.str kd), .d (.int 5), .d (.bool false)] ∧ Kd kd ∧ ∀ cs, OfG kd cs 100 54 244 130 → Q (.d (offD kd cs))
theorem ok_Loffer (T : Txt K mg D) : FnOk P w K mg base CX0 3 D.a_Loffer D.d_Loffer ["_law_state", "_law_kind", "_law_most", "_law_plain"] (Pu.spOf K [.st, .dat, .dat, .dat] ps_Loffer) := by
  refine T.F_Loffer.ok sc_Loffer (Pu.spOf.len rfl) (fun cdv A outer s H vs Q E hr h => ?_)
  refine ⟨_, (QSs.out (qpss_cons (qps_set (i := 4) sc_Loffer.nd rfl (Or.inl rfl) (qpe_op op_add qpe_int (qpe_call (ok_Ltake (K := K) T) (hr.mono (by first | decide | omega)) rfl T.m_Ltake T.F_Ltake.kp (b_Ltake T) .nil pass0 (qpa_cons (qpv 0) (qpa_cons (qpv 2) qpa_nil)))))
      (qpss_cons (qps_set (i := 5) sc_Loffer.nd rfl (Or.inl rfl) (qpe_call (ok_Lamount (K := K) T) (hr.mono (by first | decide | omega)) rfl T.m_Lamount T.F_Lamount.kp (b_Lamount T) .nil pass0 (qpa_cons (qpv 0) (qpa_cons (qpv 3) (qpa_cons qpe_int qpa_nil)))))
      (qpss_cons (qps_set (i := 6) sc_Loffer.nd rfl (Or.inl rfl) (qpe_call (ok_Lamount (K := K) T) (hr.mono (by first | decide | omega)) rfl T.m_Lamount T.F_Lamount.kp (b_Lamount T) .nil pass0 (qpa_cons (qpv 0) (qpa_cons (qpv 3) (qpa_cons qpe_int qpa_nil)))))
      (qpss_cons (qps_setComp (i := 7) rfl sc_Loffer.nd rfl rfl (compSc_of (N' := ["_law_state", "_law_plain", "_law_k"]) (cap := [some 0, some 3, none]) rfl rfl rfl rfl (by decide +kernel) rfl rfl) (qpi_range1 rfl T.z_range (qpa_cons (qpe_op op_sub (qpv 4) qpe_int) qpa_nil)) (fun _ _ _ => (qpg_name (i := 2) (show (["_law_state", "_law_plain", "_law_k"] : List Str).Nodup from by decide +kernel) rfl (Or.inl rfl) (Or.inr rfl))) (fun _ _ _ => qpts_nil) (fun _ _ _ => (qpe_call (ok_Lamount (K := K) T) (hr.mono (by first | decide | omega)) rfl T.m_Lamount T.F_Lamount.kp (b_Lamount T) .nil pass0 (qpa_cons (qpv 0) (qpa_cons (qpv 1) (qpa_cons qpe_int qpa_nil))))) rfl)
      (qpss_cons (qps_for PassesOwn.never rfl (qpi_sqK (K := K) rfl (qpv 7)) (qpg_name (i := 8) sc_Loffer.nd rfl (Or.inl rfl) (Or.inl rfl))
        (qpss_one (qps_set (i := 5) sc_Loffer.nd rfl (Or.inl rfl) (qpe_call (ok_Lplus (K := K) T) (hr.mono (by first | decide | omega)) rfl T.m_Lplus T.F_Lplus.kp (b_Lplus T) .nil pass0 (qpa_cons (qpv 5) (qpa_cons (qpv 8) qpa_nil))))))
      (qpss_cons (qps_set (i := 9) sc_Loffer.nd rfl (Or.inl rfl) (qpe_lst (qpa_cons (qpe_tup (qpa_cons (qpv 5) (qpa_cons (qpv 6) qpa_nil))) qpa_nil)))
      (qpss_cons (qps_set (i := 10) sc_Loffer.nd rfl (Or.inl rfl) (qpe_tup (qpa_cons qpe_int (qpa_cons qpe_int qpa_nil))))
      (qpss_cons (qps_for PassesOwn.never rfl (qpi_sqK (K := K) rfl (qpv 7)) (qpg_name (i := 8) sc_Loffer.nd rfl (Or.inl rfl) (Or.inl rfl))
        (qpss_cons (qps_set (i := 11) sc_Loffer.nd rfl (Or.inl rfl) (qpe_call (ok_Lamount (K := K) T) (hr.mono (by first | decide | omega)) rfl T.m_Lamount T.F_Lamount.kp (b_Lamount T) .nil pass0 (qpa_cons (qpv 0) (qpa_cons (qpv 3) (qpa_cons qpe_int qpa_nil)))))
        (qpss_cons (qps_set (i := 5) sc_Loffer.nd rfl (Or.inl rfl) (qpe_call (ok_Lminus (K := K) T) (hr.mono (by first | decide | omega)) rfl T.m_Lminus T.F_Lminus.kp (b_Lminus T) .nil pass0 (qpa_cons (qpv 5) (qpa_cons (qpv 8) qpa_nil))))
        (qpss_cons (qps_set (i := 10) sc_Loffer.nd rfl (Or.inl rfl) (qpe_call (ok_Lplus (K := K) T) (hr.mono (by first | decide | omega)) rfl T.m_Lplus T.F_Lplus.kp (b_Lplus T) .nil pass0 (qpa_cons (qpv 10) (qpa_cons (qpv 11) qpa_nil))))
        (qpss_cons (qps_if (qpt_cmpR (op_eqDK (K := K) rfl hr.units) (qpv 1) qpe_str (nomark _))
          (qpss_one (qps_set (i := 11) sc_Loffer.nd rfl (Or.inl rfl) (qpe_call (ok_Ltimes (K := K) T) (hr.mono (by first | decide | omega)) rfl T.m_Ltimes T.F_Ltimes.kp (b_Ltimes T) .nil pass0 (qpa_cons (qpv 10) (qpa_cons (qpv 8) qpa_nil)))))
          qpss_nil)
        (qpss_cons (qps_set (i := 6) sc_Loffer.nd rfl (Or.inl rfl) (qpe_call (ok_Lplus (K := K) T) (hr.mono (by first | decide | omega)) rfl T.m_Lplus T.F_Lplus.kp (b_Lplus T) .nil pass0 (qpa_cons (qpv 6) (qpa_cons (qpv 11) qpa_nil))))
        (qpss_one (qps_expr (qpe_bmK (K := K) rfl PySem.F.plainAttrs_list PySem.F.slot_list_append PySem.F.type_list_append mt_append (qpv 9) (qpa_cons (qpe_tup (qpa_cons (qpv 5) (qpa_cons (qpv 6) qpa_nil))) qpa_nil))))))))))
      (qpss_one (qps_ret (qpe_tup (qpa_cons (qpv 1) (qpa_cons (qpv 9) qpa_nil)))))))))))))), ?_⟩
  haveI := T.c2_NOUGHT
  haveI := T.c2_KINDS
  refine Pu.enter h ?_
  rintro as Qp ⟨kd, rfl, hk, k⟩
  trivial
  refine ⟨5, rfl, by decide, sm4 5, fun d d0 d1 => ?_⟩
  trivial
  refine ⟨_, _, rfl, .inl rfl, fun q1 q10 _ s1 _ => ?_⟩
  trivial
  refine ⟨_, _, rfl, .inl rfl, fun q2 q20 _ s2 _ => ?_⟩
  trivial
  refine ⟨by omega, by rw [rngD_len]; omega, ?_⟩
  refine comp_rng (fun i e ys => ∃ (qs : List Rat) (o : Option SV), e = [some .st, some (.d (.bool false)), o] ∧ ys = qs.map dq ∧ qs.length = i ∧ ∀ q ∈ qs, 0 < q ∧ SmR 41 6 q) ⟨[], _, rfl, rfl, rfl, fun _ z => nomatch z⟩ ?_ ?_
  · rintro i e ys hi ⟨qs, o, rfl, rfl, hl, hq⟩
    trivial
    refine ⟨_, _, rfl, .inr rfl, fun q _ qp sq _ => ?_⟩
    trivial
    refine ⟨qs ++ [q], _, rfl, by rw [List.map_append]; rfl, by simp [hl], fun c z => (List.mem_append.mp z).elim (hq c) fun z => ?_⟩
    simp at z; subst z; exact ⟨qp rfl, sq⟩
  · rintro e ys ⟨qs, o, rfl, rfl, hl, hq⟩
    have hm : qs.length ≤ 4 := by omega
    trivial
    refine for_map (fun i e => ∃ (o8 : Option SV) (T' : Rat), e = [some .st, some (.d (.str kd)), some (.d (.int 5)), some (.d (.bool false)), some (.d (.int (1 + d))), some (.d (dq T')), some (.d (dq q2)), some (.d (.list (qs.map dq))), o8, none, none, none] ∧ SmR (41 + 7 * i) (6 + 6 * i) T' ∧ T' = q1 + sumR (qs.take i)) ⟨_, _, rfl, s1, by show q1 = q1 + 0; grind⟩ ?_ ?_
    · rintro i q e hqi ⟨o8, T', rfl, sT, eT⟩
      have hil : i < qs.length := (List.getElem?_eq_some_iff.mp hqi).1
      have sg := (hq q (List.mem_of_getElem? hqi)).2
      trivial
      refine ⟨_, _, rfl, sT.q (by omega) (by omega), sg.q (by decide) (by decide), ?_⟩
      trivial
      exact ⟨_, _, rfl, (sT.add sg).mono (by omega) (by omega), by rw [List.take_add_one, hqi, Option.toList_some, sumR_snoc, eT]; grind⟩
    · rintro e ⟨o8, T0, rfl, sT0, eT0⟩
      try rw [List.length_map] at eT0
      rw [List.take_length] at eT0
      have hq0 : ∀ q ∈ qs, 0 < q := fun q hq' => (hq q hq').1
      have sT0 : SmR 69 30 T0 := sT0.mono (by omega) (by omega)
      trivial
      refine for_map (fun i e => ∃ (o8 o11 : Option SV) (T' P' R' : Rat) (cs : List (Rat × Rat)), e = [some .st, some (.d (.str kd)), some (.d (.int 5)), some (.d (.bool false)), some (.d (.int (1 + d))), some (.d (dq T')), some (.d (dq P')), some (.d (.list (qs.map dq))), o8, some (.own ((cs ++ [(T', P')]).map dcn)), some (.d (dq R')), o11] ∧
        SmR (69 + 7 * i) (30 + 6 * i) T' ∧ SmR (116 + 32 * i) (6 + 31 * i) P' ∧ SmR (41 + 7 * i) (1 + 6 * i) R' ∧ (T' = q1 + sumR (qs.drop i) ∧ 0 ≤ P' ∧ 0 ≤ R' ∧ RiseO (cs ++ [(T', P')]) ∧ ∀ c ∈ cs, 0 ≤ c.1 ∧ 0 ≤ c.2) ∧ (kd = "straight" → CvR (cs ++ [(T', P')]) R') ∧ Dec (cs ++ [(T', P')]) ∧ cs.length = i ∧ ∀ c ∈ cs, SmR 100 54 c.1 ∧ SmR 244 130 c.2)
        ⟨_, _, T0, q2, 0, [], rfl, sT0, s2.mono (by decide) (by decide), sm_zero.mono (by decide) (by decide), ⟨eT0, q20, Rat.le_refl, RiseO.one _, fun _ z => nomatch z⟩, fun _ => CvR.one _, True.intro, rfl, fun _ z => nomatch z⟩ ?_ ?_
      · rintro i q e hqi ⟨o8, o11, T', P', R', cs, rfl, sT, sP, sR, ⟨eT, P0, R0, up, nn⟩, cv, dec, hcl, hcs⟩
        have hil : i < qs.length := (List.getElem?_eq_some_iff.mp hqi).1
        obtain ⟨qp, sg⟩ := hq q (List.mem_of_getElem? hqi)
        have ed : qs.drop i = q :: qs.drop (i + 1) := by rw [List.drop_eq_getElem_cons hil]; congr 1; exact (List.getElem?_eq_some_iff.mp hqi).2
        have eT2 : T' - q = q1 + sumR (qs.drop (i + 1)) := by
          rw [ed] at eT
          have : sumR (q :: qs.drop (i + 1)) = q + sumR (qs.drop (i + 1)) := rfl
          rw [this] at eT; grind
        have nT2 := sumR_nn (qs := qs.drop (i + 1)) fun x hx => hq0 x (List.mem_of_mem_drop hx)
        have nT := sumR_nn (qs := qs.drop i) fun x hx => hq0 x (List.mem_of_mem_drop hx)
        trivial
        refine ⟨_, _, rfl, .inr rfl, fun v1 _ vp sv1 _ => ?_⟩
        have v0 := vp rfl
        have nn' : ∀ c ∈ cs ++ [(T', P')], 0 ≤ c.1 ∧ 0 ≤ c.2 := fun c hc => by
          rcases List.mem_append.mp hc with z | z
          · exact nn c z
          · cases List.mem_singleton.mp z
            exact ⟨by show 0 ≤ T'; rw [eT]; grind, P0⟩
        trivial
        refine ⟨_, _, rfl, sT.q (by omega) (by omega), sg.q (by decide) (by decide), ?_⟩
        trivial
        refine ⟨_, _, rfl, sR.q (by omega) (by omega), sv1.q (by decide) (by decide), ?_⟩
        trivial
        have sT2 : SmR (69 + 7 * (i + 1)) (30 + 6 * (i + 1)) (T' - q) := (sT.sub sg).mono (by omega) (by omega)
        have sR2 : SmR (41 + 7 * (i + 1)) (1 + 6 * (i + 1)) (R' + v1) := (sR.add sv1).mono (by omega) (by omega)
        refine ⟨hk.lay, lay_st, ?_⟩
        refine ite2 (fun h2 => ?_) (fun h2 => ?_)
        case' refine_1 =>
          refine ⟨_, _, rfl, sR2.q (by omega) (by omega), sg.q (by decide) (by decide), ?_⟩
          trivial
          have sv2 : SmR 110 31 ((R' + v1) * q) := (sR2.mul sg).mono (by omega) (by omega)
          obtain ⟨v2, ev2⟩ : ∃ v2, v2 = (R' + v1) * q := ⟨_, rfl⟩
          rw [← ev2] at sv2 ⊢
          have hv : kd = "straight" → v2 = (R' + v1) * q := fun _ => ev2
          have w0 : 0 < v2 := by rw [ev2]; exact Rat.mul_pos (by grind) qp
        case' refine_2 =>
          have sv2 : SmR 110 31 v1 := sv1.mono (by decide) (by decide)
          have hv : kd = "straight" → v1 = (R' + v1) * q := fun z => absurd (by rw [z]; exact eqv_tt) h2
          have w0 : 0 < v1 := v0
        all_goals
          refine ⟨_, _, rfl, sP.q (by omega) (by omega), sv2.q (by decide) (by decide), ?_⟩
          trivial
          refine ⟨by simp; omega, _, _, _, _, _, cs ++ [(T', P')], by simp only [List.map_append]; rfl, sT2, (sP.add sv2).mono (by omega) (by omega), sR2, ⟨eT2, by grind, by grind, RiseO.snoc up (by show T' - q < T'; grind) (by show P' < P' + _; grind), nn'⟩, fun z => (cv z).step qp (vp rfl) (hv z), Dec.snoc dec (by show T' - q < T'; grind), by simp [hcl], fun c hc => ?_⟩
          rcases List.mem_append.mp hc with z | z
          · exact hcs c z
          · cases List.mem_singleton.mp z
            exact ⟨sT.mono (by omega) (by omega), sP.mono (by omega) (by omega)⟩
      · rintro e ⟨o8, o11, T', P', R', cs, rfl, sT, sP, sR, ⟨eT, P0, R0, up, nn⟩, cv, dec, hcl, hcs⟩
        trivial
        have nT := sumR_nn (qs := qs.drop (qs.map dq).length) fun x hx => hq0 x (List.mem_of_mem_drop hx)
        refine k _ ⟨⟨by simp, by simp; omega, dec, fun c hc => ?_⟩, fun c hc => ?_, up, fun z => (cv z).1⟩
        · rcases List.mem_append.mp hc with z | z
          · exact hcs c z
          · simp at z; subst z; exact ⟨sT.mono (by omega) (by omega), sP.mono (by omega) (by omega)⟩
        · rcases List.mem_append.mp hc with z | z
          · exact nn c z
          · simp at z; subst z; exact ⟨by show 0 ≤ T'; rw [eT]; grind, P0⟩
def ps_Lscaled : Pu.PSp := fun as Q => ∃ (kd : Str) (cs : List (Rat × Rat)), as = [.st, .d (offD kd cs)] ∧ OfG kd cs 100 54 244 130 ∧ ∀ cs', OfG kd cs' 161 85 285 151 → Q (.d (offD kd cs'))
theorem ok_Lscaled (T : Txt K mg D) : FnOk P w K mg base CX0 3 D.a_Lscaled D.d_Lscaled ["_law_state", "_law_offer_here"] (Pu.spOf K [.st, .dat] ps_Lscaled) := by
  refine T.F_Lscaled.ok sc_Lscaled (Pu.spOf.len rfl) (fun cdv A outer s H vs Q E hr h => ?_)
  refine ⟨_, (QSs.out (qpss_cons (qps_set (i := 2) sc_Lscaled.nd rfl (Or.inr rfl) (qpe_call (ok_Llow (K := K) T) (hr.mono (by first | decide | omega)) rfl T.m_Llow T.F_Llow.kp (b_Llow T) .nil pass0 (qpa_cons (qpe_op op_add qpe_int (qpe_call (ok_Ltake (K := K) T) (hr.mono (by first | decide | omega)) rfl T.m_Ltake T.F_Ltake.kp (b_Ltake T) .nil pass0 (qpa_cons (qpv 0) (qpa_cons (qpe_op op_pow qpe_int qpe_int) qpa_nil)))) (qpa_cons (qpe_op op_add qpe_int (qpe_call (ok_Ltake (K := K) T) (hr.mono (by first | decide | omega)) rfl T.m_Ltake T.F_Ltake.kp (b_Ltake T) .nil pass0 (qpa_cons (qpv 0) (qpa_cons (qpe_op op_pow qpe_int qpe_int) qpa_nil)))) qpa_nil))))
      (qpss_cons (qps_set (i := 3) sc_Lscaled.nd rfl (Or.inr rfl) (qpe_call (ok_Llow (K := K) T) (hr.mono (by first | decide | omega)) rfl T.m_Llow T.F_Llow.kp (b_Llow T) .nil pass0 (qpa_cons (qpe_op op_add qpe_int (qpe_call (ok_Ltake (K := K) T) (hr.mono (by first | decide | omega)) rfl T.m_Ltake T.F_Ltake.kp (b_Ltake T) .nil pass0 (qpa_cons (qpv 0) (qpa_cons (qpe_op op_pow qpe_int qpe_int) qpa_nil)))) (qpa_cons (qpe_op op_add qpe_int (qpe_call (ok_Ltake (K := K) T) (hr.mono (by first | decide | omega)) rfl T.m_Ltake T.F_Ltake.kp (b_Ltake T) .nil pass0 (qpa_cons (qpv 0) (qpa_cons (qpe_op op_pow qpe_int qpe_int) qpa_nil)))) qpa_nil))))
      (qpss_one (qps_ret (qpe_tup (qpa_cons (qpe_ix (ix_seqK (K := K) rfl) (qpv 1) qpe_int (fun _ _ => rfl)) (qpa_cons (qpe_comp rfl (compSc_of (N' := ["_law_span", "_law_cost", "_law_time", "_law_price"]) (cap := [some 2, some 3, none, none]) rfl rfl rfl rfl (by decide +kernel) rfl rfl) (qpi_sqK (K := K) rfl (qpe_ix (ix_seqK (K := K) rfl) (qpv 1) qpe_int (fun _ _ => rfl))) (fun _ _ _ => (qpg_tupK (K := K) (n := 2) rfl rfl (qpgs_cons (qpg_name (i := 2) (show (["_law_span", "_law_cost", "_law_time", "_law_price"] : List Str).Nodup from by decide +kernel) rfl (Or.inl rfl) (Or.inr rfl)) (qpgs_cons (qpg_name (i := 3) (show (["_law_span", "_law_cost", "_law_time", "_law_price"] : List Str).Nodup from by decide +kernel) rfl (Or.inl rfl) (Or.inr rfl)) qpgs_nil)) rfl rfl)) (fun _ _ _ => qpts_nil) (fun _ _ _ => (qpe_tup (qpa_cons (qpe_call (ok_Ltimes (K := K) T) (hr.mono (by first | decide | omega)) rfl T.m_Ltimes T.F_Ltimes.kp (b_Ltimes T) .nil pass0 (qpa_cons (qpv 2) (qpa_cons (qpv 0) qpa_nil))) (qpa_cons (qpe_call (ok_Ltimes (K := K) T) (hr.mono (by first | decide | omega)) rfl T.m_Ltimes T.F_Ltimes.kp (b_Ltimes T) .nil pass0 (qpa_cons (qpv 3) (qpa_cons (qpv 1) qpa_nil))) qpa_nil))))) qpa_nil)))))))), ?_⟩
  haveI := T.c2_NOUGHT
  haveI := T.c2_KINDS
  refine Pu.enter h ?_
  rintro as Qp ⟨kd, cs, rfl, ⟨ok, nn, up, cv⟩, k⟩
  unfold offD at *
  trivial
  refine ⟨cpow10 18, _, rfl, by decide, sm_200 (by decide) (by decide), fun d1 d10 d11 => ?_⟩
  trivial
  refine ⟨cpow10 9, _, rfl, by decide, sm_200 (by decide) (by decide), fun d2 d20 d21 => ?_⟩
  trivial
  have d11 : d1 < 1000000000000000000 := d11
  have d21 : d2 < 1000000000 := d21
  have b1 : Sm 61 (1 + d1) := sm_of (B := 1000000000000000000) (by omega) (by omega) (by decide)
  have b2 : Sm 31 (1 + d2) := sm_of (B := 1000000000) (by omega) (by omega) (by decide)
  refine ⟨_, _, rfl, by omega, b1.mono (by decide), b2.mono (by decide), ?_⟩
  trivial
  have sspan : SmR 61 31 (Rat.divInt (1 + d1) (1 + d2)) := SmR.low b1 b2 (by omega)
  have pspan : 0 < Rat.divInt (1 + d1) (1 + d2) := q_pos (by omega) (by omega)
  generalize Rat.divInt (1 + d1) (1 + d2) = span at sspan pspan ⊢
  refine ⟨cpow10 12, _, rfl, by decide, sm_200 (by decide) (by decide), fun d3 d30 d31 => ?_⟩
  trivial
  refine ⟨cpow10 6, _, rfl, by decide, sm_200 (by decide) (by decide), fun d5 d50 d51 => ?_⟩
  trivial
  have d31 : d3 < 1000000000000 := d31
  have d51 : d5 < 1000000 := d51
  have b3 : Sm 41 (1 + d3) := sm_of (B := 1000000000000) (by omega) (by omega) (by decide)
  have b4 : Sm 21 (1 + d5) := sm_of (B := 1000000) (by omega) (by omega) (by decide)
  refine ⟨_, _, rfl, by omega, b3.mono (by decide), b4.mono (by decide), ?_⟩
  trivial
  have scost : SmR 41 21 (Rat.divInt (1 + d3) (1 + d5)) := SmR.low b3 b4 (by omega)
  have pcost : 0 < Rat.divInt (1 + d3) (1 + d5) := q_pos (by omega) (by omega)
  generalize Rat.divInt (1 + d3) (1 + d5) = cost at scost pcost ⊢
  refine ⟨by have := ok.le; omega, ?_⟩
  refine comp_map (fun i e ys => ∃ o2 o3 : Option SV, e = [some (.d (dq span)), some (.d (dq cost)), o2, o3] ∧ ys = (((cs.map fun c => (c.1 * span, c.2 * cost)).take i).map dcn)) ⟨_, _, rfl, rfl⟩ ?_ ?_
  · rintro i c e ys hc ⟨o2, o3, rfl, rfl⟩
    obtain ⟨s1, s2⟩ := ok.sm c (List.mem_of_getElem? hc)
    trivial
    refine ⟨_, _, rfl, s1.q (by decide) (by decide), sspan.q (by decide) (by decide), ?_⟩
    trivial
    refine ⟨_, _, rfl, s2.q (by decide) (by decide), scost.q (by decide) (by decide), ?_⟩
    trivial
    exact ⟨_, _, rfl, by rw [List.take_add_one, List.getElem?_map, hc, List.map_append]; rfl⟩
  · rintro e ys ⟨o2, o3, rfl, rfl⟩
    rw [List.take_of_length_le (by rw [List.length_map]; exact Nat.le_refl _)]
    trivial
    refine k _ ⟨⟨by rw [List.length_map]; exact ok.ne, by rw [List.length_map]; exact ok.le, Dec.scale pspan (· * cost) ok.dec, ?_⟩, ?_, up.scale pspan pcost, fun z => CvI.scale pspan pcost (Dec_ltt ok.dec) (cv z)⟩
    · intro c hc
      obtain ⟨c0, hc0, rfl⟩ := List.mem_map.mp hc
      obtain ⟨s1, s2⟩ := ok.sm c0 hc0
      exact ⟨(s1.mul sspan).mono (by decide) (by decide), (s2.mul scost).mono (by decide) (by decide)⟩
    · intro c hc
      obtain ⟨c0, hc0, rfl⟩ := List.mem_map.mp hc
      obtain ⟨n1, n2⟩ := nn c0 hc0
      exact ⟨Rat.mul_nonneg n1 (Rat.le_of_lt pspan), Rat.mul_nonneg n2 (Rat.le_of_lt pcost)⟩
def ps_aredearerinorder : Pu.PSp := fun as Q => ∃ cs : List (Rat × Rat), as = [.d (.list (cs.map dcn))] ∧ cs.length ≤ 1000 ∧ (∀ c ∈ cs, SmR 200 200 c.1 ∧ SmR 1000 1000 c.2) ∧ ∀ b : Bool, (b = true ↔ RiseO cs) → Q (.d (.bool b))
theorem ok_aredearerinorder (T : Txt K mg D) : FnOk P w K mg base CX0 2 D.a_aredearerinorder D.d_aredearerinorder ["corners"] (Pu.spOf K [.dat] ps_aredearerinorder) := by
  refine T.F_aredearerinorder.ok sc_aredearerinorder (Pu.spOf.len rfl) (fun cdv A outer s H vs Q E hr h => ?_)
  refine ⟨_, (QSs.out (qpss_cons (qps_for PassesOwn.never rfl (qpi_range2 rfl T.z_range (qpa_cons qpe_int (qpa_cons (qpe_callB (call_len2K (K := K) rfl) (by rfl) T.z_len PySem.boot_len (qpa_cons (qpv 0) qpa_nil)) qpa_nil))) (qpg_name (i := 1) sc_aredearerinorder.nd rfl (Or.inl rfl) (Or.inl rfl))
        (qpss_cons (qps_par (i := 2) (j := 3) rfl sc_aredearerinorder.nd rfl rfl (by decide) rfl rfl (qpa_cons (qpe_ix (ix_seqK (K := K) rfl) (qpv 0) (qpe_op op_sub (qpv 1) qpe_int) (fun _ _ => rfl)) (qpa_cons (qpe_ix (ix_seqK (K := K) rfl) (qpv 0) (qpv 1) (fun _ _ => rfl)) qpa_nil)) rfl)
        (qpss_one (qps_if (QW.pt (qpw_or (qpt_not (qpt_val (qpe_call (ok_isless (K := K) T) (hr.mono (by first | decide | omega)) rfl T.m_isless T.F_isless.kp (b_isless T) .nil pass0 (qpa_cons (qpe_ix (ix_seqK (K := K) rfl) (qpv 3) qpe_int (fun _ _ => rfl)) (qpa_cons (qpe_ix (ix_seqK (K := K) rfl) (qpv 2) qpe_int (fun _ _ => rfl)) qpa_nil))))) (qpw_or1 (qpt_not (qpt_val (qpe_call (ok_isless (K := K) T) (hr.mono (by first | decide | omega)) rfl T.m_isless T.F_isless.kp (b_isless T) .nil pass0 (qpa_cons (qpe_ix (ix_seqK (K := K) rfl) (qpv 2) qpe_int (fun _ _ => rfl)) (qpa_cons (qpe_ix (ix_seqK (K := K) rfl) (qpv 3) qpe_int (fun _ _ => rfl)) qpa_nil))))))))
          (qpss_one (qps_ret qpe_bl))
          qpss_nil))))
      (qpss_one (qps_ret qpe_bl)))), ?_⟩
  haveI := T.c2_NOUGHT
  haveI := T.c2_KINDS
  refine Pu.enter h ?_
  rintro as Qp ⟨cs, rfl, hl, sm, k⟩
  trivial
  refine ⟨by omega, for_rng (fun i e => ∃ o1 o2 o3 : Option SV, e = [some (.d (.list (cs.map dcn))), o1, o2, o3] ∧ ∀ j c d, j < i → cs[j]? = some c → cs[j + 1]? = some d → d.1 < c.1 ∧ c.2 < d.2) ⟨_, _, _, rfl, fun j c d z => absurd z (Nat.not_lt_zero j)⟩ ?_ ?_⟩
  · rintro i e hi ⟨o1, o2, o3, rfl, hn⟩
    have hi : i + 1 < cs.length := by omega
    obtain ⟨c, ec⟩ : ∃ c, cs[i]? = some c := ⟨_, List.getElem?_eq_getElem (by omega)⟩
    obtain ⟨d, ed⟩ : ∃ d, cs[i + 1]? = some d := ⟨_, List.getElem?_eq_getElem (by omega)⟩
    have sc := sm c (List.mem_of_getElem? ec)
    have sd := sm d (List.mem_of_getElem? ed)
    trivial
    rw [show (1 : Int) + (i : Int) - 1 = (i : Int) by omega]
    refine pGet_map ec ?_
    trivial
    rw [show (1 : Int) + (i : Int) = ((i + 1 : Nat) : Int) by omega]
    refine pGet_map ed ?_
    trivial
    refine ⟨_, _, rfl, sd.1.q (by decide) (by decide), sc.1.q (by decide) (by decide), ?_⟩
    by_cases h1 : d.1 < c.1
    · rw [decide_eq_true h1]
      trivial
      refine ⟨_, _, rfl, sc.2.q (by decide) (by decide), sd.2.q (by decide) (by decide), ?_⟩
      by_cases h2 : c.2 < d.2
      · rw [decide_eq_true h2]
        trivial
        refine ⟨_, _, _, rfl, fun j c' d' hj hc hd => ?_⟩
        rcases Nat.lt_succ_iff_lt_or_eq.mp hj with z | z
        · exact hn j c' d' z hc hd
        · subst z; rw [ec] at hc; rw [ed] at hd; cases hc; cases hd; exact ⟨h1, h2⟩
      · rw [decide_eq_false h2]
        trivial
        exact k _ ⟨fun z => Bool.noConfusion z, fun z => absurd (z i c d ec ed).2 h2⟩
    · rw [decide_eq_false h1]
      trivial
      exact k _ ⟨fun z => Bool.noConfusion z, fun z => absurd (z i c d ec ed).1 h1⟩
  · rintro e ⟨o1, o2, o3, rfl, hn⟩
    trivial
    exact k _ ⟨fun _ i c d ec ed => hn i c d (by have := (List.getElem?_eq_some_iff.mp ed).1; omega) ec ed, fun _ => rfl⟩
def ps_areeversteeper : Pu.PSp := fun as Q => ∃ cs : List (Rat × Rat), as = [.d (.list (cs.map dcn))] ∧ cs.length ≤ 1000 ∧ (∀ c ∈ cs, SmR 200 200 c.1 ∧ SmR 1000 1000 c.2) ∧ RiseO cs ∧ ∀ b : Bool, (b = true ↔ CvI cs) → Q (.d (.bool b))
theorem ok_areeversteeper (T : Txt K mg D) : FnOk P w K mg base CX0 5 D.a_areeversteeper D.d_areeversteeper ["corners"] (Pu.spOf K [.dat] ps_areeversteeper) := by
  refine T.F_areeversteeper.ok sc_areeversteeper (Pu.spOf.len rfl) (fun cdv A outer s H vs Q E hr h => ?_)
  refine ⟨_, (QSs.out (qpss_cons (qps_set (i := 1) sc_areeversteeper.nd rfl (Or.inr rfl) (qpe_comp rfl (compSc_of (N' := ["corners", "at"]) (cap := [some 0, none]) rfl rfl rfl rfl (by decide +kernel) rfl rfl) (qpi_range2 rfl T.z_range (qpa_cons qpe_int (qpa_cons (qpe_callB (call_len2K (K := K) rfl) (by rfl) T.z_len PySem.boot_len (qpa_cons (qpv 0) qpa_nil)) qpa_nil))) (fun _ _ _ => (qpg_name (i := 1) (show (["corners", "at"] : List Str).Nodup from by decide +kernel) rfl (Or.inl rfl) (Or.inr rfl))) (fun _ _ _ => qpts_nil) (fun _ _ _ => (qpe_call (ok_ratebetween (K := K) T) (hr.mono (by first | decide | omega)) rfl T.m_ratebetween T.F_ratebetween.kp (b_ratebetween T) .nil pass0 (qpa_cons (qpe_ix (ix_seqK (K := K) rfl) (qpv 0) (qpe_op op_sub (qpv 1) qpe_int) (fun _ _ => rfl)) (qpa_cons (qpe_ix (ix_seqK (K := K) rfl) (qpv 0) (qpv 1) (fun _ _ => rfl)) qpa_nil))))))
      (qpss_one (qps_ret (qpe_callB (call_allK (K := K) rfl) (by rfl) T.z_all (by rfl) (qpa_cons (qpe_comp rfl (compSc_of (N' := ["rates", "at"]) (cap := [some 1, none]) rfl rfl rfl rfl (by decide +kernel) rfl rfl) (qpi_range2 rfl T.z_range (qpa_cons qpe_int (qpa_cons (qpe_callB (call_len2K (K := K) rfl) (by rfl) T.z_len PySem.boot_len (qpa_cons (qpv 1) qpa_nil)) qpa_nil))) (fun _ _ _ => (qpg_name (i := 1) (show (["rates", "at"] : List Str).Nodup from by decide +kernel) rfl (Or.inl rfl) (Or.inr rfl))) (fun _ _ _ => qpts_nil) (fun _ _ _ => (qpe_call (ok_isless (K := K) T) (hr.mono (by first | decide | omega)) rfl T.m_isless T.F_isless.kp (b_isless T) .nil pass0 (qpa_cons (qpe_ix (ix_seqK (K := K) rfl) (qpv 0) (qpe_op op_sub (qpv 1) qpe_int) (fun _ _ => rfl)) (qpa_cons (qpe_ix (ix_seqK (K := K) rfl) (qpv 0) (qpv 1) (fun _ _ => rfl)) qpa_nil))))) qpa_nil)))))), ?_⟩
  haveI := T.c2_NOUGHT
  haveI := T.c2_KINDS
  refine Pu.enter h ?_
  rintro as Qp ⟨cs, rfl, hl, sm, up, k⟩
  trivial
  refine ⟨by omega, by rw [rngD_len]; omega, ?_⟩
  refine comp_rng (fun i e ys => ∃ (o : Option SV) (rs : List Rat), e = [some (.d (.list (cs.map dcn))), o] ∧ ys = rs.map dq ∧ rs.length = i ∧ ∀ (j : Nat) r, rs[j]? = some r → ∃ c d, cs[j]? = some c ∧ cs[j + 1]? = some d ∧ d.1 < c.1 ∧ r = steep c d) ⟨_, [], rfl, rfl, rfl, fun j r z => by cases z⟩ ?_ ?_
  · rintro i e ys hi ⟨o, rs, rfl, rfl, hrl, hr⟩
    have hi : i + 1 < cs.length := by omega
    obtain ⟨c, ec⟩ : ∃ c, cs[i]? = some c := ⟨_, List.getElem?_eq_getElem (by omega)⟩
    obtain ⟨d, ed⟩ : ∃ d, cs[i + 1]? = some d := ⟨_, List.getElem?_eq_getElem (by omega)⟩
    have h1 := (up i c d ec ed).1
    trivial
    rw [show (1 : Int) + (i : Int) - 1 = (i : Int) by omega]
    refine pGet_map ec ?_
    trivial
    rw [show (1 : Int) + (i : Int) = ((i + 1 : Nat) : Int) by omega]
    refine pGet_map ed ?_
    trivial
    refine ⟨c, d, rfl, h1, sm c (List.mem_of_getElem? ec), sm d (List.mem_of_getElem? ed), ?_⟩
    trivial
    refine ⟨_, rs ++ [steep c d], rfl, by rw [List.map_append]; rfl, by simp [hrl], fun j r hj => ?_⟩
    rcases Nat.lt_trichotomy j rs.length with z | z | z
    · rw [List.getElem?_append_left z] at hj; exact hr j r hj
    · subst z
      have : r = steep c d := by simpa using hj.symm
      rw [hrl]; exact ⟨c, d, ec, ed, h1, this⟩
    · rw [List.getElem?_eq_none (by simp; omega)] at hj; cases hj
  rintro e ys ⟨o, rs, rfl, rfl, hrl, hr⟩
  trivial
  have hrl : rs.length = cs.length - 1 := by omega
  have sr : ∀ (j : Nat) r, rs[j]? = some r → SmQ 3900 r := fun j r hj => by
    obtain ⟨c, d, ec, ed, h1, rfl⟩ := hr j r hj
    exact (so_steep h1 (sm c (List.mem_of_getElem? ec)) (sm d (List.mem_of_getElem? ed))).q (by decide) (by decide)
  refine ⟨by omega, by rw [rngD_len]; omega, ?_⟩
  refine comp_rng (fun i e ys => ∃ (o : Option SV) (bs : List Bool), e = [some (.bor (rs.map dq)), o] ∧ ys = (bs.map fun b => PyData.bool b) ∧ bs.length = i ∧ ∀ (j : Nat) b p q, bs[j]? = some b → rs[j]? = some p → rs[j + 1]? = some q → b = decide (p < q)) ⟨_, [], rfl, rfl, rfl, fun j b p q z => by cases z⟩ ?_ ?_
  · rintro i e ys hi ⟨o, bs, rfl, rfl, hbl, hb⟩
    have hi : i + 1 < rs.length := by omega
    obtain ⟨p, ep⟩ : ∃ c, rs[i]? = some c := ⟨_, List.getElem?_eq_getElem (by omega)⟩
    obtain ⟨q, eq⟩ : ∃ d, rs[i + 1]? = some d := ⟨_, List.getElem?_eq_getElem (by omega)⟩
    trivial
    rw [show (1 : Int) + (i : Int) - 1 = (i : Int) by omega]
    refine pGet_map ep ?_
    trivial
    rw [show (1 : Int) + (i : Int) = ((i + 1 : Nat) : Int) by omega]
    refine pGet_map eq ?_
    trivial
    refine ⟨p, q, rfl, sr i p ep, sr (i + 1) q eq, ?_⟩
    trivial
    refine ⟨_, bs ++ [decide (p < q)], rfl, by rw [List.map_append]; rfl, by simp [hbl], fun j b p' q' hj hp hq => ?_⟩
    rcases Nat.lt_trichotomy j bs.length with z | z | z
    · rw [List.getElem?_append_left z] at hj; exact hb j b p' q' hj hp hq
    · subst z
      have e1 : b = decide (p < q) := by simpa using hj.symm
      rw [hbl] at hp hq
      rw [ep] at hp; rw [eq] at hq; cases hp; cases hq; exact e1
    · rw [List.getElem?_eq_none (by simp; omega)] at hj; cases hj
  · rintro e ys ⟨o, bs, rfl, rfl, hbl, hb⟩
    trivial
    refine ⟨_, bls_map (fun b : Bool => b) bs, k _ ?_⟩
    rw [List.map_id', List.all_eq_true]
    constructor
    · intro h i a b c ha hb' hc
      have hlt := (List.getElem?_eq_some_iff.mp hc).1
      obtain ⟨p, ep⟩ : ∃ c, rs[i]? = some c := ⟨_, List.getElem?_eq_getElem (by omega)⟩
      obtain ⟨q, eq⟩ : ∃ d, rs[i + 1]? = some d := ⟨_, List.getElem?_eq_getElem (by omega)⟩
      obtain ⟨t, et⟩ : ∃ b, bs[i]? = some b := ⟨_, List.getElem?_eq_getElem (by omega)⟩
      have ht : t = true := h t (List.mem_of_getElem? et)
      have h2 := hb i t p q et ep eq
      rw [ht] at h2
      obtain ⟨c1, d1, x1, x2, _, rfl⟩ := hr i p ep
      obtain ⟨c2, d2, y1, y2, _, rfl⟩ := hr (i + 1) q eq
      rw [ha] at x1; rw [hb'] at x2 y1; rw [hc] at y2
      cases x1; cases x2; cases y1; cases y2
      exact of_decide_eq_true h2.symm
    · intro h t ht
      obtain ⟨i, hi, rfl⟩ := List.mem_iff_getElem.mp ht
      obtain ⟨p, ep⟩ : ∃ c, rs[i]? = some c := ⟨_, List.getElem?_eq_getElem (by omega)⟩
      obtain ⟨q, eq⟩ : ∃ d, rs[i + 1]? = some d := ⟨_, List.getElem?_eq_getElem (by omega)⟩
      have h2 := hb i _ p q (List.getElem?_eq_getElem hi) ep eq
      obtain ⟨c1, d1, x1, x2, _, rfl⟩ := hr i p ep
      obtain ⟨c2, d2, y1, y2, _, rfl⟩ := hr (i + 1) q eq
      rw [x2] at y1; cases y1
      show bs[i] = true
      rw [h2]; exact decide_eq_true (h i c1 d1 d2 x1 x2 y2)
def ps_isoffer : Pu.PSp := fun as Q => ∃ x : PyData, as = [.d x] ∧ OSm x ∧ Q (.d (.bool (ofB x)))
theorem ok_isoffer (T : Txt K mg D) : FnOk P w K mg base CX0 6 D.a_isoffer D.d_isoffer ["thing"] (Pu.spOf K [.dat] ps_isoffer) := by
  refine T.F_isoffer.ok sc_isoffer (Pu.spOf.len rfl) (fun cdv A outer s H vs Q E hr h => ?_)
  refine ⟨_, (QSs.out (qpss_cons (qps_if (qpt_not (qpt_val (qpe_call (ok_istupleof (K := K) T) (hr.mono (by first | decide | omega)) rfl T.m_istupleof T.F_istupleof.kp (b_istupleof T) .nil pass0 (qpa_cons (qpv 0) (qpa_cons qpe_int qpa_nil)))))
        (qpss_one (qps_ret qpe_bl))
        qpss_nil)
      (qpss_cons (qps_asg (qpv 0) (qpg_tupK (K := K) (n := 2) rfl rfl (qpgs_cons (qpg_name (i := 1) sc_isoffer.nd rfl (Or.inl rfl) (Or.inl rfl)) (qpgs_cons (qpg_name (i := 2) sc_isoffer.nd rfl (Or.inl rfl) (Or.inl rfl)) qpgs_nil)) rfl rfl))
      (qpss_cons (qps_if (QW.pt (qpw_or (qpt_not (qpt_val (qpe_callB (call_isiK (K := K) rfl) (by rfl) T.z_isinstance (by rfl) (qpa_cons (qpv 1) (qpa_cons (qpe_bltn (v := .ty "str") rfl T.z_str (by rfl) rfl) qpa_nil))))) (qpw_or1 (qpt_cmpR (op_notinDK (K := K) rfl hr.units) (qpv 1) (qpe_glob (v := .ref D.k_KINDS) rfl T.c_KINDS rfl) (by with_unfolding_all rfl)))))
        (qpss_one (qps_ret qpe_bl))
        qpss_nil)
      (qpss_cons (qps_if (QW.pt (qpw_or (qpt_not (qpt_val (qpe_callB (call_isiK (K := K) rfl) (by rfl) T.z_isinstance (by rfl) (qpa_cons (qpv 2) (qpa_cons (qpe_bltn (v := .ty "list") rfl T.z_list (by rfl) rfl) qpa_nil))))) (qpw_or1 (qpt_not (qpt_chain op_le op_le qpe_int (qpe_callB (call_len2K (K := K) rfl) (by rfl) T.z_len PySem.boot_len (qpa_cons (qpv 2) qpa_nil)) (qpe_glob (v := .int 5) rfl T.ci_MOST_CORNERS.choose_spec ⟨_, rfl⟩))))))
        (qpss_one (qps_ret qpe_bl))
        qpss_nil)
      (qpss_cons (qps_if (QW.pt (qpw_or (qpt_not (qpt_val (qpe_callB (call_allK (K := K) rfl) (by rfl) T.z_all (by rfl) (qpa_cons (qpe_comp rfl (compSc_of (N' := ["corner"]) (cap := [none]) rfl rfl rfl rfl (by decide +kernel) rfl rfl) (qpi_sqK (K := K) rfl (qpv 2)) (fun _ _ _ => (qpg_name (i := 0) (show (["corner"] : List Str).Nodup from by decide +kernel) rfl (Or.inl rfl) (Or.inr rfl))) (fun _ _ _ => qpts_nil) (fun _ _ _ => (qpe_call (ok_iscorner (K := K) T) (hr.mono (by first | decide | omega)) rfl T.m_iscorner T.F_iscorner.kp (b_iscorner T) .nil pass0 (qpa_cons (qpv 0) qpa_nil)))) qpa_nil)))) (qpw_or1 (qpt_not (qpt_val (qpe_call (ok_aredearerinorder (K := K) T) (hr.mono (by first | decide | omega)) rfl T.m_aredearerinorder T.F_aredearerinorder.kp (b_aredearerinorder T) .nil pass0 (qpa_cons (qpv 2) qpa_nil)))))))
        (qpss_one (qps_ret qpe_bl))
        qpss_nil)
      (qpss_one (qps_ret (qpe_or (qpe_cmpR (op_eqDK (K := K) rfl hr.units) (qpv 1) qpe_str (nomark _)) (qpe_one (qpe_call (ok_areeversteeper (K := K) T) (hr.mono (by first | decide | omega)) rfl T.m_areeversteeper T.F_areeversteeper.kp (b_areeversteeper T) .nil pass0 (qpa_cons (qpv 2) qpa_nil)))))))))))), ?_⟩
  haveI := T.c2_NOUGHT
  haveI := T.c2_KINDS
  refine Pu.enter h ?_
  rintro as Qp ⟨x, rfl, sx, k⟩
  trivial
  refine ⟨x, 2, rfl, ?_⟩
  trivial
  by_cases ht : isT 2 x = false
  · rw [if_pos ht]
    rw [ofB_no (fun z ds e => by subst e; exact absurd ht (fun q => by cases q))] at k
    exact k
  rw [if_neg ht]
  obtain ⟨a, b, rfl⟩ := isT_two ht
  trivial
  cases a with
  | str z =>
    trivial
    obtain ⟨hz, hds⟩ := sx _ _ rfl
    refine ⟨lay_kinds, hz z rfl, ?_⟩
    by_cases hk : Kd z
    case neg =>
      rw [if_pos (kinds_no hk)]
      rw [ofB_kd hk] at k
      exact k
    rw [if_neg (kinds_yes hk)]
    cases b with
    | list ds =>
      obtain ⟨hl, sd⟩ := hds ds rfl
      have no : ¬ (Kd z ∧ (1 ≤ ds.length ∧ ds.length ≤ 5) ∧ (∀ d ∈ ds, (bdOf d).isSome = true) ∧ RiseO (ds.filterMap bdOf) ∧ (z = "steps" ∨ CvI (ds.filterMap bdOf))) → Qp (.d (.bool false)) := fun q => by rw [ofB_f q] at k; exact k
      have yes : (Kd z ∧ (1 ≤ ds.length ∧ ds.length ≤ 5) ∧ (∀ d ∈ ds, (bdOf d).isSome = true) ∧ RiseO (ds.filterMap bdOf) ∧ (z = "steps" ∨ CvI (ds.filterMap bdOf))) → Qp (.d (.bool true)) := fun q => by rw [ofB_t q] at k; exact k
      trivial
      refine ite2 (fun h1 => ?_) (fun h1 => no fun q => h1 (by have := q.2.1.1; omega))
      refine ite2 (fun h5 => ?_) (fun h5 => no fun q => h5 (by have := q.2.1.2; omega))
      refine ⟨by omega, ⟨fun i e ys => ∃ o : Option SV, e = [o] ∧ ys = (ds.take i).map fun d => .bool (bdOf d).isSome, ⟨_, rfl, rfl⟩, ?_, ?_⟩⟩
      · rintro i x e ys hx ⟨o, rfl, rfl⟩
        trivial
        refine ⟨x, rfl, sd x (List.mem_of_getElem? hx), ?_⟩
        trivial
        refine ⟨_, rfl, ?_⟩
        rw [List.take_succ, hx, List.map_append]; rfl
      rintro e ys ⟨o, rfl, rfl⟩
      rw [List.take_length]
      trivial
      refine ⟨_, bls_map _ ds, ?_⟩
      by_cases hall : ∀ d ∈ ds, (bdOf d).isSome = true
      case neg =>
        rw [if_pos (by rw [List.all_map]; exact Bool.eq_false_iff.mpr fun z => hall (List.all_eq_true.mp z))]
        exact no fun q => hall q.2.2.1
      rw [if_neg (by rw [List.all_map]; intro z; exact absurd (List.all_eq_true.mpr hall) (by rw [show (ds.all fun d => (bdOf d).isSome) = _ from z]; decide))]
      obtain ⟨cs, ecs⟩ : ∃ cs, ds.filterMap bdOf = cs := ⟨_, rfl⟩
      have eds := bds_map hall
      rw [ecs] at eds no yes
      have sm : ∀ c ∈ cs, SmR 200 200 c.1 ∧ SmR 1000 1000 c.2 := fun c hc => by
        have := sd (dcn c) (by rw [eds]; exact List.mem_map.mpr ⟨c, hc, rfl⟩)
        exact this.sm
      have hlc : cs.length ≤ 1000 := by rw [eds, List.length_map] at hl; exact hl
      refine ⟨cs, by rw [← eds], hlc, sm, fun b hb => ?_⟩
      cases b with
      | false =>
        trivial
        exact no fun q => Bool.noConfusion (hb.mpr q.2.2.2.1)
      | true =>
        have up := hb.mp rfl
        trivial
        refine ⟨hk.lay, lay_sp, ?_⟩
        rcases id hk with hk' | hk'
        · have hk' : z = "straight" := hk'
          subst hk'
          rw [eqv_tp]
          trivial
          refine ⟨cs, by rw [← eds], hlc, sm, up, fun b hb => ?_⟩
          cases b with
          | false => exact no fun q => Bool.noConfusion (hb.mpr (q.2.2.2.2.resolve_left fun e => kd_ne e.symm))
          | true => exact yes ⟨hk, ⟨by omega, by omega⟩, hall, up, .inr (hb.mp rfl)⟩
        · have hk' : z = "steps" := hk'
          subst hk'
          rw [eqv_pp]
          trivial
          exact yes ⟨hk, ⟨by omega, by omega⟩, hall, up, .inl rfl⟩
    | _ =>
      trivial
      rw [ofB_no (fun z ds e => by cases e)] at k
      exact k
  | _ =>
    trivial
    rw [ofB_no (fun z ds e => by cases e)] at k
    exact k
def ps_Lothers : Pu.PSp := fun as Q => ∃ (kd : Str) (cs : List (Rat × Rat)), as = [.st, .d (offD kd cs)] ∧ Kd kd ∧ OfG kd cs 100 54 244 130 ∧ ∀ xs : List PyData, 0 < xs.length → xs.length ≤ 60 → (∀ x ∈ xs, Th x ∧ ofB x = false) → Q (.own xs)
theorem ok_Lothers (T : Txt K mg D) : FnOk P w K mg base CX0 2 D.a_Lothers D.d_Lothers ["_law_state", "_law_offer_here"] (Pu.spOf K [.st, .dat] ps_Lothers) := by
  refine T.F_Lothers.ok sc_Lothers (Pu.spOf.len rfl) (fun cdv A outer s H vs Q E hr h => ?_)
  refine ⟨_, (QSs.out (qpss_cons (qps_asg (qpv 1) (qpg_tupK (K := K) (n := 2) rfl rfl (qpgs_cons (qpg_name (i := 2) sc_Lothers.nd rfl (Or.inl rfl) (Or.inl rfl)) (qpgs_cons (qpg_name (i := 3) sc_Lothers.nd rfl (Or.inl rfl) (Or.inl rfl)) qpgs_nil)) rfl rfl))
      (qpss_cons (qps_set (i := 4) sc_Lothers.nd rfl (Or.inl rfl) (qpe_call (ok_Ltake (K := K) T) (hr.mono (by first | decide | omega)) rfl T.m_Ltake T.F_Ltake.kp (b_Ltake T) .nil pass0 (qpa_cons (qpv 0) (qpa_cons (qpe_callB (call_len2K (K := K) rfl) (by rfl) T.z_len PySem.boot_len (qpa_cons (qpv 3) qpa_nil)) qpa_nil))))
      (qpss_cons (qps_asg (qpe_ix (ix_seqK (K := K) rfl) (qpv 3) (qpv 4) (fun _ _ => rfl)) (qpg_tupK (K := K) (n := 2) rfl rfl (qpgs_cons (qpg_name (i := 5) sc_Lothers.nd rfl (Or.inl rfl) (Or.inl rfl)) (qpgs_cons (qpg_name (i := 6) sc_Lothers.nd rfl (Or.inl rfl) (Or.inl rfl)) qpgs_nil)) rfl rfl))
      (qpss_cons (qps_set (i := 7) sc_Lothers.nd rfl (Or.inl rfl) (qpe_lst (qpa_cons (qpe_tup (qpa_cons qpe_int (qpa_cons qpe_int qpa_nil))) (qpa_cons (qpe_tup (qpa_cons qpe_int (qpa_cons qpe_int qpa_nil))) (qpa_cons (qpe_tup (qpa_cons (qpe_un un_neg qpe_int) (qpa_cons qpe_int qpa_nil))) (qpa_cons (qpe_tup (qpa_cons qpe_int (qpa_cons (qpe_un un_neg qpe_int) qpa_nil))) (qpa_cons (qpe_lst (qpa_cons qpe_int (qpa_cons qpe_int qpa_nil))) (qpa_cons qpe_int (qpa_cons qpe_non (qpa_cons qpe_str (qpa_cons (qpe_tup (qpa_cons qpe_int qpa_nil)) (qpa_cons (qpe_tup (qpa_cons qpe_bl (qpa_cons qpe_int qpa_nil))) (qpa_cons (qpe_tup (qpa_cons qpe_int (qpa_cons qpe_bl qpa_nil))) (qpa_cons (qpe_tup (qpa_cons qpe_int (qpa_cons qpe_int qpa_nil))) (qpa_cons (qpe_tup (qpa_cons qpe_int (qpa_cons qpe_int (qpa_cons qpe_int qpa_nil)))) qpa_nil)))))))))))))))
      (qpss_cons (qps_set (i := 8) sc_Lothers.nd rfl (Or.inl rfl) (qpe_ix (ix_seqK (K := K) rfl) (qpv 7) (qpe_call (ok_Ltake (K := K) T) (hr.mono (by first | decide | omega)) rfl T.m_Ltake T.F_Ltake.kp (b_Ltake T) .nil pass0 (qpa_cons (qpv 0) (qpa_cons qpe_int qpa_nil))) (fun _ _ => rfl)))
      (qpss_cons (qps_set (i := 9) sc_Lothers.nd rfl (Or.inl rfl) (qpe_lst (qpa_cons qpe_non (qpa_cons qpe_int (qpa_cons (qpv 2) (qpa_cons (qpv 3) (qpa_cons (qpe_callTy (call_lstK (K := K) rfl) (by rfl) T.z_list (by rfl) (qpa_cons (qpv 1) qpa_nil)) (qpa_cons (qpe_tup (qpa_cons (qpv 2) qpa_nil)) (qpa_cons (qpe_op (op_catTK (K := K) rfl) (qpv 1) (qpe_tup (qpa_cons qpe_int qpa_nil))) (qpa_cons (qpe_tup (qpa_cons (qpv 3) (qpa_cons (qpv 2) qpa_nil))) (qpa_cons (qpe_tup (qpa_cons (qpv 2) (qpa_cons (qpe_callTy (call_tupK (K := K) rfl) (by rfl) T.z_tuple (by rfl) (qpa_cons (qpv 3) qpa_nil)) qpa_nil))) qpa_nil)))))))))))
      (qpss_cons (qps_set (i := 9) sc_Lothers.nd rfl (Or.inl rfl) (qpe_op (op_catK (K := K) rfl) (qpv 9) (qpe_lst (qpa_cons (qpe_tup (qpa_cons (qpv 2) (qpa_cons (qpe_lst qpa_nil) qpa_nil))) (qpa_cons (qpe_tup (qpa_cons (qpv 2) (qpa_cons qpe_non qpa_nil))) (qpa_cons (qpe_tup (qpa_cons qpe_str (qpa_cons (qpv 3) qpa_nil))) (qpa_cons (qpe_tup (qpa_cons qpe_str (qpa_cons (qpv 3) qpa_nil))) (qpa_cons (qpe_tup (qpa_cons qpe_non (qpa_cons (qpv 3) qpa_nil))) (qpa_cons (qpe_tup (qpa_cons qpe_int (qpa_cons (qpv 3) qpa_nil))) qpa_nil)))))))))
      (qpss_cons (qps_set (i := 9) sc_Lothers.nd rfl (Or.inl rfl) (qpe_op (op_catK (K := K) rfl) (qpv 9) (qpe_lst (qpa_cons (qpe_tup (qpa_cons (qpe_tup (qpa_cons (qpv 2) qpa_nil)) (qpa_cons (qpv 3) qpa_nil))) (qpa_cons (qpe_tup (qpa_cons (qpe_op op_catS (qpv 2) qpe_str) (qpa_cons (qpv 3) qpa_nil))) (qpa_cons (qpe_tup (qpa_cons qpe_dnew (qpa_cons (qpv 3) qpa_nil))) (qpa_cons (qpe_tup (qpa_cons (qpe_lst (qpa_cons (qpv 2) qpa_nil)) (qpa_cons (qpv 3) qpa_nil))) qpa_nil)))))))
      (qpss_cons (qps_for PassesOwn.never rfl (qpi_sqK (K := K) rfl (qpe_lst (qpa_cons (qpe_tup (qpa_cons (qpv 8) (qpa_cons (qpv 6) qpa_nil))) (qpa_cons (qpe_tup (qpa_cons (qpv 5) (qpa_cons (qpv 8) qpa_nil))) (qpa_cons (qpv 8) (qpa_cons qpe_non (qpa_cons (qpe_lst (qpa_cons (qpv 5) (qpa_cons (qpv 6) qpa_nil))) (qpa_cons (qpe_tup (qpa_cons (qpv 5) qpa_nil)) (qpa_cons (qpe_tup (qpa_cons (qpv 5) (qpa_cons (qpv 6) (qpa_cons (qpv 6) qpa_nil)))) (qpa_cons (qpe_tup (qpa_cons (qpv 6) qpa_nil)) qpa_nil)))))))))) (qpg_name (i := 10) sc_Lothers.nd rfl (Or.inl rfl) (Or.inl rfl))
        (qpss_one (qps_expr (qpe_bmK (K := K) rfl PySem.F.plainAttrs_list PySem.F.slot_list_append PySem.F.type_list_append mt_append (qpv 9) (qpa_cons (qpe_tup (qpa_cons (qpv 2) (qpa_cons (qpe_op (op_catK (K := K) rfl) (qpe_op (op_catK (K := K) rfl) (qpe_slice (sl_listK (K := K) rfl) (qpv 3) qpo_none (qpo_some (qpv 4))) (qpe_lst (qpa_cons (qpv 10) qpa_nil))) (qpe_slice (sl_listK (K := K) rfl) (qpv 3) (qpo_some (qpe_op op_add (qpv 4) qpe_int)) qpo_none)) qpa_nil))) qpa_nil)))))
      (qpss_cons (qps_expr (qpe_bmK (K := K) rfl PySem.F.plainAttrs_list PySem.F.slot_list_append PySem.F.type_list_append mt_append (qpv 9) (qpa_cons (qpe_tup (qpa_cons (qpv 2) (qpa_cons (qpe_op (op_catK (K := K) rfl) (qpe_op (op_catK (K := K) rfl) (qpe_slice (sl_listK (K := K) rfl) (qpv 3) qpo_none (qpo_some (qpv 4))) (qpe_lst (qpa_cons (qpe_tup (qpa_cons (qpv 5) (qpa_cons (qpv 6) qpa_nil))) qpa_nil))) (qpe_slice (sl_listK (K := K) rfl) (qpv 3) (qpo_some (qpv 4)) qpo_none)) qpa_nil))) qpa_nil)))
      (qpss_cons (qps_set (i := 9) sc_Lothers.nd rfl (Or.inl rfl) (qpe_op (op_catK (K := K) rfl) (qpv 9) (qpe_lst (qpa_cons (qpe_tup (qpa_cons (qpv 2) (qpa_cons (qpe_op (op_catK (K := K) rfl) (qpv 3) (qpe_lst (qpa_cons (qpe_ix (ix_seqK (K := K) rfl) (qpv 3) qpe_int (fun _ _ => rfl)) qpa_nil))) qpa_nil))) (qpa_cons (qpe_tup (qpa_cons (qpv 2) (qpa_cons (qpe_op (op_catK (K := K) rfl) (qpv 3) (qpv 3)) qpa_nil))) (qpa_cons (qpe_tup (qpa_cons qpe_str (qpa_cons (qpv 3) qpa_nil))) (qpa_cons (qpe_tup (qpa_cons qpe_str (qpa_cons qpe_dnew qpa_nil))) qpa_nil)))))))
      (qpss_one (qps_ret (qpv 9))))))))))))))), ?_⟩
  haveI := T.c2_NOUGHT
  haveI := T.c2_KINDS
  refine Pu.enter h ?_
  rintro as Qp ⟨kd, cs, rfl, hk, og, k⟩
  unfold offD
  have n1 := og.ok.ne
  have n5 := og.ok.le
  refine hd fun R hR => ?_
  trivial
  subst hR
  refine hd fun R hR => ?_
  trivial
  refine ⟨_, rfl, by omega, sm_200 (by omega) (by omega), fun a a0 a1 => ?_⟩
  trivial
  obtain ⟨n, rfl⟩ := Int.eq_ofNat_of_zero_le a0
  obtain ⟨X, c, Y, e, hX⟩ := split1 (cs := cs) (n := n) (by omega)
  subst hX
  have ec : cs[X.length]? = some c := by rw [e]; simp
  have sc := og.ok.sm c (List.mem_of_getElem? ec)
  subst hR
  refine hd fun R hR => ?_
  trivial
  refine pGet_map ec ?_
  trivial
  subst hR
  refine hd fun R hR => ?_
  repeat (refine And.intro (Nat.le_of_ble_eq_true rfl) ?_)
  show R _ [some .st, some (.d (.tuple [.str kd, .list (cs.map dcn)])), some (.d (.str kd)), some (.d (.list (cs.map dcn))), some (.d (.int (X.length : Int))), some (.d (dq c.1)), some (.d (dq c.2)), some (.own bads), none, none, none]
  obtain ⟨bs, hbs⟩ : ∃ bs, bs = bads := ⟨_, rfl⟩
  rw [← hbs]
  have lbs : bs.length = 13 := by rw [hbs]; rfl
  have gbs : ∀ x ∈ bs, Bd x := by rw [hbs]; exact bads_ok
  subst hR
  refine hd fun R hR => ?_
  trivial
  refine ⟨13, rfl, by decide, sm4 13, fun d d0 d1 => ?_⟩
  trivial
  obtain ⟨dn, rfl⟩ := Int.eq_ofNat_of_zero_le d0
  have hdn : dn < bs.length := by omega
  obtain ⟨od, hod⟩ : ∃ od, bs[dn]? = some od := ⟨_, List.getElem?_eq_getElem hdn⟩
  have go := gbs od (List.mem_of_getElem? hod)
  refine pGet_of (atI_nat hod) ?_
  trivial
  subst hR
  obtain ⟨L, hL⟩ : ∃ L, L = cs.map dcn := ⟨_, rfl⟩
  obtain ⟨x1, hx1⟩ : ∃ x, x = dq c.1 := ⟨_, rfl⟩
  obtain ⟨x2, hx2⟩ : ∃ x, x = dq c.2 := ⟨_, rfl⟩
  rw [← hL, ← hx1, ← hx2]
  refine hd fun R hR => ?_
  repeat (first | refine And.intro (Nat.le_of_ble_eq_true rfl) ?_ | refine Exists.intro _ (And.intro rfl ?_))
  show R _ [some .st, some (.d (.tuple [.str kd, .list L])), some (.d (.str kd)), some (.d (.list L)), some (.d (.int (X.length : Int))), some (.d x1), some (.d x2), some (.own bs), some (.d od), some (.own [PyData.none, .int 1, .str kd, .list L, .list [.str kd, .list L], .tuple [.str kd], .tuple [.str kd, .list L, .int 0], .tuple [.list L, .str kd], .tuple [.str kd, .tuple L]]), none]
  obtain ⟨s1, hs1⟩ : ∃ s1, s1 = [PyData.none, .int 1, .str kd, .list L, .list [.str kd, .list L], .tuple [.str kd], .tuple [.str kd, .list L, .int 0], .tuple [.list L, .str kd], .tuple [.str kd, .tuple L]] := ⟨_, rfl⟩
  rw [← hs1]
  have l1 : s1.length = 9 := by rw [hs1]; rfl
  have lk : kd.length + (Str.ofString " ").length ≤ 1000 := by rcases hk with h | h <;> subst h <;> decide +kernel
  subst hR
  refine hd fun R hR => ?_
  repeat (first | refine And.intro (Nat.le_of_ble_eq_true rfl) ?_ | refine Exists.intro _ (And.intro rfl ?_))
  refine And.intro (by rw [l1]; exact Nat.le_of_ble_eq_true rfl) ?_
  show R _ [some .st, some (.d (.tuple [.str kd, .list L])), some (.d (.str kd)), some (.d (.list L)), some (.d (.int (X.length : Int))), some (.d x1), some (.d x2), some (.own bs), some (.d od), some (.own (s1 ++ [PyData.tuple [.str kd, .list []], .tuple [.str kd, .none], .tuple [.str "Straight", .list L], .tuple [.str "", .list L], .tuple [.none, .list L], .tuple [.int 1, .list L]])), none]
  obtain ⟨s2, hs2⟩ : ∃ s2, s2 = s1 ++ [PyData.tuple [.str kd, .list []], .tuple [.str kd, .none], .tuple [.str "Straight", .list L], .tuple [.str "", .list L], .tuple [.none, .list L], .tuple [.int 1, .list L]] := ⟨_, rfl⟩
  rw [← hs2]
  have l2 : s2.length = 15 := by rw [hs2, List.length_append, l1]; rfl
  subst hR
  refine hd fun R hR => ?_
  repeat (first | refine And.intro (Nat.le_of_ble_eq_true rfl) ?_ | refine Exists.intro _ (And.intro rfl ?_))
  refine And.intro lk ?_
  repeat (first | refine And.intro (Nat.le_of_ble_eq_true rfl) ?_ | refine Exists.intro _ (And.intro rfl ?_))
  refine And.intro (by rw [l2]; exact Nat.le_of_ble_eq_true rfl) ?_
  show R _ [some .st, some (.d (.tuple [.str kd, .list L])), some (.d (.str kd)), some (.d (.list L)), some (.d (.int (X.length : Int))), some (.d x1), some (.d x2), some (.own bs), some (.d od), some (.own (s2 ++ [PyData.tuple [.tuple [.str kd], .list L], .tuple [.str (kd ++ Str.ofString " "), .list L], .tuple [.dict [], .list L], .tuple [.list [.str kd], .list L]])), none]
  obtain ⟨s3, hs3⟩ : ∃ s3, s3 = s2 ++ [PyData.tuple [.tuple [.str kd], .list L], .tuple [.str (kd ++ Str.ofString " "), .list L], .tuple [.dict [], .list L], .tuple [.list [.str kd], .list L]] := ⟨_, rfl⟩
  rw [← hs3]
  have l3 : s3.length = 19 := by rw [hs3, List.length_append, l2]; rfl
  subst hR
  refine hd fun R hR => ?_
  repeat (first | refine And.intro (Nat.le_of_ble_eq_true rfl) ?_ | refine Exists.intro _ (And.intro rfl ?_))
  obtain ⟨ks, hks⟩ : ∃ ks, ks = [PyData.tuple [od, x2], .tuple [x1, od], od, .none, .list [x1, x2], .tuple [x1], .tuple [x1, x2, x2], .tuple [x2]] := ⟨_, rfl⟩
  have lks : ks.length = 8 := by rw [hks]; rfl
  have lXY : X.length + Y.length + 1 = cs.length := by rw [e]; simp; omega
  have cL1 : cutD L none (some (X.length : Int)) = X.map dcn := by rw [hL, e]; exact cut_pre
  have cL2 : cutD L (some ((X.length : Int) + 1)) none = Y.map dcn := by rw [hL, e]; exact cut_post1
  have cL3 : cutD L (some (X.length : Int)) none = (c :: Y).map dcn := by rw [hL, e]; exact cut_post
  refine for_seq (xs := [PyData.tuple [od, x2], .tuple [x1, od], od, .none, .list [x1, x2], .tuple [x1], .tuple [x1, x2, x2], .tuple [x2]]) (fun i e => ∃ o : Option SV, e = [some .st, some (.d (.tuple [.str kd, .list L])), some (.d (.str kd)), some (.d (.list L)), some (.d (.int (X.length : Int))), some (.d x1), some (.d x2), some (.own bs), some (.d od), some (.own (s3 ++ (ks.take i).map fun y => PyData.tuple [.str kd, .list (X.map dcn ++ [y] ++ Y.map dcn)])), o]) ⟨_, by rw [List.take_zero, List.map_nil, List.append_nil]⟩ ?_ ?_
  · rw [← hks]
    rintro i y e hy ⟨o, rfl⟩
    have hi : i < 8 := by have := (List.getElem?_eq_some_iff.mp hy).1; omega
    trivial
    rw [cL1, cL2]
    refine ⟨by simp; omega, by simp; omega, by simp; omega, some (.d y), ?_⟩
    rw [List.take_add_one, hy, List.map_append, List.append_assoc]
    rfl
  rw [← hks]
  rintro e' ⟨o, rfl⟩
  rw [List.take_length]
  obtain ⟨s4, hs4⟩ : ∃ s4, s4 = s3 ++ ks.map fun y => PyData.tuple [.str kd, .list (X.map dcn ++ [y] ++ Y.map dcn)] := ⟨_, rfl⟩
  rw [← hs4]
  have l4 : s4.length = 27 := by rw [hs4, List.length_append, List.length_map, l3, lks]
  subst hR
  dsimp only
  refine hd fun R hR => ?_
  trivial
  rw [cL1, cL3]
  refine ⟨by simp; omega, by simp; omega, by omega, ?_⟩
  obtain ⟨s5, hs5⟩ : ∃ s5, s5 = s4 ++ [PyData.tuple [.str kd, .list (X.map dcn ++ [.tuple [x1, x2]] ++ (c :: Y).map dcn)]] := ⟨_, rfl⟩
  rw [← hs5]
  have l5 : s5.length = 28 := by rw [hs5, List.length_append, l4]; rfl
  subst hR
  try dsimp only
  refine hd fun R hR => ?_
  trivial
  obtain ⟨b, B, eb⟩ : ∃ b B, cs = b :: B := by
    cases hcs : cs with
    | nil => rw [hcs] at n1; simp at n1
    | cons b B => exact ⟨b, B, rfl⟩
  have eL0 : L[0]? = some (dcn b) := by rw [hL, eb]; rfl
  have lL : L.length = cs.length := by rw [hL, List.length_map]
  refine pGet_of (atI_nat (j := 0) eL0) ?_
  trivial
  refine ⟨by first | omega | (simp; omega), by first | omega | (simp; omega), by first | omega | (simp; omega), ?_⟩
  subst hR
  trivial
  have hLe : ∀ d ∈ L, El d := by
    rw [hL]
    intro d hd
    obtain ⟨c, hc, rfl⟩ := List.mem_map.mp hd
    exact el_dcn ((og.ok.sm c hc).1.mono (by decide) (by decide)) ((og.ok.sm c hc).2.mono (by decide) (by decide))
  obtain ⟨pL, dL, zL⟩ := el_all hLe
  have hL5 : L.length ≤ 5 := by omega
  have zL : szA L ≤ 35010 := by omega
  have pk := pl_kd hk
  have lk0 : ∀ z, PyData.str kd = .str z → (PyData.str z).canLay0 = true := fun z e => by cases e; exact hk.lay
  have bL : ∀ ds, PyData.list L = .list ds → ds.length ≤ 1000 ∧ ∀ d ∈ ds, SmB d := fun ds e => by cases e; exact ⟨by omega, fun d hd => (hLe d hd).sb⟩
  have nb : ∀ x : PyData, (∀ ds, x ≠ .list ds) → ∀ ds, x = .list ds → ds.length ≤ 1000 ∧ ∀ d ∈ ds, SmB d := fun x h ds e => absurd e (h ds)
  have ny : ∀ x : PyData, (∀ z, x ≠ .str z) → ∀ z, x = .str z → (PyData.str z).canLay0 = true := fun x h z e => absurd e (h z)
  refine k _ (by simp) (by simp [l5]) ?_
  rw [hs5, hs4, hs3, hs2, hs1]
  refine all_app (all_app (all_app (all_app (all_app ?_ ?_) ?_) ?_) ?_) ?_
  · refine all_cons ⟨th_pl (osm_no fun y b e => by cases e) rfl (Nat.le_of_ble_eq_true rfl) (Nat.le_of_ble_eq_true rfl), ofB_no fun z ds e => by cases e⟩ ?_
    refine all_cons ⟨th_pl (osm_no fun y b e => by cases e) (by decide +kernel) (Nat.le_of_ble_eq_true rfl) (Nat.le_of_ble_eq_true rfl), ofB_no fun z ds e => by cases e⟩ ?_
    refine all_cons ⟨th_pl (osm_no fun y b e => by cases e) pk (Nat.le_of_ble_eq_true rfl) (Nat.le_of_ble_eq_true rfl), ofB_no fun z ds e => by cases e⟩ ?_
    refine all_cons ⟨th_pl (osm_no fun y b e => by cases e) pL (by show PyData.depthAll L + 1 ≤ 60; omega) (by show 4 + szA L ≤ _; omega), ofB_no fun z ds e => by cases e⟩ ?_
    refine all_cons ⟨th_pl (osm_no fun y b e => by cases e) (pl_l (pla_cons pk (pla_cons (pl_l pL) pla_nil))) (by show max 1 (max (PyData.depthAll L + 1) 0) + 1 ≤ 60; omega) (by show 4 + (1010 + 2 + (4 + szA L + 2 + 0)) ≤ _; omega), ofB_no fun z ds e => by cases e⟩ ?_
    refine all_cons ⟨th_pl (osm_no fun y b e => by cases e) (pl_tt (pla_cons pk pla_nil)) (Nat.le_of_ble_eq_true rfl) (Nat.le_of_ble_eq_true rfl), ofB_no fun z ds e => by cases e⟩ ?_
    refine all_cons ⟨th_pl (osm_no fun y b e => by cases e) (pl_tt (pla_cons pk (pla_cons (pl_l pL) (pla_cons (by decide +kernel) pla_nil)))) (dp_tt (n := 59) (dpa_cons (Nat.le_of_ble_eq_true rfl) (dpa_cons (dp_l (n := 58) (by omega)) (dpa_cons (Nat.le_of_ble_eq_true rfl) (Nat.zero_le _))))) (by show 4 + (1010 + 2 + (4 + szA L + 2 + (1010 + 2 + 0))) ≤ _; omega), ofB_no fun z ds e => by cases e⟩ ?_
    refine all_cons ⟨th_pl (osm2 (ny _ fun z e => by cases e) (nb _ fun z e => by cases e)) (pl_tt (pla_cons (pl_l pL) (pla_cons pk pla_nil))) (dp_tt (n := 59) (dpa_cons (dp_l (n := 58) (by omega)) (dpa_cons (Nat.le_of_ble_eq_true rfl) (Nat.zero_le _)))) (by show 4 + (4 + szA L + 2 + (1010 + 2 + 0)) ≤ _; omega), ofB_no fun z ds e => by cases e⟩ ?_
    exact all_cons ⟨th_pl (osm2 lk0 (nb _ fun z e => by cases e)) (pl_tt (pla_cons pk (pla_cons (pl_tt pL) pla_nil))) (by show max 1 (max (PyData.depthAll L + 1) 0) + 1 ≤ 60; omega) (by show 4 + (1010 + 2 + (4 + szA L + 2 + 0)) ≤ _; omega), ofB_no fun z ds e => by cases e⟩ all_nil
  · refine all_cons ⟨th_pl (osm2 lk0 fun ds e => by cases e; exact ⟨Nat.zero_le _, fun _ z => nomatch z⟩) (pl_tt (pla_cons pk (pla_cons rfl pla_nil))) (Nat.le_of_ble_eq_true rfl) (Nat.le_of_ble_eq_true rfl), ofB_f fun q => absurd q.2.1.1 (by decide)⟩ ?_
    refine all_cons ⟨th_pl (osm2 lk0 (nb _ fun z e => by cases e)) (pl_tt (pla_cons pk (pla_cons rfl pla_nil))) (Nat.le_of_ble_eq_true rfl) (Nat.le_of_ble_eq_true rfl), ofB_no fun z ds e => by cases e⟩ ?_
    refine all_cons ⟨th_off (by decide +kernel) hLe (by omega), ofB_kd (by unfold Kd; decide +kernel)⟩ ?_
    refine all_cons ⟨th_off (by decide +kernel) hLe (by omega), ofB_kd (by unfold Kd; decide +kernel)⟩ ?_
    refine all_cons ⟨th_pl (osm2 (ny _ fun z e => by cases e) bL) (pl_tt (pla_cons rfl (pla_cons (pl_l pL) pla_nil))) (by show max 1 (max (PyData.depthAll L + 1) 0) + 1 ≤ 60; omega) (by show 4 + (1010 + 2 + (4 + szA L + 2 + 0)) ≤ _; omega), ofB_no fun z ds e => by cases e⟩ ?_
    exact all_cons ⟨th_pl (osm2 (ny _ fun z e => by cases e) bL) (pl_tt (pla_cons (by decide +kernel) (pla_cons (pl_l pL) pla_nil))) (by show max 1 (max (PyData.depthAll L + 1) 0) + 1 ≤ 60; omega) (by show 4 + (1010 + 2 + (4 + szA L + 2 + 0)) ≤ _; omega), ofB_no fun z ds e => by cases e⟩ all_nil
  · refine all_cons ⟨th_pl (osm2 (ny _ fun z e => by cases e) bL) (pl_tt (pla_cons (pl_tt (pla_cons pk pla_nil)) (pla_cons (pl_l pL) pla_nil))) (dp_tt (n := 59) (dpa_cons (Nat.le_of_ble_eq_true rfl) (dpa_cons (dp_l (n := 58) (by omega)) (Nat.zero_le _)))) (by show 4 + (4 + (1010 + 2 + 0) + 2 + (4 + szA L + 2 + 0)) ≤ _; omega), ofB_no fun z ds e => by cases e⟩ ?_
    have pk2 : Pl1 (.str (kd ++ Str.ofString " ")) = true := by rcases hk with h | h <;> rw [h] <;> decide +kernel
    have nk2 : ¬ Kd (kd ++ Str.ofString " ") := by rcases hk with h | h <;> rw [h] <;> unfold Kd <;> decide +kernel
    refine all_cons ⟨th_off pk2 hLe (by omega), ofB_kd nk2⟩ ?_
    refine all_cons ⟨th_pl (osm2 (ny _ fun z e => by cases e) bL) (pl_tt (pla_cons rfl (pla_cons (pl_l pL) pla_nil))) (by show max _ (max (PyData.depthAll L + 1) 0) + 1 ≤ 60; have : (PyData.dict []).depth ≤ 5 := Nat.le_of_ble_eq_true rfl; omega) (by show 4 + (1010 + 2 + (4 + szA L + 2 + 0)) ≤ _; omega), ofB_no fun z ds e => by cases e⟩ ?_
    exact all_cons ⟨th_pl (osm2 (ny _ fun z e => by cases e) bL) (pl_tt (pla_cons (pl_l (pla_cons pk pla_nil)) (pla_cons (pl_l pL) pla_nil))) (dp_tt (n := 59) (dpa_cons (Nat.le_of_ble_eq_true rfl) (dpa_cons (dp_l (n := 58) (by omega)) (Nat.zero_le _)))) (by show 4 + (4 + (1010 + 2 + 0) + 2 + (4 + szA L + 2 + 0)) ≤ _; omega), ofB_no fun z ds e => by cases e⟩ all_nil
  · have ex1 : SmX2 x1 ∧ SmX x2 := by
      rw [hx1, hx2]
      exact ⟨sx2_q (sc.1.mono (by decide) (by decide)), sx_q (sc.2.mono (by decide) (by decide))⟩
    have p1 : Pl1 x1 = true := by rw [hx1]; exact pl_q (sc.1.mono (by decide) (by decide))
    have p2 : Pl1 x2 = true := by rw [hx2]; exact pl_q (sc.2.mono (by decide) (by decide))
    have z1 : szD x1 = 2028 := by rw [hx1]; rfl
    have z2 : szD x2 = 2028 := by rw [hx2]; rfl
    have d1 : x1.depth ≤ 2 := by rw [hx1]; exact Nat.le_of_ble_eq_true rfl
    have d2 : x2.depth ≤ 2 := by rw [hx2]; exact Nat.le_of_ble_eq_true rfl
    have go2 := go.nn
    have gd := go.dp
    have gz := go.sz
    have elY : ∀ d ∈ X.map dcn, El d := fun d hd => hLe d (by rw [hL, e, List.map_append]; exact List.mem_append.mpr (.inl hd))
    have elZ : ∀ d ∈ Y.map dcn, El d := fun d hd => hLe d (by rw [hL, e, List.map_append]; exact List.mem_append.mpr (.inr (List.mem_cons_of_mem _ hd)))
    have key : ∀ y ∈ ks, El y ∧ bdOf y = none := by
      have tb : ∀ (a b : PyData), SmX2 a → SmX b → SmB (.tuple [a, b]) := fun a b h1 h2 a' b' e => by
        injection e with e
        injection e with e1 e2
        injection e2 with e2 _
        subst e1 e2
        exact ⟨h1, h2⟩
      rw [hks]
      refine all_cons ⟨⟨pl_tt (pla_cons go.pl (pla_cons p2 pla_nil)), dp_tt (n := 4) (dpa_cons (by omega) (dpa_cons (by omega) (Nat.zero_le _))), by show 4 + (szD od + 2 + (szD x2 + 2 + 0)) ≤ 7000; omega, tb _ _ go.s2 ex1.2⟩, ?_⟩ ?_
      · show (match nnOf od, nnOf x2 with | some p, some q => some (p, q) | _, _ => none) = none
        rw [go2]
      refine all_cons ⟨⟨pl_tt (pla_cons p1 (pla_cons go.pl pla_nil)), dp_tt (n := 4) (dpa_cons (by omega) (dpa_cons (by omega) (Nat.zero_le _))), by show 4 + (szD x1 + 2 + (szD od + 2 + 0)) ≤ 7000; omega, tb _ _ ex1.1 go.s2.up⟩, ?_⟩ ?_
      · show (match nnOf x1, nnOf od with | some p, some q => some (p, q) | _, _ => none) = none
        rw [go2]; cases nnOf x1 <;> rfl
      refine all_cons ⟨⟨go.pl, by omega, by omega, go.sb⟩, go.bd⟩ ?_
      refine all_cons ⟨⟨rfl, Nat.le_of_ble_eq_true rfl, Nat.le_of_ble_eq_true rfl, fun a b e => by cases e⟩, rfl⟩ ?_
      refine all_cons ⟨⟨pl_l (pla_cons p1 (pla_cons p2 pla_nil)), dp_l (n := 4) (dpa_cons (by omega) (dpa_cons (by omega) (Nat.zero_le _))), by show 4 + (szD x1 + 2 + (szD x2 + 2 + 0)) ≤ 7000; omega, fun a b e => by cases e⟩, rfl⟩ ?_
      refine all_cons ⟨⟨pl_tt (pla_cons p1 pla_nil), dp_tt (n := 4) (dpa_cons (by omega) (Nat.zero_le _)), by show 4 + (szD x1 + 2 + 0) ≤ 7000; omega, fun a b e => by cases e⟩, rfl⟩ ?_
      refine all_cons ⟨⟨pl_tt (pla_cons p1 (pla_cons p2 (pla_cons p2 pla_nil))), dp_tt (n := 4) (dpa_cons (by omega) (dpa_cons (by omega) (dpa_cons (by omega) (Nat.zero_le _)))), ?_, fun a b e => by cases e⟩, rfl⟩ ?_
      · show 4 + (szD x1 + 2 + (szD x2 + 2 + (szD x2 + 2 + 0))) ≤ 7000
        omega
      exact all_cons ⟨⟨pl_tt (pla_cons p2 pla_nil), dp_tt (n := 4) (dpa_cons (by omega) (Nat.zero_le _)), by show 4 + (szD x2 + 2 + 0) ≤ 7000; omega, fun a b e => by cases e⟩, rfl⟩ all_nil
    intro x hx
    obtain ⟨y, hy, rfl⟩ := List.mem_map.mp hx
    obtain ⟨k1, k2⟩ := key y hy
    exact ⟨th_off pk (all_app (all_app elY (all_cons k1 all_nil)) elZ) (by simp; omega), of_bad (w := y) (by simp) k2⟩
  · have ee : X.map dcn ++ [PyData.tuple [x1, x2]] ++ (c :: Y).map dcn = (X ++ c :: c :: Y).map dcn := by rw [hx1, hx2, List.append_assoc, List.map_append]; rfl
    rw [ee]
    have mm : ∀ d ∈ X ++ c :: c :: Y, d ∈ cs := fun d hd => by
      rw [e]
      rcases List.mem_append.mp hd with z | z
      · exact List.mem_append.mpr (.inl z)
      · rcases List.mem_cons.mp z with z | z
        · subst z; simp
        · exact List.mem_append.mpr (.inr z)
    refine all_cons ⟨th_off pk (fun d hd => ?_) (by simp; omega), of_turn (fun d hd => og.nn d (mm d hd)) (fun z => Rat.lt_irrefl z.1)⟩ all_nil
    obtain ⟨f, hf, rfl⟩ := List.mem_map.mp hd
    exact hLe _ (by rw [hL]; exact List.mem_map.mpr ⟨f, mm f hf, rfl⟩)
  · obtain ⟨A, a, ea⟩ : ∃ A a, cs = A ++ [a] := ⟨cs.dropLast, cs.getLast (by intro z; rw [z] at n1; simp at n1), (List.dropLast_concat_getLast _).symm⟩
    have e0 : cs[0]? = some b := by rw [eb]; rfl
    have hab : a.1 ≤ b.1 := rise_last og.up e0 A.length a (by rw [ea]; simp)
    have no : ¬ (b.1 < a.1 ∧ a.2 < b.2) := fun z => by have := z.1; grind
    have q1 : L ++ [dcn b] = (A ++ a :: b :: []).map dcn := by rw [hL, ea]; simp
    have q2 : L ++ L = (A ++ a :: b :: B).map dcn := by
      rw [show A ++ a :: b :: B = cs ++ cs by rw [List.append_cons, ← ea, ← eb], List.map_append, ← hL]
    have elb : El (dcn b) := hLe _ (by rw [hL, eb]; simp)
    have m1 : ∀ d ∈ A ++ a :: b :: [], d ∈ cs := fun d hd => by
      have : d ∈ cs ++ [b] := by rw [ea]; simpa using hd
      rcases List.mem_append.mp this with z | z
      · exact z
      · cases List.mem_singleton.mp z; rw [eb]; simp
    have m2 : ∀ d ∈ A ++ a :: b :: B, d ∈ cs := fun d hd => by
      have : d ∈ cs ++ cs := by rw [show cs ++ cs = A ++ a :: b :: B by rw [List.append_cons, ← ea, ← eb]]; exact hd
      rcases List.mem_append.mp this with z | z <;> exact z
    refine all_cons ⟨th_off pk (all_app hLe (all_cons elb all_nil)) (by simp; omega), by rw [q1]; exact of_turn (fun d hd => og.nn d (m1 d hd)) no⟩ ?_
    refine all_cons ⟨th_off pk (all_app hLe hLe) (by simp; omega), by rw [q2]; exact of_turn (fun d hd => og.nn d (m2 d hd)) no⟩ ?_
    refine all_cons ⟨th_off (by decide +kernel) hLe (by omega), ofB_kd (by unfold Kd; decide +kernel)⟩ ?_
    exact all_cons ⟨th_pl (osm2 (fun z e => by cases e; decide +kernel) (nb _ fun z e => by cases e)) (by decide +kernel) (Nat.le_of_ble_eq_true rfl) (Nat.le_of_ble_eq_true rfl), ofB_no fun z ds e => by cases e⟩ all_nil
def ps_Lturned : Pu.PSp := fun as Q => ∃ (kd : Str) (cs : List (Rat × Rat)), as = [.st, .d (offD kd cs)] ∧ Kd kd ∧ OfG kd cs 100 54 244 130 ∧ ∀ x, (x = .none ∨ (Th x ∧ ofB x = false)) → Q (.d x)
theorem ok_Lturned (T : Txt K mg D) : FnOk P w K mg base CX0 2 D.a_Lturned D.d_Lturned ["_law_state", "_law_offer_here"] (Pu.spOf K [.st, .dat] ps_Lturned) := by
  refine T.F_Lturned.ok sc_Lturned (Pu.spOf.len rfl) (fun cdv A outer s H vs Q E hr h => ?_)
  refine ⟨_, (QSs.out (qpss_cons (qps_asg (qpv 1) (qpg_tupK (K := K) (n := 2) rfl rfl (qpgs_cons (qpg_name (i := 2) sc_Lturned.nd rfl (Or.inl rfl) (Or.inl rfl)) (qpgs_cons (qpg_name (i := 3) sc_Lturned.nd rfl (Or.inl rfl) (Or.inl rfl)) qpgs_nil)) rfl rfl))
      (qpss_cons (qps_if (qpt_cmpR op_lt (qpe_callB (call_len2K (K := K) rfl) (by rfl) T.z_len PySem.boot_len (qpa_cons (qpv 3) qpa_nil)) qpe_int (nomark _))
        (qpss_one (qps_ret qpe_non))
        qpss_nil)
      (qpss_cons (qps_set (i := 4) sc_Lturned.nd rfl (Or.inl rfl) (qpe_call (ok_Ltake (K := K) T) (hr.mono (by first | decide | omega)) rfl T.m_Ltake T.F_Ltake.kp (b_Ltake T) .nil pass0 (qpa_cons (qpv 0) (qpa_cons (qpe_op op_sub (qpe_callB (call_len2K (K := K) rfl) (by rfl) T.z_len PySem.boot_len (qpa_cons (qpv 3) qpa_nil)) qpe_int) qpa_nil))))
      (qpss_cons (qps_asg (qpe_slice (sl_listK (K := K) rfl) (qpv 3) (qpo_some (qpv 4)) (qpo_some (qpe_op op_add (qpv 4) qpe_int))) (qpg_lstK (K := K) (n := 2) rfl rfl (qpgs_cons (qpg_name (i := 5) sc_Lturned.nd rfl (Or.inl rfl) (Or.inl rfl)) (qpgs_cons (qpg_name (i := 6) sc_Lturned.nd rfl (Or.inl rfl) (Or.inl rfl)) qpgs_nil)) rfl rfl))
      (qpss_cons (qps_set (i := 7) sc_Lturned.nd rfl (Or.inl rfl) (qpe_lst (qpa_cons (qpe_lst (qpa_cons (qpv 6) (qpa_cons (qpv 5) qpa_nil))) (qpa_cons (qpe_lst (qpa_cons (qpv 5) (qpa_cons (qpe_tup (qpa_cons (qpe_ix (ix_seqK (K := K) rfl) (qpv 5) qpe_int (fun _ _ => rfl)) (qpa_cons (qpe_ix (ix_seqK (K := K) rfl) (qpv 6) qpe_int (fun _ _ => rfl)) qpa_nil))) qpa_nil))) (qpa_cons (qpe_lst (qpa_cons (qpv 5) (qpa_cons (qpe_tup (qpa_cons (qpe_ix (ix_seqK (K := K) rfl) (qpv 6) qpe_int (fun _ _ => rfl)) (qpa_cons (qpe_ix (ix_seqK (K := K) rfl) (qpv 5) qpe_int (fun _ _ => rfl)) qpa_nil))) qpa_nil))) qpa_nil)))))
      (qpss_cons (qps_expr (qpe_bmK (K := K) rfl PySem.F.plainAttrs_list PySem.F.slot_list_append PySem.F.type_list_append mt_append (qpv 7) (qpa_cons (qpe_lst (qpa_cons (qpe_tup (qpa_cons (qpe_ix (ix_seqK (K := K) rfl) (qpv 5) qpe_int (fun _ _ => rfl)) (qpa_cons (qpe_ix (ix_seqK (K := K) rfl) (qpv 6) qpe_int (fun _ _ => rfl)) qpa_nil))) (qpa_cons (qpe_tup (qpa_cons (qpe_ix (ix_seqK (K := K) rfl) (qpv 6) qpe_int (fun _ _ => rfl)) (qpa_cons (qpe_ix (ix_seqK (K := K) rfl) (qpv 5) qpe_int (fun _ _ => rfl)) qpa_nil))) qpa_nil))) qpa_nil)))
      (qpss_one (qps_ret (qpe_tup (qpa_cons (qpv 2) (qpa_cons (qpe_op (op_catK (K := K) rfl) (qpe_op (op_catK (K := K) rfl) (qpe_slice (sl_listK (K := K) rfl) (qpv 3) qpo_none (qpo_some (qpv 4))) (qpe_ix (ix_seqK (K := K) rfl) (qpv 7) (qpe_call (ok_Ltake (K := K) T) (hr.mono (by first | decide | omega)) rfl T.m_Ltake T.F_Ltake.kp (b_Ltake T) .nil pass0 (qpa_cons (qpv 0) (qpa_cons qpe_int qpa_nil))) (fun _ _ => rfl))) (qpe_slice (sl_listK (K := K) rfl) (qpv 3) (qpo_some (qpe_op op_add (qpv 4) qpe_int)) qpo_none)) qpa_nil)))))))))))), ?_⟩
  haveI := T.c2_NOUGHT
  haveI := T.c2_KINDS
  refine Pu.enter h ?_
  rintro as Qp ⟨kd, cs, rfl, hk, og, k⟩
  unfold offD
  have n1 := og.ok.ne
  have n5 := og.ok.le
  trivial
  refine ite2 (fun h => k _ (.inl rfl)) (fun h => ?_)
  refine ⟨_, rfl, by omega, sm_200 (by omega) (by omega), fun a a0 a1 => ?_⟩
  trivial
  obtain ⟨n, rfl⟩ := Int.eq_ofNat_of_zero_le a0
  obtain ⟨X, p, q, Y, e, hX⟩ := split2 (cs := cs) (n := n) (by omega)
  subst hX
  have up := og.up X.length p q (by rw [e]; simp) (by rw [e, List.getElem?_append_right (by omega)]; simp)
  have nn := og.nn
  have sm := og.ok.sm
  subst e
  rw [cut_two]
  have mp : p ∈ X ++ p :: q :: Y := by simp
  have mq : q ∈ X ++ p :: q :: Y := by simp
  have big : ∀ c ∈ X ++ p :: q :: Y, SmR 200 200 c.1 ∧ SmR 1000 1000 c.2 := fun c hc => ⟨(sm c hc).1.mono (by decide) (by decide), (sm c hc).2.mono (by decide) (by decide)⟩
  have use : ∀ a b : Rat × Rat, (a.1 = p.1 ∨ a.1 = q.1) → (a.2 = p.2 ∨ a.2 = q.2) → (b.1 = p.1 ∨ b.1 = q.1) → (b.2 = p.2 ∨ b.2 = q.2) → ¬ (b.1 < a.1 ∧ a.2 < b.2) → Qp (.d (.tuple [.str kd, .list (X.map dcn ++ [dcn a, dcn b] ++ Y.map dcn)])) := fun a b h1 h2 h3 h4 h5 => by
    have all : ∀ (F : Rat → Prop) (G : Rat → Prop), (∀ c ∈ X ++ p :: q :: Y, F c.1 ∧ G c.2) → ∀ c ∈ X ++ a :: b :: Y, F c.1 ∧ G c.2 := fun F G hc c z => by
      rcases List.mem_append.mp z with z | z
      · exact hc c (List.mem_append.mpr (.inl z))
      · rcases List.mem_cons.mp z with rfl | z
        · refine ⟨?_, ?_⟩
          · rcases h1 with h1 | h1 <;> rw [h1]
            · exact (hc p mp).1
            · exact (hc q mq).1
          · rcases h2 with h2 | h2 <;> rw [h2]
            · exact (hc p mp).2
            · exact (hc q mq).2
        · rcases List.mem_cons.mp z with rfl | z
          · refine ⟨?_, ?_⟩
            · rcases h3 with h3 | h3 <;> rw [h3]
              · exact (hc p mp).1
              · exact (hc q mq).1
            · rcases h4 with h4 | h4 <;> rw [h4]
              · exact (hc p mp).2
              · exact (hc q mq).2
          · exact hc c (by simp [z])
    exact k _ (.inr (tx_turn hk (all _ _ nn) (all _ _ big) (by simp at n5 ⊢; omega) h5))
  trivial
  refine ⟨by decide, 4, rfl, by decide, sm4 4, fun g g0 g4 => ?_⟩
  trivial
  have hg : g = 0 ∨ g = 1 ∨ g = 2 ∨ g = 3 := by omega
  rcases hg with rfl | rfl | rfl | rfl
  all_goals
    refine pGet_of rfl ?_
    trivial
    rw [cut_pre, cut_post2]
    trivial
  · exact ⟨by simp at n5; omega, by simp at n5 ⊢; omega, use q p (.inr rfl) (.inr rfl) (.inl rfl) (.inl rfl) (fun z => by have := up.1; grind)⟩
  · exact ⟨by simp at n5; omega, by simp at n5 ⊢; omega, use p (p.1, q.2) (.inl rfl) (.inl rfl) (.inl rfl) (.inr rfl) (fun z => Rat.lt_irrefl z.1)⟩
  · exact ⟨by simp at n5; omega, by simp at n5 ⊢; omega, use p (q.1, p.2) (.inl rfl) (.inl rfl) (.inr rfl) (.inl rfl) (fun z => Rat.lt_irrefl z.2)⟩
  · exact ⟨by simp at n5; omega, by simp at n5 ⊢; omega, use (p.1, q.2) (q.1, p.2) (.inl rfl) (.inr rfl) (.inr rfl) (.inl rfl) (fun z => by have h1 : q.2 < p.2 := z.2; have h2 := up.2; grind)⟩
def ps_Lraised : Pu.PSp := fun as Q => ∃ (kd : Str) (cs : List (Rat × Rat)), as = [.st, .d (offD kd cs)] ∧ Kd kd ∧ OfG kd cs 100 54 244 130 ∧ ∀ x, (x = .none ∨ (Th x ∧ ofB x = false)) → Q (.d x)
theorem ok_Lraised (T : Txt K mg D) : FnOk P w K mg base CX0 3 D.a_Lraised D.d_Lraised ["_law_state", "_law_offer_here"] (Pu.spOf K [.st, .dat] ps_Lraised) := by
  refine T.F_Lraised.ok sc_Lraised (Pu.spOf.len rfl) (fun cdv A outer s H vs Q E hr h => ?_)
  refine ⟨_, (QSs.out (qpss_cons (qps_asg (qpv 1) (qpg_tupK (K := K) (n := 2) rfl rfl (qpgs_cons (qpg_name (i := 2) sc_Lraised.nd rfl (Or.inl rfl) (Or.inl rfl)) (qpgs_cons (qpg_name (i := 3) sc_Lraised.nd rfl (Or.inl rfl) (Or.inl rfl)) qpgs_nil)) rfl rfl))
      (qpss_cons (qps_if (QW.pt (qpw_or (qpt_cmpR (op_eqDK (K := K) rfl hr.units) (qpv 2) qpe_str (nomark _)) (qpw_or1 (qpt_cmpR op_lt (qpe_callB (call_len2K (K := K) rfl) (by rfl) T.z_len PySem.boot_len (qpa_cons (qpv 3) qpa_nil)) qpe_int (nomark _)))))
        (qpss_one (qps_ret qpe_non))
        qpss_nil)
      (qpss_cons (qps_set (i := 4) sc_Lraised.nd rfl (Or.inl rfl) (qpe_op op_add qpe_int (qpe_call (ok_Ltake (K := K) T) (hr.mono (by first | decide | omega)) rfl T.m_Ltake T.F_Ltake.kp (b_Ltake T) .nil pass0 (qpa_cons (qpv 0) (qpa_cons (qpe_op op_sub (qpe_callB (call_len2K (K := K) rfl) (by rfl) T.z_len PySem.boot_len (qpa_cons (qpv 3) qpa_nil)) qpe_int) qpa_nil)))))
      (qpss_cons (qps_set (i := 5) sc_Lraised.nd rfl (Or.inl rfl) (qpe_ix (ix_seqK (K := K) rfl) (qpv 3) (qpe_op op_sub (qpv 4) qpe_int) (fun _ _ => rfl)))
      (qpss_cons (qps_set (i := 6) sc_Lraised.nd rfl (Or.inl rfl) (qpe_ix (ix_seqK (K := K) rfl) (qpv 3) (qpe_op op_add (qpv 4) qpe_int) (fun _ _ => rfl)))
      (qpss_cons (qps_set (i := 7) sc_Lraised.nd rfl (Or.inl rfl) (qpe_call (ok_Lminus (K := K) T) (hr.mono (by first | decide | omega)) rfl T.m_Lminus T.F_Lminus.kp (b_Lminus T) .nil pass0 (qpa_cons (qpe_ix (ix_seqK (K := K) rfl) (qpv 5) qpe_int (fun _ _ => rfl)) (qpa_cons (qpe_ix (ix_seqK (K := K) rfl) (qpe_ix (ix_seqK (K := K) rfl) (qpv 3) (qpv 4) (fun _ _ => rfl)) qpe_int (fun _ _ => rfl)) qpa_nil))))
      (qpss_cons (qps_set (i := 8) sc_Lraised.nd rfl (Or.inl rfl) (qpe_call (ok_Lminus (K := K) T) (hr.mono (by first | decide | omega)) rfl T.m_Lminus T.F_Lminus.kp (b_Lminus T) .nil pass0 (qpa_cons (qpe_ix (ix_seqK (K := K) rfl) (qpv 5) qpe_int (fun _ _ => rfl)) (qpa_cons (qpe_ix (ix_seqK (K := K) rfl) (qpv 6) qpe_int (fun _ _ => rfl)) qpa_nil))))
      (qpss_cons (qps_set (i := 9) sc_Lraised.nd rfl (Or.inl rfl) (qpe_call (ok_Llow (K := K) T) (hr.mono (by first | decide | omega)) rfl T.m_Llow T.F_Llow.kp (b_Llow T) .nil pass0 (qpa_cons (qpe_op op_mulB (qpe_ix (ix_seqK (K := K) rfl) (qpv 7) qpe_int (fun _ _ => rfl)) (qpe_ix (ix_seqK (K := K) rfl) (qpv 8) qpe_int (fun _ _ => rfl))) (qpa_cons (qpe_op op_mulB (qpe_ix (ix_seqK (K := K) rfl) (qpv 7) qpe_int (fun _ _ => rfl)) (qpe_ix (ix_seqK (K := K) rfl) (qpv 8) qpe_int (fun _ _ => rfl))) qpa_nil))))
      (qpss_cons (qps_set (i := 10) sc_Lraised.nd rfl (Or.inl rfl) (qpe_call (ok_Lminus (K := K) T) (hr.mono (by first | decide | omega)) rfl T.m_Lminus T.F_Lminus.kp (b_Lminus T) .nil pass0 (qpa_cons (qpe_ix (ix_seqK (K := K) rfl) (qpv 6) qpe_int (fun _ _ => rfl)) (qpa_cons (qpe_ix (ix_seqK (K := K) rfl) (qpv 5) qpe_int (fun _ _ => rfl)) qpa_nil))))
      (qpss_cons (qps_set (i := 11) sc_Lraised.nd rfl (Or.inl rfl) (qpe_call (ok_Lplus (K := K) T) (hr.mono (by first | decide | omega)) rfl T.m_Lplus T.F_Lplus.kp (b_Lplus T) .nil pass0 (qpa_cons (qpe_ix (ix_seqK (K := K) rfl) (qpv 5) qpe_int (fun _ _ => rfl)) (qpa_cons (qpe_call (ok_Ltimes (K := K) T) (hr.mono (by first | decide | omega)) rfl T.m_Ltimes T.F_Ltimes.kp (b_Ltimes T) .nil pass0 (qpa_cons (qpv 9) (qpa_cons (qpv 10) qpa_nil))) qpa_nil))))
      (qpss_cons (qps_if (qpt_cmpR (op_eqDK (K := K) rfl hr.units) (qpe_call (ok_Ltake (K := K) T) (hr.mono (by first | decide | omega)) rfl T.m_Ltake T.F_Ltake.kp (b_Ltake T) .nil pass0 (qpa_cons (qpv 0) (qpa_cons qpe_int qpa_nil))) qpe_int (nomark _))
        (qpss_one (qps_set (i := 11) sc_Lraised.nd rfl (Or.inl rfl) (qpe_call (ok_Lplus (K := K) T) (hr.mono (by first | decide | omega)) rfl T.m_Lplus T.F_Lplus.kp (b_Lplus T) .nil pass0 (qpa_cons (qpv 11) (qpa_cons (qpe_call (ok_Ltimes (K := K) T) (hr.mono (by first | decide | omega)) rfl T.m_Ltimes T.F_Ltimes.kp (b_Ltimes T) .nil pass0 (qpa_cons (qpe_tup (qpa_cons qpe_int (qpa_cons qpe_int qpa_nil))) (qpa_cons (qpe_call (ok_Lminus (K := K) T) (hr.mono (by first | decide | omega)) rfl T.m_Lminus T.F_Lminus.kp (b_Lminus T) .nil pass0 (qpa_cons (qpe_ix (ix_seqK (K := K) rfl) (qpv 6) qpe_int (fun _ _ => rfl)) (qpa_cons (qpv 11) qpa_nil))) qpa_nil))) qpa_nil)))))
        qpss_nil)
      (qpss_one (qps_ret (qpe_tup (qpa_cons (qpv 2) (qpa_cons (qpe_op (op_catK (K := K) rfl) (qpe_op (op_catK (K := K) rfl) (qpe_slice (sl_listK (K := K) rfl) (qpv 3) qpo_none (qpo_some (qpv 4))) (qpe_lst (qpa_cons (qpe_tup (qpa_cons (qpe_ix (ix_seqK (K := K) rfl) (qpe_ix (ix_seqK (K := K) rfl) (qpv 3) (qpv 4) (fun _ _ => rfl)) qpe_int (fun _ _ => rfl)) (qpa_cons (qpv 11) qpa_nil))) qpa_nil))) (qpe_slice (sl_listK (K := K) rfl) (qpv 3) (qpo_some (qpe_op op_add (qpv 4) qpe_int)) qpo_none)) qpa_nil))))))))))))))))), ?_⟩
  haveI := T.c2_NOUGHT
  haveI := T.c2_KINDS
  refine Pu.enter h ?_
  rintro as Qp ⟨kd, cs, rfl, hk, og, k⟩
  unfold offD
  have n1 := og.ok.ne
  have n5 := og.ok.le
  trivial
  refine ⟨hk.lay, lay_sp, ?_⟩
  rcases id hk with hk' | hk'
  case inr =>
    have hk' : kd = "steps" := hk'
    subst hk'
    rw [eqv_pp, if_pos rfl]
    exact k _ (.inl rfl)
  have hk' : kd = "straight" := hk'
  subst hk'
  rw [eqv_tp, if_neg (by decide)]
  refine ite2 (fun h => k _ (.inl rfl)) (fun h => ?_)
  refine ⟨_, rfl, by omega, sm_200 (by omega) (by omega), fun a a0 a1 => ?_⟩
  trivial
  obtain ⟨n, rfl⟩ := Int.eq_ofNat_of_zero_le a0
  obtain ⟨X, p, x, Y0, e, hX⟩ := split2 (cs := cs) (n := n) (by omega)
  obtain ⟨q, Y, rfl⟩ : ∃ q Y, Y0 = q :: Y := by
    cases Y0 with
    | nil => rw [e] at a1; simp at a1; omega
    | cons q Y => exact ⟨q, Y, rfl⟩
  subst hX
  have ep : cs[X.length]? = some p := by rw [e]; simp
  have ex : cs[X.length + 1]? = some x := by rw [e, List.getElem?_append_right (by omega)]; simp
  have eq : cs[X.length + 2]? = some q := by rw [e, List.getElem?_append_right (by omega)]; simp
  have u1 := og.up X.length p x ep ex
  have u2 := og.up (X.length + 1) x q ex eq
  have sp := og.ok.sm p (List.mem_of_getElem? ep)
  have sx := og.ok.sm x (List.mem_of_getElem? ex)
  have sq := og.ok.sm q (List.mem_of_getElem? eq)
  rw [show (1 : Int) + (X.length : Int) - 1 = (X.length : Int) by omega]
  refine pGet_map ep ?_
  trivial
  rw [show (1 : Int) + (X.length : Int) + 1 = ((X.length + 2 : Nat) : Int) by omega]
  refine pGet_map eq ?_
  trivial
  rw [show (1 : Int) + (X.length : Int) = ((X.length + 1 : Nat) : Int) by omega]
  refine pGet_map ex ?_
  trivial
  refine ⟨_, _, rfl, sp.1.q (by decide) (by decide), sx.1.q (by decide) (by decide), ?_⟩
  trivial
  refine ⟨_, _, rfl, sp.1.q (by decide) (by decide), sq.1.q (by decide) (by decide), ?_⟩
  trivial
  have s1 := sp.1.sub sx.1
  have s2 := sp.1.sub sq.1
  have hw : (0 : Rat) < p.1 - q.1 := by have := u1.1; have := u2.1; grind
  have sh : SmR 310 310 ((p.1 - x.1) / (p.1 - q.1)) := (s1.div s2 (by grind)).mono (by decide) (by decide)
  refine ⟨⟨s1.1.mono (by decide), s2.2.mono (by decide)⟩, ⟨s1.2.mono (by decide), s2.1.mono (by decide)⟩, _, _, rfl, Int.mul_pos (denp _) (num_pos hw), (s1.1.mul s2.2).mono (by decide), (s1.2.mul s2.1).mono (by decide), ?_⟩
  rw [q_div]
  trivial
  refine ⟨_, _, rfl, sq.2.q (by decide) (by decide), sp.2.q (by decide) (by decide), ?_⟩
  trivial
  refine ⟨_, _, rfl, sh.q (by decide) (by decide), (sq.2.sub sp.2).q (by decide) (by decide), ?_⟩
  trivial
  refine ⟨_, _, rfl, sp.2.q (by decide) (by decide), (sh.mul (sq.2.sub sp.2)).q (by decide) (by decide), ?_⟩
  have sh' : SmR 263 263 ((p.1 - x.1) / (p.1 - q.1)) := (s1.div s2 (by grind)).mono (by decide) (by decide)
  have sw : SmR 769 653 (p.2 + (p.1 - x.1) / (p.1 - q.1) * (q.2 - p.2)) := (sp.2.add (sh'.mul (sq.2.sub sp.2))).mono (by decide) (by decide)
  have ew := way_eq p q x.1
  rw [ew] at sw
  have b1 := way_up (p := p) (q := q) (t := x.1) (by grind) (by have := u1.2; have := u2.2; grind) (Rat.le_of_lt u1.1) (Rat.le_of_lt u2.1)
  trivial
  rw [ew]
  have no : ∀ T : Rat, onWay p q x.1 ≤ T → SmR 1000 1000 T → Th (.tuple [.str "straight", .list ((X ++ [p]).map dcn ++ [dcn (x.1, T)] ++ (q :: Y).map dcn)]) ∧ ofB (.tuple [.str "straight", .list ((X ++ [p]).map dcn ++ [dcn (x.1, T)] ++ (q :: Y).map dcn)]) = false := fun T hT sT => by
    have em : (X ++ [p]).map dcn ++ [dcn (x.1, T)] ++ (q :: Y).map dcn = (X ++ p :: (x.1, T) :: q :: Y).map dcn := by simp
    rw [em]
    have mem : ∀ c ∈ X ++ p :: (x.1, T) :: q :: Y, c = (x.1, T) ∨ c ∈ cs := fun c hc => by
      rw [e]
      rcases List.mem_append.mp hc with z | z
      · exact .inr (List.mem_append.mpr (.inl z))
      · rcases List.mem_cons.mp z with z | z
        · exact .inr (by simp [z])
        · rcases List.mem_cons.mp z with z | z
          · exact .inl z
          · exact .inr (List.mem_append.mpr (.inr (List.mem_cons_of_mem _ (List.mem_cons_of_mem _ z))))
    have n2 := og.nn p (List.mem_of_getElem? ep)
    have n3 := og.nn x (List.mem_of_getElem? ex)
    refine ⟨th_off (pl_kd hk) (fun d hd => ?_) ?_, of_raise (fun c hc => ?_) (raise_no u1.1 u2.1 hT)⟩
    · obtain ⟨c, hc, rfl⟩ := List.mem_map.mp hd
      rcases mem c hc with rfl | z
      · exact el_dcn (sx.1.mono (by decide) (by decide)) sT
      · exact el_dcn ((og.ok.sm c z).1.mono (by decide) (by decide)) ((og.ok.sm c z).2.mono (by decide) (by decide))
    · rw [e] at n5; simp at n5 ⊢; omega
    · rcases mem c hc with rfl | z
      · exact ⟨n3.1, by show 0 ≤ T; have := b1.1; have := n2.2; grind⟩
      · exact og.nn c z
  obtain ⟨W, hW⟩ : ∃ W, W = onWay p q x.1 := ⟨_, rfl⟩
  rw [← hW] at no b1 sw ⊢
  refine ⟨2, rfl, by decide, sm4 2, fun g g0 g2 => ?_⟩
  trivial
  have ecs : cs = (X ++ [p]) ++ x :: q :: Y := by rw [e]; simp
  have sh2 : SmR 2 2 (Rat.divInt 1 2) := SmR.low (by unfold Sm; decide) (by unfold Sm; decide) (by decide)
  have hh2 : Rat.divInt 1 2 + Rat.divInt 1 2 = 1 := by decide +kernel
  have hp2 : 0 < Rat.divInt 1 2 := by decide +kernel
  have len : ((X.length + 1 : Nat) : Int) = (((X ++ [p]).length : Nat) : Int) := by simp
  refine ite2 (fun h0 => ?_) (fun h0 => ?_)
  case' refine_1 =>
    refine ⟨_, _, rfl, sq.2.q (by decide) (by decide), sw.q (by decide) (by decide), ?_⟩
    trivial
    refine ⟨_, _, rfl, sh2.q (by decide) (by decide), (sq.2.sub sw).q (by decide) (by decide), ?_⟩
    trivial
    refine ⟨_, _, rfl, sw.q (by decide) (by decide), (sh2.mul (sq.2.sub sw)).q (by decide) (by decide), ?_⟩
    trivial
    have eT : W + Rat.divInt 1 2 * (q.2 - W) = Rat.divInt 1 2 * (W + q.2) := by
      have : W = (Rat.divInt 1 2 + Rat.divInt 1 2) * W := by rw [hh2, Rat.one_mul]
      grind
    have hT : W ≤ W + Rat.divInt 1 2 * (q.2 - W) := by
      have := Rat.mul_nonneg (Rat.le_of_lt hp2) (show 0 ≤ q.2 - W by have := b1.2; grind)
      grind
    have sT : SmR 1000 1000 (W + Rat.divInt 1 2 * (q.2 - W)) := by rw [eT]; exact (sh2.mul (sw.add sq.2)).mono (by decide) (by decide)
    generalize W + Rat.divInt 1 2 * (q.2 - W) = V at hT sT ⊢
  case' refine_2 =>
    have hT : W ≤ W := Rat.le_refl
    have sT : SmR 1000 1000 W := sw.mono (by decide) (by decide)
  all_goals
    refine pGet_map ex ?_
    trivial
    rw [len]
    rw [ecs]
    rw [cut_pre, cut_post1]
    trivial
    exact ⟨by rw [ecs] at n5; simp at n5 ⊢; omega, by rw [ecs] at n5; simp at n5 ⊢; omega, k _ (.inr (no _ hT sT))⟩
def ps_Lsix : Pu.PSp := fun as Q => ∃ (kd : Str) (cs : List (Rat × Rat)), as = [.d (offD kd cs)] ∧ Kd kd ∧ OfG kd cs 100 54 244 130 ∧ ∀ x, Th x → ofB x = false → Q (.d x)
theorem ok_Lsix (T : Txt K mg D) : FnOk P w K mg base CX0 3 D.a_Lsix D.d_Lsix ["_law_offer_here"] (Pu.spOf K [.dat] ps_Lsix) := by
  refine T.F_Lsix.ok sc_Lsix (Pu.spOf.len rfl) (fun cdv A outer s H vs Q E hr h => ?_)
  refine ⟨_, (QSs.out (qpss_cons (qps_asg (qpv 0) (qpg_tupK (K := K) (n := 2) rfl rfl (qpgs_cons (qpg_name (i := 1) sc_Lsix.nd rfl (Or.inl rfl) (Or.inl rfl)) (qpgs_cons (qpg_name (i := 2) sc_Lsix.nd rfl (Or.inl rfl) (Or.inl rfl)) qpgs_nil)) rfl rfl))
      (qpss_cons (qps_set (i := 3) sc_Lsix.nd rfl (Or.inl rfl) (qpe_callTy (call_lstK (K := K) rfl) (by rfl) T.z_list (by rfl) (qpa_cons (qpv 2) qpa_nil)))
      (qpss_cons (qps_set (i := 4) sc_Lsix.nd rfl (Or.inr rfl) (qpe_tup (qpa_cons qpe_int (qpa_cons (qpe_op op_pow qpe_int qpe_int) qpa_nil))))
      (qpss_cons (qps_while PassesOwn.never (qpt_cmpR op_lt (qpe_callB (call_len2K (K := K) rfl) (by rfl) T.z_len PySem.boot_len (qpa_cons (qpv 3) qpa_nil)) qpe_int (nomark _))
        (qpss_cons (qps_asg (qpe_ix (ix_seqK (K := K) rfl) (qpv 3) qpe_int (fun _ _ => rfl)) (qpg_tupK (K := K) (n := 2) rfl rfl (qpgs_cons (qpg_name (i := 5) sc_Lsix.nd rfl (Or.inl rfl) (Or.inl rfl)) (qpgs_cons (qpg_name (i := 6) sc_Lsix.nd rfl (Or.inl rfl) (Or.inl rfl)) qpgs_nil)) rfl rfl))
        (qpss_cons (qps_set (i := 3) sc_Lsix.nd rfl (Or.inl rfl) (qpe_op (op_catK (K := K) rfl) (qpe_lst (qpa_cons (qpe_tup (qpa_cons (qpe_call (ok_Lplus (K := K) T) (hr.mono (by first | decide | omega)) rfl T.m_Lplus T.F_Lplus.kp (b_Lplus T) .nil pass0 (qpa_cons (qpv 5) (qpa_cons (qpe_tup (qpa_cons qpe_int (qpa_cons qpe_int qpa_nil))) qpa_nil))) (qpa_cons (qpv 6) qpa_nil))) qpa_nil)) (qpv 3)))
        (qpss_cons (qps_set (i := 3) sc_Lsix.nd rfl (Or.inl rfl) (qpe_op (op_catK (K := K) rfl) (qpe_slice (sl_listK (K := K) rfl) (qpv 3) qpo_none (qpo_some qpe_int)) (qpe_comp rfl (compSc_of (N' := ["_law_rate", "_law_one", "_law_dear"]) (cap := [some 4, none, none]) rfl rfl rfl rfl (by decide +kernel) rfl rfl) (qpi_sqK (K := K) rfl (qpe_slice (sl_listK (K := K) rfl) (qpv 3) (qpo_some qpe_int) qpo_none)) (fun _ _ _ => (qpg_tupK (K := K) (n := 2) rfl rfl (qpgs_cons (qpg_name (i := 1) (show (["_law_rate", "_law_one", "_law_dear"] : List Str).Nodup from by decide +kernel) rfl (Or.inl rfl) (Or.inr rfl)) (qpgs_cons (qpg_name (i := 2) (show (["_law_rate", "_law_one", "_law_dear"] : List Str).Nodup from by decide +kernel) rfl (Or.inl rfl) (Or.inr rfl)) qpgs_nil)) rfl rfl)) (fun _ _ _ => qpts_nil) (fun _ _ _ => (qpe_tup (qpa_cons (qpv 1) (qpa_cons (qpe_call (ok_Lplus (K := K) T) (hr.mono (by first | decide | omega)) rfl T.m_Lplus T.F_Lplus.kp (b_Lplus T) .nil pass0 (qpa_cons (qpv 2) (qpa_cons (qpv 0) qpa_nil))) qpa_nil)))))))
        (qpss_one (qps_set (i := 4) sc_Lsix.nd rfl (Or.inr rfl) (qpe_tup (qpa_cons qpe_int (qpa_cons (qpe_op op_mulB (qpe_ix (ix_seqK (K := K) rfl) (qpv 4) qpe_int (fun _ _ => rfl)) qpe_int) qpa_nil)))))))))
      (qpss_one (qps_ret (qpe_tup (qpa_cons (qpv 1) (qpa_cons (qpv 3) qpa_nil)))))))))), ?_⟩
  haveI := T.c2_NOUGHT
  haveI := T.c2_KINDS
  refine Pu.enter h ?_
  rintro as Qp ⟨kd, cs, rfl, hk, og, k⟩
  unfold offD
  have n1 := og.ok.ne
  have n5 := og.ok.le
  trivial
  refine ⟨cpow10 6, ?_⟩
  have ok := og.ok
  have e6 : PyData.tuple [.int 1, .int ((10 : Int) ^ Int.toNat 6)] = dq (rt 0) := rt_dq 0
  rw [e6]
  refine ⟨fun m e => ∃ (ms : List (Rat × Rat)) (z : Nat) (o5 o6 : Option SV), e = [some (.d (.tuple [.str kd, .list (cs.map dcn)])), some (.d (.str kd)), some (.d (.list (cs.map dcn))), some (.own (ms.map dcn)), some (.d (dq (rt z))), o5, o6] ∧ m = 6 - ms.length ∧ 1 ≤ ms.length ∧ ms.length ≤ 6 ∧ z + cs.length = ms.length ∧ (∀ c ∈ ms, SmR (100 + 3 * z) (54 + 3 * z) c.1 ∧ SmR (244 + 100 * z) (130 + 100 * z) c.2), ⟨_, cs, 0, _, _, rfl, rfl, n1, by omega, by omega, fun c hc => ok.sm c hc⟩, ?_⟩
  rintro m e ⟨ms, z, o5, o6, rfl, rfl, h1, h6, hz, sm⟩
  trivial
  refine ite2 (fun h => ?_) (fun h => ?_)
  · obtain ⟨c, r, rfl⟩ : ∃ c r, ms = c :: r := by
      cases ms with
      | nil => simp at h1
      | cons c r => exact ⟨c, r, rfl⟩
    have hz5 : z ≤ 4 := by simp at h hz; omega
    have sc := sm c List.mem_cons_self
    refine pGet_map (n := 0) (a := c) rfl ?_
    trivial
    refine ⟨_, _, rfl, sc.1.q (by omega) (by omega), smr1.q (by decide) (by decide), ?_⟩
    trivial
    obtain ⟨L, hL⟩ : ∃ L, L = c :: r := ⟨_, rfl⟩
    have hLl : L.length = r.length + 1 := by rw [hL]; rfl
    have ec : cutD (PyData.tuple [dq (c.1 + 1), dq c.2] :: dcn c :: r.map dcn) (some 1) none = L.map dcn := by rw [hL]; exact cut_from1 (f := dcn) (xs := (c.1 + 1, c.2) :: c :: r)
    rw [ec]
    refine ⟨by simp at h6; omega, by simp at h6 ⊢; omega, comp_map (fun i e ys => ∃ o1 o2 : Option SV, e = [some (.d (dq (rt z))), o1, o2] ∧ ys = ((L.map fun d => (d.1, d.2 + rt z)).take i).map dcn) ⟨_, _, rfl, rfl⟩ ?_ ?_⟩
    · rintro i d e ys hd ⟨o1, o2, rfl, rfl⟩
      have sd := sm d (hL ▸ List.mem_of_getElem? hd)
      trivial
      refine ⟨_, _, rfl, sd.2.q (by omega) (by omega), (rt_sm (by omega)).q (by decide) (by decide), ?_⟩
      trivial
      exact ⟨_, _, rfl, by rw [List.take_add_one, List.getElem?_map, hd, List.map_append]; rfl⟩
    · rintro e ys ⟨o1, o2, rfl, rfl⟩
      rw [List.take_of_length_le (by simp)]
      trivial
      have e1 : cutD (PyData.tuple [dq (c.1 + 1), dq c.2] :: dcn c :: r.map dcn) none (some 1) = [dcn (c.1 + 1, c.2)] := cut_to (f := dcn) (xs := (c.1 + 1, c.2) :: c :: r) (n := 1) (by simp)
      have er : PyData.tuple [.int 1, .int (((rt z).den : Int) * 1000)] = dq (rt (z + 1)) := by
        have e3 : (10 : Int) ^ 3 = 1000 := by decide
        have e4 : (10 : Int) ^ (6 + 3 * (z + 1)) = (10 : Int) ^ (6 + 3 * z) * 1000 := by rw [show 6 + 3 * (z + 1) = (6 + 3 * z) + 3 by omega, Int.pow_add (10 : Int) (6 + 3 * z) 3, e3]
        rw [(rt_nd z).2, ← rt_dq (z + 1), e4]
      have hr5 : r.length < 5 := by simp at h; omega
      have hzl : z + cs.length = r.length + 1 := by simp at hz; exact hz
      rw [e1]
      refine ⟨by simp; omega, ⟨(rt_sm (by omega)).2.mono (by decide), (show Sm 10 1000 by unfold Sm; decide).mono (by decide)⟩, 6 - (L.length + 1), by omega, (c.1 + 1, c.2) :: L.map (fun d => (d.1, d.2 + rt z)), z + 1, _, _, by rw [er]; rfl, by simp, by simp, by simp; omega, by simp; omega, fun d hd => ?_⟩
      rcases List.mem_cons.mp hd with rfl | hd
      · exact ⟨(sc.1.add smr1).mono (by omega) (by omega), sc.2.mono (by omega) (by omega)⟩
      · obtain ⟨d0, hd0, rfl⟩ := List.mem_map.mp hd
        have sd := sm d0 (hL ▸ hd0)
        exact ⟨sd.1.mono (by omega) (by omega), (sd.2.add (rt_sm (by omega))).mono (by omega) (by omega)⟩
  · refine k _ (th_off (pl_kd hk) (fun d hd => ?_) (by simp; omega)) (of_long (by simp; omega))
    obtain ⟨c, hc, rfl⟩ := List.mem_map.mp hd
    have hz5 : z ≤ 5 := by omega
    exact el_dcn ((sm c hc).1.mono (by omega) (by omega)) ((sm c hc).2.mono (by omega) (by omega))
def ps_Ltold : Pu.PSp := fun as Q => ∃ (x : PyData) (b : Bool), as = [.d x, .d (.bool b)] ∧ OSm x ∧ (showE1 x ∧ PyData.strOk (told x) = true) ∧ ofB x = b ∧ Q (.d (.bool true))
theorem ok_Ltold (T : Txt K mg D) : FnOk P w K mg base CX0 7 D.a_Ltold D.d_Ltold ["_law_thing", "_law_due"] (Pu.spOf K [.dat, .dat] ps_Ltold) := by
  refine T.F_Ltold.ok sc_Ltold (Pu.spOf.len rfl) (fun cdv A outer s H vs Q E hr h => ?_)
  refine ⟨_, (QSs.out (qpss_cons (qps_set (i := 2) sc_Ltold.nd rfl (Or.inl rfl) (qpe_callTy (call_strD1K (K := K) rfl T.sysm hr.gd hr.units) (by rfl) T.z_str (by rfl) (qpa_cons (qpv 0) qpa_nil)))
      (qpss_cons (qps_set (i := 3) sc_Ltold.nd rfl (Or.inl rfl) (qpe_call (ok_isoffer (K := K) T) (hr.mono (by first | decide | omega)) rfl T.m_isoffer T.F_isoffer.kp (b_isoffer T) .nil pass0 (qpa_cons (qpv 0) qpa_nil)))
      (qpss_one (qps_ret (qpe_and (qpe_callB (call_isiK (K := K) rfl) (by rfl) T.z_isinstance (by rfl) (qpa_cons (qpv 3) (qpa_cons (qpe_bltn (v := .ty "bool") rfl T.z_bool (by rfl) rfl) qpa_nil))) (qpe_and (qpe_cmpR (op_eqDK (K := K) rfl hr.units) (qpv 3) (qpv 1) (nomark _)) (qpe_one (qpe_cmpR (op_eqDK (K := K) rfl hr.units) (qpe_callTy (call_strD1K (K := K) rfl T.sysm hr.gd hr.units) (by rfl) T.z_str (by rfl) (qpa_cons (qpv 0) qpa_nil)) (qpv 2) (nomark _)))))))))), ?_⟩
  haveI := T.c2_NOUGHT
  haveI := T.c2_KINDS
  refine Pu.enter h ?_
  rintro as Qp ⟨x, b, rfl, sx, ⟨hs, so⟩, e, k⟩
  trivial
  refine ⟨hs, x, rfl, sx, ?_⟩
  rw [e]
  trivial
  refine ⟨hs, ?_⟩
  trivial
  exact ⟨so, so, k⟩
theorem ok_law (T : Txt K mg D) : FnOk P w K mg base CX0 8 D.a_law D.d_law ["_law_script"] (spLaw K) := by
  refine FnOk.imp (sp := Pu.spOf K [.vw] Pu.pLaw) ?_ Pu.law_in
  refine T.F_law.ok sc_law (Pu.spOf.len rfl) (fun cdv A outer s H vs Q E hr h => ?_)
  refine ⟨_, (QSs.out (qpss_cons (qps_for PassesOwn.never rfl (qpi_range1 rfl T.z_range (qpa_cons (qpe_callB (call_maxN rfl) (by rfl) T.z_max (by rfl) (qpa_cons qpe_int (qpa_cons (qpe_callB (call_minN rfl) (by rfl) T.z_min (by rfl) (qpa_cons (qpe_callB (call_len2K (K := K) rfl) (by rfl) T.z_len PySem.boot_len (qpa_cons (qpv 0) qpa_nil)) (qpa_cons qpe_int qpa_nil))) qpa_nil))) qpa_nil)) (qpg_name (i := 1) sc_law.nd rfl (Or.inl rfl) (Or.inl rfl))
        (qpss_cons (qps_set (i := 2) sc_law.nd rfl (Or.inl rfl) (qpe_call (ok_Lbegun (K := K) T) (hr.mono (by first | decide | omega)) rfl T.m_Lbegun T.F_Lbegun.kp (b_Lbegun T) .nil pass0 (qpa_cons (qpv 0) (qpa_cons (qpv 1) qpa_nil))))
        (qpss_cons (qps_set (i := 3) sc_law.nd rfl (Or.inl rfl) (qpe_call (ok_Loffer (K := K) T) (hr.mono (by first | decide | omega)) rfl T.m_Loffer T.F_Loffer.kp (b_Loffer T) .nil pass0 (qpa_cons (qpv 2) (qpa_cons (qpe_ix (ix_seqK (K := K) rfl) (qpe_lst (qpa_cons qpe_str (qpa_cons qpe_str qpa_nil))) (qpe_call (ok_Ltake (K := K) T) (hr.mono (by first | decide | omega)) rfl T.m_Ltake T.F_Ltake.kp (b_Ltake T) .nil pass0 (qpa_cons (qpv 2) (qpa_cons qpe_int qpa_nil))) (fun _ _ => rfl)) (qpa_cons qpe_int (qpa_cons qpe_bl qpa_nil))))))
        (qpss_cons (qps_if (QW.pt (qpw_or (qpt_not (qpt_val (qpe_call (ok_Ltold (K := K) T) (hr.mono (by first | decide | omega)) rfl T.m_Ltold T.F_Ltold.kp (b_Ltold T) .nil pass0 (qpa_cons (qpv 3) (qpa_cons qpe_bl qpa_nil))))) (qpw_or1 (qpt_not (qpt_val (qpe_call (ok_Ltold (K := K) T) (hr.mono (by first | decide | omega)) rfl T.m_Ltold T.F_Ltold.kp (b_Ltold T) .nil pass0 (qpa_cons (qpe_tup (qpa_cons qpe_str (qpa_cons (qpe_callTy (call_lstK (K := K) rfl) (by rfl) T.z_list (by rfl) (qpa_cons (qpe_ix (ix_seqK (K := K) rfl) (qpv 3) qpe_int (fun _ _ => rfl)) qpa_nil)) qpa_nil))) (qpa_cons qpe_bl qpa_nil))))))))
          (qpss_one (qps_ret qpe_bl))
          qpss_nil)
        (qpss_cons (qps_if (qpt_not (qpt_val (qpe_call (ok_Ltold (K := K) T) (hr.mono (by first | decide | omega)) rfl T.m_Ltold T.F_Ltold.kp (b_Ltold T) .nil pass0 (qpa_cons (qpe_call (ok_Lscaled (K := K) T) (hr.mono (by first | decide | omega)) rfl T.m_Lscaled T.F_Lscaled.kp (b_Lscaled T) .nil pass0 (qpa_cons (qpv 2) (qpa_cons (qpv 3) qpa_nil))) (qpa_cons qpe_bl qpa_nil)))))
          (qpss_one (qps_ret qpe_bl))
          qpss_nil)
        (qpss_cons (qps_set (i := 4) sc_law.nd rfl (Or.inl rfl) (qpe_call (ok_Lothers (K := K) T) (hr.mono (by first | decide | omega)) rfl T.m_Lothers T.F_Lothers.kp (b_Lothers T) .nil pass0 (qpa_cons (qpv 2) (qpa_cons (qpv 3) qpa_nil))))
        (qpss_cons (qps_for PassesOwn.never rfl (qpi_sqK (K := K) rfl (qpe_lst (qpa_cons (qpe_ix (ix_seqK (K := K) rfl) (qpv 4) (qpe_call (ok_Ltake (K := K) T) (hr.mono (by first | decide | omega)) rfl T.m_Ltake T.F_Ltake.kp (b_Ltake T) .nil pass0 (qpa_cons (qpv 2) (qpa_cons (qpe_callB (call_len2K (K := K) rfl) (by rfl) T.z_len PySem.boot_len (qpa_cons (qpv 4) qpa_nil)) qpa_nil))) (fun _ _ => rfl)) (qpa_cons (qpe_call (ok_Lsix (K := K) T) (hr.mono (by first | decide | omega)) rfl T.m_Lsix T.F_Lsix.kp (b_Lsix T) .nil pass0 (qpa_cons (qpv 3) qpa_nil)) qpa_nil)))) (qpg_name (i := 5) sc_law.nd rfl (Or.inl rfl) (Or.inl rfl))
          (qpss_one (qps_if (qpt_not (qpt_val (qpe_call (ok_Ltold (K := K) T) (hr.mono (by first | decide | omega)) rfl T.m_Ltold T.F_Ltold.kp (b_Ltold T) .nil pass0 (qpa_cons (qpv 5) (qpa_cons qpe_bl qpa_nil)))))
            (qpss_one (qps_ret qpe_bl))
            qpss_nil)))
        (qpss_one (qps_for PassesOwn.never rfl (qpi_sqK (K := K) rfl (qpe_lst (qpa_cons (qpe_call (ok_Lturned (K := K) T) (hr.mono (by first | decide | omega)) rfl T.m_Lturned T.F_Lturned.kp (b_Lturned T) .nil pass0 (qpa_cons (qpv 2) (qpa_cons (qpv 3) qpa_nil))) (qpa_cons (qpe_call (ok_Lraised (K := K) T) (hr.mono (by first | decide | omega)) rfl T.m_Lraised T.F_Lraised.kp (b_Lraised T) .nil pass0 (qpa_cons (qpv 2) (qpa_cons (qpv 3) qpa_nil))) qpa_nil)))) (qpg_name (i := 5) sc_law.nd rfl (Or.inl rfl) (Or.inl rfl))
          (qpss_one (qps_if (QW.pt (qpw_and (qpt_cmpR op_notN' (qpv 5) qpe_non (nomark _)) (qpw_and1 (qpt_not (qpt_val (qpe_call (ok_Ltold (K := K) T) (hr.mono (by first | decide | omega)) rfl T.m_Ltold T.F_Ltold.kp (b_Ltold T) .nil pass0 (qpa_cons (qpv 5) (qpa_cons qpe_bl qpa_nil))))))))
            (qpss_one (qps_ret qpe_bl))
            qpss_nil)))))))))))
      (qpss_one (qps_ret qpe_bl)))), ?_⟩
  haveI := T.c2_NOUGHT
  haveI := T.c2_KINDS
  refine Pu.enter h ?_
  rintro as Qp ⟨ns, rfl, hns, k⟩
  trivial
  refine ⟨by split <;> split <;> omega, for_rng (fun i e => ∃ o1 o2 o3 o4 o5 : Option SV, e = [some (.bor (ns.map .int)), o1, o2, o3, o4, o5]) ⟨_, _, _, _, _, rfl⟩ ?_ ?_⟩
  · rintro i e hi ⟨o1, o2, o3, o4, o5, rfl⟩
    have hi8 : i < 30 := by
      revert hi
      split <;> split <;> intro hi <;> omega
    trivial
    refine ⟨ns, _, rfl, by omega, by omega, ?_⟩
    trivial
    refine ⟨2, rfl, by decide, sm4 2, fun g g0 g2 => ?_⟩
    trivial
    obtain ⟨kd, hk, ek⟩ : ∃ kd : Str, Kd kd ∧ L2.atI [PyData.str "straight", .str "steps"] g = some (.str kd) := by
      have hg : g = 0 ∨ g = 1 := by omega
      rcases hg with rfl | rfl
      · exact ⟨_, .inl rfl, rfl⟩
      · exact ⟨_, .inr rfl, rfl⟩
    refine pGet_of ek ?_
    trivial
    refine ⟨kd, rfl, hk, fun cs og => ?_⟩
    trivial
    have th := th_good hk og (by decide) (by decide) (by decide) (by decide)
    have th2 := th_good (.inr rfl) og.steps (by decide) (by decide) (by decide) (by decide)
    refine ⟨offD kd cs, true, rfl, th.sm, ⟨th.sh, th.so⟩, of_good hk og, ?_⟩
    unfold offD
    trivial
    refine ⟨offD "steps" cs, true, rfl, th2.sm, ⟨th2.sh, th2.so⟩, of_good (.inr rfl) og.steps, ?_⟩
    trivial
    refine ⟨kd, cs, rfl, og, fun cs2 og2 => ?_⟩
    have th3 := th_good hk og2 (by decide) (by decide) (by decide) (by decide)
    trivial
    refine ⟨offD kd cs2, true, rfl, th3.sm, ⟨th3.sh, th3.so⟩, of_good hk og2, ?_⟩
    trivial
    refine ⟨kd, cs, rfl, hk, og, fun xs x0 x60 hxs => ?_⟩
    trivial
    refine ⟨_, rfl, by omega, sm_200 (by omega) (by omega), fun a a0 a1 => ?_⟩
    trivial
    obtain ⟨n, rfl⟩ := Int.eq_ofNat_of_zero_le a0
    have hn : n < xs.length := by omega
    obtain ⟨tx, bx⟩ := hxs xs[n] (List.getElem_mem hn)
    refine pGet_of (atI_nat (List.getElem?_eq_getElem hn)) ?_
    trivial
    refine ⟨kd, cs, rfl, hk, og, fun y ty bY => ?_⟩
    trivial
    refine for_seq (fun i e => ∃ o1 o4 o5 : Option SV, e = [some (.bor (ns.map .int)), o1, some .st, some (.d (.tuple [.str kd, .list (cs.map dcn)])), o4, o5]) ⟨_, _, _, rfl⟩ ?_ ?_
    · rintro j x e hx ⟨o1, o4, o5, rfl⟩
      have hx2 : Th x ∧ ofB x = false := by
        match j, hx with
        | 0, hx => cases hx; exact ⟨tx, bx⟩
        | 1, hx => cases hx; exact ⟨ty, bY⟩
        | j + 2, hx => simp at hx
      trivial
      refine ⟨x, false, rfl, hx2.1.sm, ⟨hx2.1.sh, hx2.1.so⟩, hx2.2, ?_⟩
      trivial
      exact ⟨_, _, _, rfl⟩
    rintro e ⟨o1, o4, o5, rfl⟩
    trivial
    refine ⟨kd, cs, rfl, hk, og, fun y1 h1 => ?_⟩
    trivial
    refine ⟨kd, cs, rfl, hk, og, fun y2 h2 => ?_⟩
    trivial
    refine for_seq (fun i e => ∃ o1 o4 o5 : Option SV, e = [some (.bor (ns.map .int)), o1, some .st, some (.d (.tuple [.str kd, .list (cs.map dcn)])), o4, o5]) ⟨_, _, _, rfl⟩ ?_ ?_
    · rintro j x e hx ⟨o1, o4, o5, rfl⟩
      have hx2 : x = .none ∨ (Th x ∧ ofB x = false) := by
        match j, hx with
        | 0, hx => cases hx; exact h1
        | 1, hx => cases hx; exact h2
        | j + 2, hx => simp at hx
      trivial
      rcases hx2 with rfl | ⟨t1, t2⟩
      · trivial
        exact ⟨_, _, _, rfl⟩
      · refine ite2 (fun _ => ?_) (fun _ => ⟨_, _, _, rfl⟩)
        refine ⟨x, false, rfl, t1.sm, ⟨t1.sh, t1.so⟩, t2, ?_⟩
        trivial
        exact ⟨_, _, _, rfl⟩
    · rintro e ⟨o1, o4, o5, rfl⟩
      trivial
      exact ⟨_, _, _, _, _, rfl⟩
  · rintro e ⟨o1, o2, o3, o4, o5, rfl⟩
    trivial
    exact k
end
theorem all_mk {l : PySem.W.OpenLaw} {w : World} {K : PySem.W.Frag} {h : Heap} {mg : Str → Option Value} {fa : Addr} (X : K.In h) (G : h.Ns mainGlobals mg) (hfa : mg "law" = some (.ref fa))
    {od_iswhole an_iswhole : Option Addr} {sl_iswhole : Array (Option Value)} {oc_iswhole kV_iswhole dc_iswhole pm_iswhole cd_iswhole ct_iswhole : Value} {a_iswhole : Addr}
    {od_istupleof an_istupleof : Option Addr} {sl_istupleof : Array (Option Value)} {oc_istupleof kV_istupleof dc_istupleof pm_istupleof cd_istupleof ct_istupleof : Value} {a_istupleof : Addr}
    {od_commonpart an_commonpart : Option Addr} {sl_commonpart : Array (Option Value)} {oc_commonpart kV_commonpart dc_commonpart pm_commonpart cd_commonpart ct_commonpart : Value} {a_commonpart : Addr}
    {od_isratio an_isratio : Option Addr} {sl_isratio : Array (Option Value)} {oc_isratio kV_isratio dc_isratio pm_isratio cd_isratio ct_isratio : Value} {a_isratio : Addr}
    {od_plus an_plus : Option Addr} {sl_plus : Array (Option Value)} {oc_plus kV_plus dc_plus pm_plus cd_plus ct_plus : Value} {a_plus : Addr}
    {od_minus an_minus : Option Addr} {sl_minus : Array (Option Value)} {oc_minus kV_minus dc_minus pm_minus cd_minus ct_minus : Value} {a_minus : Addr}
    {od_product an_product : Option Addr} {sl_product : Array (Option Value)} {oc_product kV_product dc_product pm_product cd_product ct_product : Value} {a_product : Addr}
    {od_parted an_parted : Option Addr} {sl_parted : Array (Option Value)} {oc_parted kV_parted dc_parted pm_parted cd_parted ct_parted : Value} {a_parted : Addr}
    {od_isless an_isless : Option Addr} {sl_isless : Array (Option Value)} {oc_isless kV_isless dc_isless pm_isless cd_isless ct_isless : Value} {a_isless : Addr}
    {od_isfromnought an_isfromnought : Option Addr} {sl_isfromnought : Array (Option Value)} {oc_isfromnought kV_isfromnought dc_isfromnought pm_isfromnought cd_isfromnought ct_isfromnought : Value} {a_isfromnought : Addr}
    {od_iscorner an_iscorner : Option Addr} {sl_iscorner : Array (Option Value)} {oc_iscorner kV_iscorner dc_iscorner pm_iscorner cd_iscorner ct_iscorner : Value} {a_iscorner : Addr}
    {od_ratebetween an_ratebetween : Option Addr} {sl_ratebetween : Array (Option Value)} {oc_ratebetween kV_ratebetween dc_ratebetween pm_ratebetween cd_ratebetween ct_ratebetween : Value} {a_ratebetween : Addr}
    {od_aredearerinorder an_aredearerinorder : Option Addr} {sl_aredearerinorder : Array (Option Value)} {oc_aredearerinorder kV_aredearerinorder dc_aredearerinorder pm_aredearerinorder cd_aredearerinorder ct_aredearerinorder : Value} {a_aredearerinorder : Addr}
    {od_areeversteeper an_areeversteeper : Option Addr} {sl_areeversteeper : Array (Option Value)} {oc_areeversteeper kV_areeversteeper dc_areeversteeper pm_areeversteeper cd_areeversteeper ct_areeversteeper : Value} {a_areeversteeper : Addr}
    {od_isoffer an_isoffer : Option Addr} {sl_isoffer : Array (Option Value)} {oc_isoffer kV_isoffer dc_isoffer pm_isoffer cd_isoffer ct_isoffer : Value} {a_isoffer : Addr}
    {od_Lbegun an_Lbegun : Option Addr} {sl_Lbegun : Array (Option Value)} {oc_Lbegun kV_Lbegun dc_Lbegun pm_Lbegun cd_Lbegun ct_Lbegun : Value} {a_Lbegun : Addr}
    {od_Ltake an_Ltake : Option Addr} {sl_Ltake : Array (Option Value)} {oc_Ltake kV_Ltake dc_Ltake pm_Ltake cd_Ltake ct_Ltake : Value} {a_Ltake : Addr}
    {od_Llow an_Llow : Option Addr} {sl_Llow : Array (Option Value)} {oc_Llow kV_Llow dc_Llow pm_Llow cd_Llow ct_Llow : Value} {a_Llow : Addr}
    {od_Lplus an_Lplus : Option Addr} {sl_Lplus : Array (Option Value)} {oc_Lplus kV_Lplus dc_Lplus pm_Lplus cd_Lplus ct_Lplus : Value} {a_Lplus : Addr}
    {od_Lminus an_Lminus : Option Addr} {sl_Lminus : Array (Option Value)} {oc_Lminus kV_Lminus dc_Lminus pm_Lminus cd_Lminus ct_Lminus : Value} {a_Lminus : Addr}
    {od_Ltimes an_Ltimes : Option Addr} {sl_Ltimes : Array (Option Value)} {oc_Ltimes kV_Ltimes dc_Ltimes pm_Ltimes cd_Ltimes ct_Ltimes : Value} {a_Ltimes : Addr}
    {od_Lamount an_Lamount : Option Addr} {sl_Lamount : Array (Option Value)} {oc_Lamount kV_Lamount dc_Lamount pm_Lamount cd_Lamount ct_Lamount : Value} {a_Lamount : Addr}
    {od_Loffer an_Loffer : Option Addr} {sl_Loffer : Array (Option Value)} {oc_Loffer kV_Loffer dc_Loffer pm_Loffer cd_Loffer ct_Loffer : Value} {a_Loffer : Addr}
    {od_Lscaled an_Lscaled : Option Addr} {sl_Lscaled : Array (Option Value)} {oc_Lscaled kV_Lscaled dc_Lscaled pm_Lscaled cd_Lscaled ct_Lscaled : Value} {a_Lscaled : Addr}
    {od_Lothers an_Lothers : Option Addr} {sl_Lothers : Array (Option Value)} {oc_Lothers kV_Lothers dc_Lothers pm_Lothers cd_Lothers ct_Lothers : Value} {a_Lothers : Addr}
    {od_Lturned an_Lturned : Option Addr} {sl_Lturned : Array (Option Value)} {oc_Lturned kV_Lturned dc_Lturned pm_Lturned cd_Lturned ct_Lturned : Value} {a_Lturned : Addr}
    {od_Lraised an_Lraised : Option Addr} {sl_Lraised : Array (Option Value)} {oc_Lraised kV_Lraised dc_Lraised pm_Lraised cd_Lraised ct_Lraised : Value} {a_Lraised : Addr}
    {od_Lsix an_Lsix : Option Addr} {sl_Lsix : Array (Option Value)} {oc_Lsix kV_Lsix dc_Lsix pm_Lsix cd_Lsix ct_Lsix : Value} {a_Lsix : Addr}
    {od_Ltold an_Ltold : Option Addr} {sl_Ltold : Array (Option Value)} {oc_Ltold kV_Ltold dc_Ltold pm_Ltold cd_Ltold ct_Ltold : Value} {a_Ltold : Addr}
    {od_law an_law : Option Addr} {sl_law : Array (Option Value)} {oc_law kV_law dc_law pm_law cd_law ct_law : Value} {a_law : Addr}
    {q_NOUGHT : Addr}
    {q_KINDS : Addr}
    {od_NOUGHT : Option Addr} {its_NOUGHT : Array Value} {n_NOUGHT : Nat} {sl_NOUGHT : Array (Option Value)} {t0_NOUGHT t1_NOUGHT : Tok}
    {od_KINDS : Option Addr} {its_KINDS : Array Value} {n_KINDS : Nat} {sl_KINDS : Array (Option Value)} {t0_KINDS t1_KINDS : Tok}
    {t_MOST_CORNERS : Tok}
    {osy : Obj}
    (g_iswhole : PySem.W.nsIn K mainGlobals "is_whole" = some (some (.ref a_iswhole)))
    (l_iswhole : K.lookup a_iswhole = some ⟨oc_iswhole, od_iswhole, .func (PySem.W.fnOf "is_whole" "is_whole" (defArgs s_iswhole) (defBody s_iswhole) (defScope s_iswhole) .none kV_iswhole dc_iswhole pm_iswhole an_iswhole cd_iswhole ct_iswhole), sl_iswhole⟩)
    (c_iswhole : PySem.W.codeIn K cd_iswhole "is_whole" = true)
    (k_iswhole : PySem.W.keepIn K (.ref a_iswhole) = true)
    (g_istupleof : PySem.W.nsIn K mainGlobals "is_tuple_of" = some (some (.ref a_istupleof)))
    (l_istupleof : K.lookup a_istupleof = some ⟨oc_istupleof, od_istupleof, .func (PySem.W.fnOf "is_tuple_of" "is_tuple_of" (defArgs s_istupleof) (defBody s_istupleof) (defScope s_istupleof) .none kV_istupleof dc_istupleof pm_istupleof an_istupleof cd_istupleof ct_istupleof), sl_istupleof⟩)
    (c_istupleof : PySem.W.codeIn K cd_istupleof "is_tuple_of" = true)
    (k_istupleof : PySem.W.keepIn K (.ref a_istupleof) = true)
    (g_commonpart : PySem.W.nsIn K mainGlobals "common_part" = some (some (.ref a_commonpart)))
    (l_commonpart : K.lookup a_commonpart = some ⟨oc_commonpart, od_commonpart, .func (PySem.W.fnOf "common_part" "common_part" (defArgs s_commonpart) (defBody s_commonpart) (defScope s_commonpart) .none kV_commonpart dc_commonpart pm_commonpart an_commonpart cd_commonpart ct_commonpart), sl_commonpart⟩)
    (c_commonpart : PySem.W.codeIn K cd_commonpart "common_part" = true)
    (k_commonpart : PySem.W.keepIn K (.ref a_commonpart) = true)
    (g_isratio : PySem.W.nsIn K mainGlobals "is_ratio" = some (some (.ref a_isratio)))
    (l_isratio : K.lookup a_isratio = some ⟨oc_isratio, od_isratio, .func (PySem.W.fnOf "is_ratio" "is_ratio" (defArgs s_isratio) (defBody s_isratio) (defScope s_isratio) .none kV_isratio dc_isratio pm_isratio an_isratio cd_isratio ct_isratio), sl_isratio⟩)
    (c_isratio : PySem.W.codeIn K cd_isratio "is_ratio" = true)
    (k_isratio : PySem.W.keepIn K (.ref a_isratio) = true)
    (g_plus : PySem.W.nsIn K mainGlobals "plus" = some (some (.ref a_plus)))
    (l_plus : K.lookup a_plus = some ⟨oc_plus, od_plus, .func (PySem.W.fnOf "plus" "plus" (defArgs s_plus) (defBody s_plus) (defScope s_plus) .none kV_plus dc_plus pm_plus an_plus cd_plus ct_plus), sl_plus⟩)
    (c_plus : PySem.W.codeIn K cd_plus "plus" = true)
    (k_plus : PySem.W.keepIn K (.ref a_plus) = true)
    (g_minus : PySem.W.nsIn K mainGlobals "minus" = some (some (.ref a_minus)))
    (l_minus : K.lookup a_minus = some ⟨oc_minus, od_minus, .func (PySem.W.fnOf "minus" "minus" (defArgs s_minus) (defBody s_minus) (defScope s_minus) .none kV_minus dc_minus pm_minus an_minus cd_minus ct_minus), sl_minus⟩)
    (c_minus : PySem.W.codeIn K cd_minus "minus" = true)
    (k_minus : PySem.W.keepIn K (.ref a_minus) = true)
    (g_product : PySem.W.nsIn K mainGlobals "product" = some (some (.ref a_product)))
    (l_product : K.lookup a_product = some ⟨oc_product, od_product, .func (PySem.W.fnOf "product" "product" (defArgs s_product) (defBody s_product) (defScope s_product) .none kV_product dc_product pm_product an_product cd_product ct_product), sl_product⟩)
    (c_product : PySem.W.codeIn K cd_product "product" = true)
    (k_product : PySem.W.keepIn K (.ref a_product) = true)
    (g_parted : PySem.W.nsIn K mainGlobals "parted" = some (some (.ref a_parted)))
    (l_parted : K.lookup a_parted = some ⟨oc_parted, od_parted, .func (PySem.W.fnOf "parted" "parted" (defArgs s_parted) (defBody s_parted) (defScope s_parted) .none kV_parted dc_parted pm_parted an_parted cd_parted ct_parted), sl_parted⟩)
    (c_parted : PySem.W.codeIn K cd_parted "parted" = true)
    (k_parted : PySem.W.keepIn K (.ref a_parted) = true)
    (g_isless : PySem.W.nsIn K mainGlobals "is_less" = some (some (.ref a_isless)))
    (l_isless : K.lookup a_isless = some ⟨oc_isless, od_isless, .func (PySem.W.fnOf "is_less" "is_less" (defArgs s_isless) (defBody s_isless) (defScope s_isless) .none kV_isless dc_isless pm_isless an_isless cd_isless ct_isless), sl_isless⟩)
    (c_isless : PySem.W.codeIn K cd_isless "is_less" = true)
    (k_isless : PySem.W.keepIn K (.ref a_isless) = true)
    (g_isfromnought : PySem.W.nsIn K mainGlobals "is_from_nought" = some (some (.ref a_isfromnought)))
    (l_isfromnought : K.lookup a_isfromnought = some ⟨oc_isfromnought, od_isfromnought, .func (PySem.W.fnOf "is_from_nought" "is_from_nought" (defArgs s_isfromnought) (defBody s_isfromnought) (defScope s_isfromnought) .none kV_isfromnought dc_isfromnought pm_isfromnought an_isfromnought cd_isfromnought ct_isfromnought), sl_isfromnought⟩)
    (c_isfromnought : PySem.W.codeIn K cd_isfromnought "is_from_nought" = true)
    (k_isfromnought : PySem.W.keepIn K (.ref a_isfromnought) = true)
    (g_iscorner : PySem.W.nsIn K mainGlobals "is_corner" = some (some (.ref a_iscorner)))
    (l_iscorner : K.lookup a_iscorner = some ⟨oc_iscorner, od_iscorner, .func (PySem.W.fnOf "is_corner" "is_corner" (defArgs s_iscorner) (defBody s_iscorner) (defScope s_iscorner) .none kV_iscorner dc_iscorner pm_iscorner an_iscorner cd_iscorner ct_iscorner), sl_iscorner⟩)
    (c_iscorner : PySem.W.codeIn K cd_iscorner "is_corner" = true)
    (k_iscorner : PySem.W.keepIn K (.ref a_iscorner) = true)
    (g_ratebetween : PySem.W.nsIn K mainGlobals "rate_between" = some (some (.ref a_ratebetween)))
    (l_ratebetween : K.lookup a_ratebetween = some ⟨oc_ratebetween, od_ratebetween, .func (PySem.W.fnOf "rate_between" "rate_between" (defArgs s_ratebetween) (defBody s_ratebetween) (defScope s_ratebetween) .none kV_ratebetween dc_ratebetween pm_ratebetween an_ratebetween cd_ratebetween ct_ratebetween), sl_ratebetween⟩)
    (c_ratebetween : PySem.W.codeIn K cd_ratebetween "rate_between" = true)
    (k_ratebetween : PySem.W.keepIn K (.ref a_ratebetween) = true)
    (g_aredearerinorder : PySem.W.nsIn K mainGlobals "are_dearer_in_order" = some (some (.ref a_aredearerinorder)))
    (l_aredearerinorder : K.lookup a_aredearerinorder = some ⟨oc_aredearerinorder, od_aredearerinorder, .func (PySem.W.fnOf "are_dearer_in_order" "are_dearer_in_order" (defArgs s_aredearerinorder) (defBody s_aredearerinorder) (defScope s_aredearerinorder) .none kV_aredearerinorder dc_aredearerinorder pm_aredearerinorder an_aredearerinorder cd_aredearerinorder ct_aredearerinorder), sl_aredearerinorder⟩)
    (c_aredearerinorder : PySem.W.codeIn K cd_aredearerinorder "are_dearer_in_order" = true)
    (k_aredearerinorder : PySem.W.keepIn K (.ref a_aredearerinorder) = true)
    (g_areeversteeper : PySem.W.nsIn K mainGlobals "are_ever_steeper" = some (some (.ref a_areeversteeper)))
    (l_areeversteeper : K.lookup a_areeversteeper = some ⟨oc_areeversteeper, od_areeversteeper, .func (PySem.W.fnOf "are_ever_steeper" "are_ever_steeper" (defArgs s_areeversteeper) (defBody s_areeversteeper) (defScope s_areeversteeper) .none kV_areeversteeper dc_areeversteeper pm_areeversteeper an_areeversteeper cd_areeversteeper ct_areeversteeper), sl_areeversteeper⟩)
    (c_areeversteeper : PySem.W.codeIn K cd_areeversteeper "are_ever_steeper" = true)
    (k_areeversteeper : PySem.W.keepIn K (.ref a_areeversteeper) = true)
    (g_isoffer : PySem.W.nsIn K mainGlobals "is_offer" = some (some (.ref a_isoffer)))
    (l_isoffer : K.lookup a_isoffer = some ⟨oc_isoffer, od_isoffer, .func (PySem.W.fnOf "is_offer" "is_offer" (defArgs s_isoffer) (defBody s_isoffer) (defScope s_isoffer) .none kV_isoffer dc_isoffer pm_isoffer an_isoffer cd_isoffer ct_isoffer), sl_isoffer⟩)
    (c_isoffer : PySem.W.codeIn K cd_isoffer "is_offer" = true)
    (k_isoffer : PySem.W.keepIn K (.ref a_isoffer) = true)
    (g_Lbegun : PySem.W.nsIn K mainGlobals "_law_begun" = some (some (.ref a_Lbegun)))
    (l_Lbegun : K.lookup a_Lbegun = some ⟨oc_Lbegun, od_Lbegun, .func (PySem.W.fnOf "_law_begun" "_law_begun" (defArgs s_Lbegun) (defBody s_Lbegun) (defScope s_Lbegun) .none kV_Lbegun dc_Lbegun pm_Lbegun an_Lbegun cd_Lbegun ct_Lbegun), sl_Lbegun⟩)
    (c_Lbegun : PySem.W.codeIn K cd_Lbegun "_law_begun" = true)
    (k_Lbegun : PySem.W.keepIn K (.ref a_Lbegun) = true)
    (g_Ltake : PySem.W.nsIn K mainGlobals "_law_take" = some (some (.ref a_Ltake)))
    (l_Ltake : K.lookup a_Ltake = some ⟨oc_Ltake, od_Ltake, .func (PySem.W.fnOf "_law_take" "_law_take" (defArgs s_Ltake) (defBody s_Ltake) (defScope s_Ltake) .none kV_Ltake dc_Ltake pm_Ltake an_Ltake cd_Ltake ct_Ltake), sl_Ltake⟩)
    (c_Ltake : PySem.W.codeIn K cd_Ltake "_law_take" = true)
    (k_Ltake : PySem.W.keepIn K (.ref a_Ltake) = true)
    (g_Llow : PySem.W.nsIn K mainGlobals "_law_low" = some (some (.ref a_Llow)))
    (l_Llow : K.lookup a_Llow = some ⟨oc_Llow, od_Llow, .func (PySem.W.fnOf "_law_low" "_law_low" (defArgs s_Llow) (defBody s_Llow) (defScope s_Llow) .none kV_Llow dc_Llow pm_Llow an_Llow cd_Llow ct_Llow), sl_Llow⟩)
    (c_Llow : PySem.W.codeIn K cd_Llow "_law_low" = true)
    (k_Llow : PySem.W.keepIn K (.ref a_Llow) = true)
    (g_Lplus : PySem.W.nsIn K mainGlobals "_law_plus" = some (some (.ref a_Lplus)))
    (l_Lplus : K.lookup a_Lplus = some ⟨oc_Lplus, od_Lplus, .func (PySem.W.fnOf "_law_plus" "_law_plus" (defArgs s_Lplus) (defBody s_Lplus) (defScope s_Lplus) .none kV_Lplus dc_Lplus pm_Lplus an_Lplus cd_Lplus ct_Lplus), sl_Lplus⟩)
    (c_Lplus : PySem.W.codeIn K cd_Lplus "_law_plus" = true)
    (k_Lplus : PySem.W.keepIn K (.ref a_Lplus) = true)
    (g_Lminus : PySem.W.nsIn K mainGlobals "_law_minus" = some (some (.ref a_Lminus)))
    (l_Lminus : K.lookup a_Lminus = some ⟨oc_Lminus, od_Lminus, .func (PySem.W.fnOf "_law_minus" "_law_minus" (defArgs s_Lminus) (defBody s_Lminus) (defScope s_Lminus) .none kV_Lminus dc_Lminus pm_Lminus an_Lminus cd_Lminus ct_Lminus), sl_Lminus⟩)
    (c_Lminus : PySem.W.codeIn K cd_Lminus "_law_minus" = true)
    (k_Lminus : PySem.W.keepIn K (.ref a_Lminus) = true)
    (g_Ltimes : PySem.W.nsIn K mainGlobals "_law_times" = some (some (.ref a_Ltimes)))
    (l_Ltimes : K.lookup a_Ltimes = some ⟨oc_Ltimes, od_Ltimes, .func (PySem.W.fnOf "_law_times" "_law_times" (defArgs s_Ltimes) (defBody s_Ltimes) (defScope s_Ltimes) .none kV_Ltimes dc_Ltimes pm_Ltimes an_Ltimes cd_Ltimes ct_Ltimes), sl_Ltimes⟩)
    (c_Ltimes : PySem.W.codeIn K cd_Ltimes "_law_times" = true)
    (k_Ltimes : PySem.W.keepIn K (.ref a_Ltimes) = true)
    (g_Lamount : PySem.W.nsIn K mainGlobals "_law_amount" = some (some (.ref a_Lamount)))
    (l_Lamount : K.lookup a_Lamount = some ⟨oc_Lamount, od_Lamount, .func (PySem.W.fnOf "_law_amount" "_law_amount" (defArgs s_Lamount) (defBody s_Lamount) (defScope s_Lamount) .none kV_Lamount dc_Lamount pm_Lamount an_Lamount cd_Lamount ct_Lamount), sl_Lamount⟩)
    (c_Lamount : PySem.W.codeIn K cd_Lamount "_law_amount" = true)
    (k_Lamount : PySem.W.keepIn K (.ref a_Lamount) = true)
    (g_Loffer : PySem.W.nsIn K mainGlobals "_law_offer" = some (some (.ref a_Loffer)))
    (l_Loffer : K.lookup a_Loffer = some ⟨oc_Loffer, od_Loffer, .func (PySem.W.fnOf "_law_offer" "_law_offer" (defArgs s_Loffer) (defBody s_Loffer) (defScope s_Loffer) .none kV_Loffer dc_Loffer pm_Loffer an_Loffer cd_Loffer ct_Loffer), sl_Loffer⟩)
    (c_Loffer : PySem.W.codeIn K cd_Loffer "_law_offer" = true)
    (k_Loffer : PySem.W.keepIn K (.ref a_Loffer) = true)
    (g_Lscaled : PySem.W.nsIn K mainGlobals "_law_scaled" = some (some (.ref a_Lscaled)))
    (l_Lscaled : K.lookup a_Lscaled = some ⟨oc_Lscaled, od_Lscaled, .func (PySem.W.fnOf "_law_scaled" "_law_scaled" (defArgs s_Lscaled) (defBody s_Lscaled) (defScope s_Lscaled) .none kV_Lscaled dc_Lscaled pm_Lscaled an_Lscaled cd_Lscaled ct_Lscaled), sl_Lscaled⟩)
    (c_Lscaled : PySem.W.codeIn K cd_Lscaled "_law_scaled" = true)
    (k_Lscaled : PySem.W.keepIn K (.ref a_Lscaled) = true)
    (g_Lothers : PySem.W.nsIn K mainGlobals "_law_others" = some (some (.ref a_Lothers)))
    (l_Lothers : K.lookup a_Lothers = some ⟨oc_Lothers, od_Lothers, .func (PySem.W.fnOf "_law_others" "_law_others" (defArgs s_Lothers) (defBody s_Lothers) (defScope s_Lothers) .none kV_Lothers dc_Lothers pm_Lothers an_Lothers cd_Lothers ct_Lothers), sl_Lothers⟩)
    (c_Lothers : PySem.W.codeIn K cd_Lothers "_law_others" = true)
    (k_Lothers : PySem.W.keepIn K (.ref a_Lothers) = true)
    (g_Lturned : PySem.W.nsIn K mainGlobals "_law_turned" = some (some (.ref a_Lturned)))
    (l_Lturned : K.lookup a_Lturned = some ⟨oc_Lturned, od_Lturned, .func (PySem.W.fnOf "_law_turned" "_law_turned" (defArgs s_Lturned) (defBody s_Lturned) (defScope s_Lturned) .none kV_Lturned dc_Lturned pm_Lturned an_Lturned cd_Lturned ct_Lturned), sl_Lturned⟩)
    (c_Lturned : PySem.W.codeIn K cd_Lturned "_law_turned" = true)
    (k_Lturned : PySem.W.keepIn K (.ref a_Lturned) = true)
    (g_Lraised : PySem.W.nsIn K mainGlobals "_law_raised" = some (some (.ref a_Lraised)))
    (l_Lraised : K.lookup a_Lraised = some ⟨oc_Lraised, od_Lraised, .func (PySem.W.fnOf "_law_raised" "_law_raised" (defArgs s_Lraised) (defBody s_Lraised) (defScope s_Lraised) .none kV_Lraised dc_Lraised pm_Lraised an_Lraised cd_Lraised ct_Lraised), sl_Lraised⟩)
    (c_Lraised : PySem.W.codeIn K cd_Lraised "_law_raised" = true)
    (k_Lraised : PySem.W.keepIn K (.ref a_Lraised) = true)
    (g_Lsix : PySem.W.nsIn K mainGlobals "_law_six" = some (some (.ref a_Lsix)))
    (l_Lsix : K.lookup a_Lsix = some ⟨oc_Lsix, od_Lsix, .func (PySem.W.fnOf "_law_six" "_law_six" (defArgs s_Lsix) (defBody s_Lsix) (defScope s_Lsix) .none kV_Lsix dc_Lsix pm_Lsix an_Lsix cd_Lsix ct_Lsix), sl_Lsix⟩)
    (c_Lsix : PySem.W.codeIn K cd_Lsix "_law_six" = true)
    (k_Lsix : PySem.W.keepIn K (.ref a_Lsix) = true)
    (g_Ltold : PySem.W.nsIn K mainGlobals "_law_told" = some (some (.ref a_Ltold)))
    (l_Ltold : K.lookup a_Ltold = some ⟨oc_Ltold, od_Ltold, .func (PySem.W.fnOf "_law_told" "_law_told" (defArgs s_Ltold) (defBody s_Ltold) (defScope s_Ltold) .none kV_Ltold dc_Ltold pm_Ltold an_Ltold cd_Ltold ct_Ltold), sl_Ltold⟩)
    (c_Ltold : PySem.W.codeIn K cd_Ltold "_law_told" = true)
    (k_Ltold : PySem.W.keepIn K (.ref a_Ltold) = true)
    (g_law : PySem.W.nsIn K mainGlobals "law" = some (some (.ref a_law)))
    (l_law : K.lookup a_law = some ⟨oc_law, od_law, .func (PySem.W.fnOf "law" "law" (defArgs s_law) (defBody s_law) (defScope s_law) .none kV_law dc_law pm_law an_law cd_law ct_law), sl_law⟩)
    (c_law : PySem.W.codeIn K cd_law "law" = true)
    (k_law : PySem.W.keepIn K (.ref a_law) = true)
    (gc_NOUGHT : PySem.W.nsIn K mainGlobals "NOUGHT" = some (some (.ref q_NOUGHT)))
    (gc_KINDS : PySem.W.nsIn K mainGlobals "KINDS" = some (some (.ref q_KINDS)))
    (z_abs : PySem.W.nsIn K mainGlobals "abs" = some none)
    (z_all : PySem.W.nsIn K mainGlobals "all" = some none)
    (z_bool : PySem.W.nsIn K mainGlobals "bool" = some none)
    (z_int : PySem.W.nsIn K mainGlobals "int" = some none)
    (z_isinstance : PySem.W.nsIn K mainGlobals "isinstance" = some none)
    (z_len : PySem.W.nsIn K mainGlobals "len" = some none)
    (z_list : PySem.W.nsIn K mainGlobals "list" = some none)
    (z_max : PySem.W.nsIn K mainGlobals "max" = some none)
    (z_min : PySem.W.nsIn K mainGlobals "min" = some none)
    (z_range : PySem.W.nsIn K mainGlobals "range" = some none)
    (z_str : PySem.W.nsIn K mainGlobals "str" = some none)
    (z_tuple : PySem.W.nsIn K mainGlobals "tuple" = some none)
    (lq_NOUGHT : K.lookup q_NOUGHT = some ⟨.type "tuple", od_NOUGHT, .seq its_NOUGHT n_NOUGHT, sl_NOUGHT⟩)
    (vq_NOUGHT : its_NOUGHT = #[Value.int 0 t0_NOUGHT, Value.int 1 t1_NOUGHT])
    (lq_KINDS : K.lookup q_KINDS = some ⟨.type "tuple", od_KINDS, .seq its_KINDS n_KINDS, sl_KINDS⟩)
    (vq_KINDS : its_KINDS = #[Value.str "straight" t0_KINDS, Value.str "steps" t1_KINDS])
    (gi_MOST_CORNERS : PySem.W.nsIn K mainGlobals "MOST_CORNERS" = some (some (.int 5 t_MOST_CORNERS)))
    (lsy : K.lookup sysModules = some osy)
    (lsz : osy.cls ≠ .type "list")
    : ∃ fd : FuncData, (∀ (s : Shared) (v : Value), BindsTo s fd ⟨[v], []⟩ [("_law_script", v)]) ∧ ∀ base : Heap, K.In base → base.Ns mainGlobals mg → FnOk l.prog w K mg base CX0 8 fa fd ["_law_script"] (sp_law K) := by
  have e := hfa.symm.trans (PySem.W.mg_of X G g_law)
  cases e
  have T : Txt K mg ⟨a_iswhole, PySem.W.fnOf "is_whole" "is_whole" (defArgs s_iswhole) (defBody s_iswhole) (defScope s_iswhole) .none kV_iswhole dc_iswhole pm_iswhole an_iswhole cd_iswhole ct_iswhole, a_istupleof, PySem.W.fnOf "is_tuple_of" "is_tuple_of" (defArgs s_istupleof) (defBody s_istupleof) (defScope s_istupleof) .none kV_istupleof dc_istupleof pm_istupleof an_istupleof cd_istupleof ct_istupleof, a_commonpart, PySem.W.fnOf "common_part" "common_part" (defArgs s_commonpart) (defBody s_commonpart) (defScope s_commonpart) .none kV_commonpart dc_commonpart pm_commonpart an_commonpart cd_commonpart ct_commonpart, a_isratio, PySem.W.fnOf "is_ratio" "is_ratio" (defArgs s_isratio) (defBody s_isratio) (defScope s_isratio) .none kV_isratio dc_isratio pm_isratio an_isratio cd_isratio ct_isratio, a_plus, PySem.W.fnOf "plus" "plus" (defArgs s_plus) (defBody s_plus) (defScope s_plus) .none kV_plus dc_plus pm_plus an_plus cd_plus ct_plus, a_minus, PySem.W.fnOf "minus" "minus" (defArgs s_minus) (defBody s_minus) (defScope s_minus) .none kV_minus dc_minus pm_minus an_minus cd_minus ct_minus, a_product, PySem.W.fnOf "product" "product" (defArgs s_product) (defBody s_product) (defScope s_product) .none kV_product dc_product pm_product an_product cd_product ct_product, a_parted, PySem.W.fnOf "parted" "parted" (defArgs s_parted) (defBody s_parted) (defScope s_parted) .none kV_parted dc_parted pm_parted an_parted cd_parted ct_parted, a_isless, PySem.W.fnOf "is_less" "is_less" (defArgs s_isless) (defBody s_isless) (defScope s_isless) .none kV_isless dc_isless pm_isless an_isless cd_isless ct_isless, a_isfromnought, PySem.W.fnOf "is_from_nought" "is_from_nought" (defArgs s_isfromnought) (defBody s_isfromnought) (defScope s_isfromnought) .none kV_isfromnought dc_isfromnought pm_isfromnought an_isfromnought cd_isfromnought ct_isfromnought, a_iscorner, PySem.W.fnOf "is_corner" "is_corner" (defArgs s_iscorner) (defBody s_iscorner) (defScope s_iscorner) .none kV_iscorner dc_iscorner pm_iscorner an_iscorner cd_iscorner ct_iscorner, a_ratebetween, PySem.W.fnOf "rate_between" "rate_between" (defArgs s_ratebetween) (defBody s_ratebetween) (defScope s_ratebetween) .none kV_ratebetween dc_ratebetween pm_ratebetween an_ratebetween cd_ratebetween ct_ratebetween, a_aredearerinorder, PySem.W.fnOf "are_dearer_in_order" "are_dearer_in_order" (defArgs s_aredearerinorder) (defBody s_aredearerinorder) (defScope s_aredearerinorder) .none kV_aredearerinorder dc_aredearerinorder pm_aredearerinorder an_aredearerinorder cd_aredearerinorder ct_aredearerinorder, a_areeversteeper, PySem.W.fnOf "are_ever_steeper" "are_ever_steeper" (defArgs s_areeversteeper) (defBody s_areeversteeper) (defScope s_areeversteeper) .none kV_areeversteeper dc_areeversteeper pm_areeversteeper an_areeversteeper cd_areeversteeper ct_areeversteeper, a_isoffer, PySem.W.fnOf "is_offer" "is_offer" (defArgs s_isoffer) (defBody s_isoffer) (defScope s_isoffer) .none kV_isoffer dc_isoffer pm_isoffer an_isoffer cd_isoffer ct_isoffer, a_Lbegun, PySem.W.fnOf "_law_begun" "_law_begun" (defArgs s_Lbegun) (defBody s_Lbegun) (defScope s_Lbegun) .none kV_Lbegun dc_Lbegun pm_Lbegun an_Lbegun cd_Lbegun ct_Lbegun, a_Ltake, PySem.W.fnOf "_law_take" "_law_take" (defArgs s_Ltake) (defBody s_Ltake) (defScope s_Ltake) .none kV_Ltake dc_Ltake pm_Ltake an_Ltake cd_Ltake ct_Ltake, a_Llow, PySem.W.fnOf "_law_low" "_law_low" (defArgs s_Llow) (defBody s_Llow) (defScope s_Llow) .none kV_Llow dc_Llow pm_Llow an_Llow cd_Llow ct_Llow, a_Lplus, PySem.W.fnOf "_law_plus" "_law_plus" (defArgs s_Lplus) (defBody s_Lplus) (defScope s_Lplus) .none kV_Lplus dc_Lplus pm_Lplus an_Lplus cd_Lplus ct_Lplus, a_Lminus, PySem.W.fnOf "_law_minus" "_law_minus" (defArgs s_Lminus) (defBody s_Lminus) (defScope s_Lminus) .none kV_Lminus dc_Lminus pm_Lminus an_Lminus cd_Lminus ct_Lminus, a_Ltimes, PySem.W.fnOf "_law_times" "_law_times" (defArgs s_Ltimes) (defBody s_Ltimes) (defScope s_Ltimes) .none kV_Ltimes dc_Ltimes pm_Ltimes an_Ltimes cd_Ltimes ct_Ltimes, a_Lamount, PySem.W.fnOf "_law_amount" "_law_amount" (defArgs s_Lamount) (defBody s_Lamount) (defScope s_Lamount) .none kV_Lamount dc_Lamount pm_Lamount an_Lamount cd_Lamount ct_Lamount, a_Loffer, PySem.W.fnOf "_law_offer" "_law_offer" (defArgs s_Loffer) (defBody s_Loffer) (defScope s_Loffer) .none kV_Loffer dc_Loffer pm_Loffer an_Loffer cd_Loffer ct_Loffer, a_Lscaled, PySem.W.fnOf "_law_scaled" "_law_scaled" (defArgs s_Lscaled) (defBody s_Lscaled) (defScope s_Lscaled) .none kV_Lscaled dc_Lscaled pm_Lscaled an_Lscaled cd_Lscaled ct_Lscaled, a_Lothers, PySem.W.fnOf "_law_others" "_law_others" (defArgs s_Lothers) (defBody s_Lothers) (defScope s_Lothers) .none kV_Lothers dc_Lothers pm_Lothers an_Lothers cd_Lothers ct_Lothers, a_Lturned, PySem.W.fnOf "_law_turned" "_law_turned" (defArgs s_Lturned) (defBody s_Lturned) (defScope s_Lturned) .none kV_Lturned dc_Lturned pm_Lturned an_Lturned cd_Lturned ct_Lturned, a_Lraised, PySem.W.fnOf "_law_raised" "_law_raised" (defArgs s_Lraised) (defBody s_Lraised) (defScope s_Lraised) .none kV_Lraised dc_Lraised pm_Lraised an_Lraised cd_Lraised ct_Lraised, a_Lsix, PySem.W.fnOf "_law_six" "_law_six" (defArgs s_Lsix) (defBody s_Lsix) (defScope s_Lsix) .none kV_Lsix dc_Lsix pm_Lsix an_Lsix cd_Lsix ct_Lsix, a_Ltold, PySem.W.fnOf "_law_told" "_law_told" (defArgs s_Ltold) (defBody s_Ltold) (defScope s_Ltold) .none kV_Ltold dc_Ltold pm_Ltold an_Ltold cd_Ltold ct_Ltold, fa, PySem.W.fnOf "law" "law" (defArgs s_law) (defBody s_law) (defScope s_law) .none kV_law dc_law pm_law an_law cd_law ct_law, q_NOUGHT, q_KINDS⟩ := ⟨fun_mk (st := s_iswhole) l_iswhole c_iswhole k_iswhole, PySem.W.mg_of X G g_iswhole, fun_mk (st := s_istupleof) l_istupleof c_istupleof k_istupleof, PySem.W.mg_of X G g_istupleof, fun_mk (st := s_commonpart) l_commonpart c_commonpart k_commonpart, PySem.W.mg_of X G g_commonpart, fun_mk (st := s_isratio) l_isratio c_isratio k_isratio, PySem.W.mg_of X G g_isratio, fun_mk (st := s_plus) l_plus c_plus k_plus, PySem.W.mg_of X G g_plus, fun_mk (st := s_minus) l_minus c_minus k_minus, PySem.W.mg_of X G g_minus, fun_mk (st := s_product) l_product c_product k_product, PySem.W.mg_of X G g_product, fun_mk (st := s_parted) l_parted c_parted k_parted, PySem.W.mg_of X G g_parted, fun_mk (st := s_isless) l_isless c_isless k_isless, PySem.W.mg_of X G g_isless, fun_mk (st := s_isfromnought) l_isfromnought c_isfromnought k_isfromnought, PySem.W.mg_of X G g_isfromnought, fun_mk (st := s_iscorner) l_iscorner c_iscorner k_iscorner, PySem.W.mg_of X G g_iscorner, fun_mk (st := s_ratebetween) l_ratebetween c_ratebetween k_ratebetween, PySem.W.mg_of X G g_ratebetween, fun_mk (st := s_aredearerinorder) l_aredearerinorder c_aredearerinorder k_aredearerinorder, PySem.W.mg_of X G g_aredearerinorder, fun_mk (st := s_areeversteeper) l_areeversteeper c_areeversteeper k_areeversteeper, PySem.W.mg_of X G g_areeversteeper, fun_mk (st := s_isoffer) l_isoffer c_isoffer k_isoffer, PySem.W.mg_of X G g_isoffer, fun_mk (st := s_Lbegun) l_Lbegun c_Lbegun k_Lbegun, PySem.W.mg_of X G g_Lbegun, fun_mk (st := s_Ltake) l_Ltake c_Ltake k_Ltake, PySem.W.mg_of X G g_Ltake, fun_mk (st := s_Llow) l_Llow c_Llow k_Llow, PySem.W.mg_of X G g_Llow, fun_mk (st := s_Lplus) l_Lplus c_Lplus k_Lplus, PySem.W.mg_of X G g_Lplus, fun_mk (st := s_Lminus) l_Lminus c_Lminus k_Lminus, PySem.W.mg_of X G g_Lminus, fun_mk (st := s_Ltimes) l_Ltimes c_Ltimes k_Ltimes, PySem.W.mg_of X G g_Ltimes, fun_mk (st := s_Lamount) l_Lamount c_Lamount k_Lamount, PySem.W.mg_of X G g_Lamount, fun_mk (st := s_Loffer) l_Loffer c_Loffer k_Loffer, PySem.W.mg_of X G g_Loffer, fun_mk (st := s_Lscaled) l_Lscaled c_Lscaled k_Lscaled, PySem.W.mg_of X G g_Lscaled, fun_mk (st := s_Lothers) l_Lothers c_Lothers k_Lothers, PySem.W.mg_of X G g_Lothers, fun_mk (st := s_Lturned) l_Lturned c_Lturned k_Lturned, PySem.W.mg_of X G g_Lturned, fun_mk (st := s_Lraised) l_Lraised c_Lraised k_Lraised, PySem.W.mg_of X G g_Lraised, fun_mk (st := s_Lsix) l_Lsix c_Lsix k_Lsix, PySem.W.mg_of X G g_Lsix, fun_mk (st := s_Ltold) l_Ltold c_Ltold k_Ltold, PySem.W.mg_of X G g_Ltold, fun_mk (st := s_law) l_law c_law k_law, PySem.W.mg_of X G g_law, PySem.W.mg_of X G gc_NOUGHT, PySem.W.mg_of X G gc_KINDS, PySem.W.mg_none_of X G z_abs, PySem.W.mg_none_of X G z_all, PySem.W.mg_none_of X G z_bool, PySem.W.mg_none_of X G z_int, PySem.W.mg_none_of X G z_isinstance, PySem.W.mg_none_of X G z_len, PySem.W.mg_none_of X G z_list, PySem.W.mg_none_of X G z_max, PySem.W.mg_none_of X G z_min, PySem.W.mg_none_of X G z_range, PySem.W.mg_none_of X G z_str, PySem.W.mg_none_of X G z_tuple, ⟨fun H => .tup (.inr ⟨_, its_NOUGHT, n_NOUGHT, lq_NOUGHT, rfl, rfl, by rw [vq_NOUGHT]; show 2 ≤ sizeLine; decide, by rw [vq_NOUGHT]; exact .cons ⟨_, rfl⟩ (.cons ⟨_, rfl⟩ .nil)⟩) (.cons (.int _) (.cons (.int _) .nil))⟩, ⟨fun H => .tup (.inr ⟨_, its_KINDS, n_KINDS, lq_KINDS, rfl, rfl, by rw [vq_KINDS]; show 2 ≤ sizeLine; decide, by rw [vq_KINDS]; exact .cons ⟨_, rfl⟩ (.cons ⟨_, rfl⟩ .nil)⟩) (.cons (.str _) (.cons (.str _) .nil))⟩, ⟨_, PySem.W.mg_of X G gi_MOST_CORNERS⟩, ⟨_, lsy, lsz⟩⟩
  exact ⟨PySem.W.fnOf "law" "law" (defArgs s_law) (defBody s_law) (defScope s_law) .none kV_law dc_law pm_law an_law cd_law ct_law, fun s v => .of_eq rfl, fun base _ _ => ok_law T⟩
theorem walk {l : PySem.W.OpenLaw} {q : Program} {loose : List Str} {XP : (Str → Option Value) → Heap → Prop} {YP : World → Heap → Prop} {d : DefRec} {K : Params → PySem.W.Frag} (hn : l.most = some 63) (hdf : d.params.defaults = [])
    (hY : ∀ (w : World) (h : Heap), YP w h → (K w.params).In h)
    (F : ∀ (w : World) (mg : Str → Option Value) (fa : Addr) (h : Heap), (K w.params).In h → h.Ns mainGlobals mg → mg d.name = some (.ref fa) →
      ∃ fd : FuncData, (∀ (s : Shared) (u : Value), BindsTo s fd ⟨[u], []⟩ [("_law_script", u)]) ∧ ∀ base : Heap, (K w.params).In base → base.Ns mainGlobals mg → FnOk l.prog w (K w.params) mg base CX0 8 fa fd ["_law_script"] (sp_law (K w.params))) :
    PySem.W.WalkO q loose XP YP l.row.toRowW d [] (fun f vs => PySem.call f vs) :=
  L2.walk_of (n := 63) (k := 8) (x := "_law_script") (CX := fun _ => CX0) (sp := fun w => sp_law (K w.params)) hn (by decide) hdf ⟨rfl, rfl, by decide, by decide⟩ hY F (fun _ _ a ns hl _ hS => ⟨a, ns, rfl, hS, hl, fun _ => rfl⟩) fun _ _ _ _ _ z => z
abbrev nE (P : Params) (x : Str) (t : Tok) (v : Value) : DictEntry := ⟨PyData.keyHash P x, .str x t, v⟩
noncomputable def kk : Params → PySem.W.Frag := fun P =>
  (nat_lit 1, ⟨(.type "dict"), none, (.dict #[nE P "builtins" 162 (.ref 4), nE P "__main__" 163 (.ref 5)] 2), #[]⟩) ::
  (nat_lit 3, ⟨(.type "dict"), none, (.dict #[nE P "__name__" 165 (.str "law_hurryprice_k05_offers_let_by" 362), nE P "__doc__" 166 .none, nE P "__package__" 167 .none, nE P "__loader__" 168 (.builtin "__main__.__loader__#opaque"), nE P "__spec__" 169 .none, nE P "__annotations__" 170 (.ref 6), nE P "__builtins__" 171 (.ref 4), nE P "__file__" 173 (.str "/claim/cut.py" 172), nE P "__cached__" 174 .none, nE P "HurryError" 206 (.ref 24), nE P "NoNumber" 222 (.ref 37), nE P "is_whole" 231 (.ref 46), nE P "is_tuple_of" 239 (.ref 53), nE P "common_part" 247 (.ref 60), nE P "is_ratio" 256 (.ref 67), nE P "NOUGHT" 261 (.ref 68), nE P "plus" 274 (.ref 75), nE P "minus" 282 (.ref 82), nE P "product" 292 (.ref 89), nE P "parted" 302 (.ref 96), nE P "is_less" 310 (.ref 103), nE P "KINDS" 315 (.ref 104), nE P "MOST_CORNERS" 317 (.int 5 316), nE P "is_from_nought" 324 (.ref 111), nE P "is_corner" 331 (.ref 118), nE P "rate_between" 339 (.ref 125), nE P "are_dearer_in_order" 349 (.ref 132), nE P "are_ever_steeper" 355 (.ref 137), nE P "is_offer" 361 (.ref 142), nE P "_law_begun" 372 (.ref 149), nE P "_law_take" 383 (.ref 156), nE P "_law_low" 393 (.ref 163), nE P "_law_plus" 401 (.ref 170), nE P "_law_minus" 409 (.ref 177), nE P "_law_times" 417 (.ref 184), nE P "_law_amount" 428 (.ref 191), nE P "_law_offer" 434 (.ref 196), nE P "_law_scaled" 440 (.ref 201), nE P "_law_others" 457 (.ref 208), nE P "_law_turned" 471 (.ref 215), nE P "_law_raised" 489 (.ref 222), nE P "_law_six" 495 (.ref 227), nE P "_law_told" 505 (.ref 234), nE P "law" 517 (.ref 241)] 44), #[]⟩) ::
  (nat_lit 45, ⟨(.type "code"), none, (.fields #[(.str "is_whole" 225), (.str "is_whole" 226), (.str "/claim/cut.py" 227), (.int 7 0), (.int 1 0), (.int 0 0), (.int 0 0), (.int 3 0), (.ref 40), (.bool true), (.int 181 0), (.ref 41), .none, (.ref 42), (.ref 43), (.ref 44), (.int 229 0), (.int 7 0), (.str "/claim/cut.py" 230)]), #[]⟩) ::
  (nat_lit 46, ⟨(.type "function"), none, (.func (PySem.W.fnOf "is_whole" "is_whole" (defArgs s_iswhole) (defBody s_iswhole) (defScope s_iswhole) .none .none .none (.str "hurryprice.names" 223) none (.ref 45) .none)), #[]⟩) ::
  (nat_lit 52, ⟨(.type "code"), none, (.fields #[(.str "is_tuple_of" 232), (.str "is_tuple_of" 233), (.str "/claim/cut.py" 234), (.int 9 0), (.int 2 0), (.int 0 0), (.int 0 0), (.int 3 0), (.ref 47), (.bool true), (.int 181 0), (.ref 48), .none, (.ref 49), (.ref 50), (.ref 51), (.int 237 0), (.int 9 0), (.str "/claim/cut.py" 238)]), #[]⟩) ::
  (nat_lit 53, ⟨(.type "function"), none, (.func (PySem.W.fnOf "is_tuple_of" "is_tuple_of" (defArgs s_istupleof) (defBody s_istupleof) (defScope s_istupleof) .none .none .none (.str "hurryprice.names" 223) none (.ref 52) .none)), #[]⟩) ::
  (nat_lit 59, ⟨(.type "code"), none, (.fields #[(.str "common_part" 240), (.str "common_part" 241), (.str "/claim/cut.py" 242), (.int 11 0), (.int 2 0), (.int 0 0), (.int 0 0), (.int 3 0), (.ref 54), (.bool true), (.int 181 0), (.ref 55), .none, (.ref 56), (.ref 57), (.ref 58), (.int 245 0), (.int 11 0), (.str "/claim/cut.py" 246)]), #[]⟩) ::
  (nat_lit 60, ⟨(.type "function"), none, (.func (PySem.W.fnOf "common_part" "common_part" (defArgs s_commonpart) (defBody s_commonpart) (defScope s_commonpart) .none .none .none (.str "hurryprice.names" 223) none (.ref 59) .none)), #[]⟩) ::
  (nat_lit 66, ⟨(.type "code"), none, (.fields #[(.str "is_ratio" 248), (.str "is_ratio" 249), (.str "/claim/cut.py" 250), (.int 16 0), (.int 1 0), (.int 0 0), (.int 0 0), (.int 3 0), (.ref 61), (.bool true), (.int 181 0), (.ref 62), .none, (.ref 63), (.ref 64), (.ref 65), (.int 254 0), (.int 16 0), (.str "/claim/cut.py" 255)]), #[]⟩) ::
  (nat_lit 67, ⟨(.type "function"), none, (.func (PySem.W.fnOf "is_ratio" "is_ratio" (defArgs s_isratio) (defBody s_isratio) (defScope s_isratio) .none .none .none (.str "hurryprice.names" 223) none (.ref 66) .none)), #[]⟩) ::
  (nat_lit 68, ⟨(.type "tuple"), none, (.seq #[(.int 0 259), (.int 1 260)] 0), #[]⟩) ::
  (nat_lit 74, ⟨(.type "code"), none, (.fields #[(.str "plus" 262), (.str "plus" 263), (.str "/claim/cut.py" 264), (.int 25 0), (.int 2 0), (.int 0 0), (.int 0 0), (.int 3 0), (.ref 69), (.bool true), (.int 181 0), (.ref 70), .none, (.ref 71), (.ref 72), (.ref 73), (.int 272 0), (.int 25 0), (.str "/claim/cut.py" 273)]), #[]⟩) ::
  (nat_lit 75, ⟨(.type "function"), none, (.func (PySem.W.fnOf "plus" "plus" (defArgs s_plus) (defBody s_plus) (defScope s_plus) .none .none .none (.str "hurryprice.ratios" 257) none (.ref 74) .none)), #[]⟩) ::
  (nat_lit 81, ⟨(.type "code"), none, (.fields #[(.str "minus" 275), (.str "minus" 276), (.str "/claim/cut.py" 277), (.int 31 0), (.int 2 0), (.int 0 0), (.int 0 0), (.int 3 0), (.ref 76), (.bool true), (.int 181 0), (.ref 77), .none, (.ref 78), (.ref 79), (.ref 80), (.int 280 0), (.int 31 0), (.str "/claim/cut.py" 281)]), #[]⟩) ::
  (nat_lit 82, ⟨(.type "function"), none, (.func (PySem.W.fnOf "minus" "minus" (defArgs s_minus) (defBody s_minus) (defScope s_minus) .none .none .none (.str "hurryprice.ratios" 257) none (.ref 81) .none)), #[]⟩) ::
  (nat_lit 88, ⟨(.type "code"), none, (.fields #[(.str "product" 283), (.str "product" 284), (.str "/claim/cut.py" 285), (.int 33 0), (.int 2 0), (.int 0 0), (.int 0 0), (.int 3 0), (.ref 83), (.bool true), (.int 181 0), (.ref 84), .none, (.ref 85), (.ref 86), (.ref 87), (.int 290 0), (.int 33 0), (.str "/claim/cut.py" 291)]), #[]⟩) ::
  (nat_lit 89, ⟨(.type "function"), none, (.func (PySem.W.fnOf "product" "product" (defArgs s_product) (defBody s_product) (defScope s_product) .none .none .none (.str "hurryprice.ratios" 257) none (.ref 88) .none)), #[]⟩) ::
  (nat_lit 95, ⟨(.type "code"), none, (.fields #[(.str "parted" 293), (.str "parted" 294), (.str "/claim/cut.py" 295), (.int 36 0), (.int 2 0), (.int 0 0), (.int 0 0), (.int 3 0), (.ref 90), (.bool true), (.int 181 0), (.ref 91), .none, (.ref 92), (.ref 93), (.ref 94), (.int 300 0), (.int 36 0), (.str "/claim/cut.py" 301)]), #[]⟩) ::
  (nat_lit 96, ⟨(.type "function"), none, (.func (PySem.W.fnOf "parted" "parted" (defArgs s_parted) (defBody s_parted) (defScope s_parted) .none .none .none (.str "hurryprice.ratios" 257) none (.ref 95) .none)), #[]⟩) ::
  (nat_lit 102, ⟨(.type "code"), none, (.fields #[(.str "is_less" 303), (.str "is_less" 304), (.str "/claim/cut.py" 305), (.int 41 0), (.int 2 0), (.int 0 0), (.int 0 0), (.int 3 0), (.ref 97), (.bool true), (.int 181 0), (.ref 98), .none, (.ref 99), (.ref 100), (.ref 101), (.int 308 0), (.int 41 0), (.str "/claim/cut.py" 309)]), #[]⟩) ::
  (nat_lit 103, ⟨(.type "function"), none, (.func (PySem.W.fnOf "is_less" "is_less" (defArgs s_isless) (defBody s_isless) (defScope s_isless) .none .none .none (.str "hurryprice.ratios" 257) none (.ref 102) .none)), #[]⟩) ::
  (nat_lit 104, ⟨(.type "tuple"), none, (.seq #[(.str "straight" 313), (.str "steps" 314)] 0), #[]⟩) ::
  (nat_lit 110, ⟨(.type "code"), none, (.fields #[(.str "is_from_nought" 318), (.str "is_from_nought" 319), (.str "/claim/cut.py" 320), (.int 46 0), (.int 1 0), (.int 0 0), (.int 0 0), (.int 3 0), (.ref 105), (.bool true), (.int 181 0), (.ref 106), .none, (.ref 107), (.ref 108), (.ref 109), (.int 322 0), (.int 46 0), (.str "/claim/cut.py" 323)]), #[]⟩) ::
  (nat_lit 111, ⟨(.type "function"), none, (.func (PySem.W.fnOf "is_from_nought" "is_from_nought" (defArgs s_isfromnought) (defBody s_isfromnought) (defScope s_isfromnought) .none .none .none (.str "hurryprice.offers" 311) none (.ref 110) .none)), #[]⟩) ::
  (nat_lit 117, ⟨(.type "code"), none, (.fields #[(.str "is_corner" 325), (.str "is_corner" 326), (.str "/claim/cut.py" 327), (.int 48 0), (.int 1 0), (.int 0 0), (.int 0 0), (.int 3 0), (.ref 112), (.bool true), (.int 181 0), (.ref 113), .none, (.ref 114), (.ref 115), (.ref 116), (.int 329 0), (.int 48 0), (.str "/claim/cut.py" 330)]), #[]⟩) ::
  (nat_lit 118, ⟨(.type "function"), none, (.func (PySem.W.fnOf "is_corner" "is_corner" (defArgs s_iscorner) (defBody s_iscorner) (defScope s_iscorner) .none .none .none (.str "hurryprice.offers" 311) none (.ref 117) .none)), #[]⟩) ::
  (nat_lit 124, ⟨(.type "code"), none, (.fields #[(.str "rate_between" 332), (.str "rate_between" 333), (.str "/claim/cut.py" 334), (.int 50 0), (.int 2 0), (.int 0 0), (.int 0 0), (.int 3 0), (.ref 119), (.bool true), (.int 181 0), (.ref 120), .none, (.ref 121), (.ref 122), (.ref 123), (.int 337 0), (.int 50 0), (.str "/claim/cut.py" 338)]), #[]⟩) ::
  (nat_lit 125, ⟨(.type "function"), none, (.func (PySem.W.fnOf "rate_between" "rate_between" (defArgs s_ratebetween) (defBody s_ratebetween) (defScope s_ratebetween) .none .none .none (.str "hurryprice.offers" 311) none (.ref 124) .none)), #[]⟩) ::
  (nat_lit 131, ⟨(.type "code"), none, (.fields #[(.str "are_dearer_in_order" 340), (.str "are_dearer_in_order" 341), (.str "/claim/cut.py" 342), (.int 52 0), (.int 1 0), (.int 0 0), (.int 0 0), (.int 3 0), (.ref 126), (.bool true), (.int 181 0), (.ref 127), .none, (.ref 128), (.ref 129), (.ref 130), (.int 347 0), (.int 52 0), (.str "/claim/cut.py" 348)]), #[]⟩) ::
  (nat_lit 132, ⟨(.type "function"), none, (.func (PySem.W.fnOf "are_dearer_in_order" "are_dearer_in_order" (defArgs s_aredearerinorder) (defBody s_aredearerinorder) (defScope s_aredearerinorder) .none .none .none (.str "hurryprice.offers" 311) none (.ref 131) .none)), #[]⟩) ::
  (nat_lit 136, ⟨(.type "code"), none, (.fields #[(.str "are_ever_steeper" 350), (.str "are_ever_steeper" 351), (.str "/claim/cut.py" 352), (.int 58 0), (.int 1 0), (.int 0 0), (.int 0 0), (.int 3 0), (.ref 133), (.bool true), (.int 181 0), (.ref 134), .none, .none, .none, (.ref 135), (.int 353 0), (.int 58 0), (.str "/claim/cut.py" 354)]), #[]⟩) ::
  (nat_lit 137, ⟨(.type "function"), none, (.func (PySem.W.fnOf "are_ever_steeper" "are_ever_steeper" (defArgs s_areeversteeper) (defBody s_areeversteeper) (defScope s_areeversteeper) .none .none .none (.str "hurryprice.offers" 311) none (.ref 136) .none)), #[]⟩) ::
  (nat_lit 141, ⟨(.type "code"), none, (.fields #[(.str "is_offer" 356), (.str "is_offer" 357), (.str "/claim/cut.py" 358), (.int 61 0), (.int 1 0), (.int 0 0), (.int 0 0), (.int 3 0), (.ref 138), (.bool true), (.int 181 0), (.ref 139), .none, .none, .none, (.ref 140), (.int 359 0), (.int 61 0), (.str "/claim/cut.py" 360)]), #[]⟩) ::
  (nat_lit 142, ⟨(.type "function"), none, (.func (PySem.W.fnOf "is_offer" "is_offer" (defArgs s_isoffer) (defBody s_isoffer) (defScope s_isoffer) .none .none .none (.str "hurryprice.offers" 311) none (.ref 141) .none)), #[]⟩) ::
  (nat_lit 148, ⟨(.type "code"), none, (.fields #[(.str "_law_begun" 364), (.str "_law_begun" 365), (.str "/claim/cut.py" 366), (.int 73 0), (.int 2 0), (.int 0 0), (.int 0 0), (.int 3 0), (.ref 143), (.bool true), (.int 181 0), (.ref 144), .none, (.ref 145), (.ref 146), (.ref 147), (.int 370 0), (.int 73 0), (.str "/claim/cut.py" 371)]), #[]⟩) ::
  (nat_lit 149, ⟨(.type "function"), none, (.func (PySem.W.fnOf "_law_begun" "_law_begun" (defArgs s_Lbegun) (defBody s_Lbegun) (defScope s_Lbegun) .none .none .none (.str "law_hurryprice_k05_offers_let_by" 362) none (.ref 148) .none)), #[]⟩) ::
  (nat_lit 155, ⟨(.type "code"), none, (.fields #[(.str "_law_take" 373), (.str "_law_take" 374), (.str "/claim/cut.py" 375), (.int 78 0), (.int 2 0), (.int 0 0), (.int 0 0), (.int 3 0), (.ref 150), (.bool true), (.int 181 0), (.ref 151), .none, (.ref 152), (.ref 153), (.ref 154), (.int 381 0), (.int 78 0), (.str "/claim/cut.py" 382)]), #[]⟩) ::
  (nat_lit 156, ⟨(.type "function"), none, (.func (PySem.W.fnOf "_law_take" "_law_take" (defArgs s_Ltake) (defBody s_Ltake) (defScope s_Ltake) .none .none .none (.str "law_hurryprice_k05_offers_let_by" 362) none (.ref 155) .none)), #[]⟩) ::
  (nat_lit 162, ⟨(.type "code"), none, (.fields #[(.str "_law_low" 384), (.str "_law_low" 385), (.str "/claim/cut.py" 386), (.int 89 0), (.int 2 0), (.int 0 0), (.int 0 0), (.int 3 0), (.ref 157), (.bool true), (.int 181 0), (.ref 158), .none, (.ref 159), (.ref 160), (.ref 161), (.int 391 0), (.int 89 0), (.str "/claim/cut.py" 392)]), #[]⟩) ::
  (nat_lit 163, ⟨(.type "function"), none, (.func (PySem.W.fnOf "_law_low" "_law_low" (defArgs s_Llow) (defBody s_Llow) (defScope s_Llow) .none .none .none (.str "law_hurryprice_k05_offers_let_by" 362) none (.ref 162) .none)), #[]⟩) ::
  (nat_lit 169, ⟨(.type "code"), none, (.fields #[(.str "_law_plus" 394), (.str "_law_plus" 395), (.str "/claim/cut.py" 396), (.int 95 0), (.int 2 0), (.int 0 0), (.int 0 0), (.int 3 0), (.ref 164), (.bool true), (.int 181 0), (.ref 165), .none, (.ref 166), (.ref 167), (.ref 168), (.int 399 0), (.int 95 0), (.str "/claim/cut.py" 400)]), #[]⟩) ::
  (nat_lit 170, ⟨(.type "function"), none, (.func (PySem.W.fnOf "_law_plus" "_law_plus" (defArgs s_Lplus) (defBody s_Lplus) (defScope s_Lplus) .none .none .none (.str "law_hurryprice_k05_offers_let_by" 362) none (.ref 169) .none)), #[]⟩) ::
  (nat_lit 176, ⟨(.type "code"), none, (.fields #[(.str "_law_minus" 402), (.str "_law_minus" 403), (.str "/claim/cut.py" 404), (.int 97 0), (.int 2 0), (.int 0 0), (.int 0 0), (.int 3 0), (.ref 171), (.bool true), (.int 181 0), (.ref 172), .none, (.ref 173), (.ref 174), (.ref 175), (.int 407 0), (.int 97 0), (.str "/claim/cut.py" 408)]), #[]⟩) ::
  (nat_lit 177, ⟨(.type "function"), none, (.func (PySem.W.fnOf "_law_minus" "_law_minus" (defArgs s_Lminus) (defBody s_Lminus) (defScope s_Lminus) .none .none .none (.str "law_hurryprice_k05_offers_let_by" 362) none (.ref 176) .none)), #[]⟩) ::
  (nat_lit 183, ⟨(.type "code"), none, (.fields #[(.str "_law_times" 410), (.str "_law_times" 411), (.str "/claim/cut.py" 412), (.int 99 0), (.int 2 0), (.int 0 0), (.int 0 0), (.int 3 0), (.ref 178), (.bool true), (.int 181 0), (.ref 179), .none, (.ref 180), (.ref 181), (.ref 182), (.int 415 0), (.int 99 0), (.str "/claim/cut.py" 416)]), #[]⟩) ::
  (nat_lit 184, ⟨(.type "function"), none, (.func (PySem.W.fnOf "_law_times" "_law_times" (defArgs s_Ltimes) (defBody s_Ltimes) (defScope s_Ltimes) .none .none .none (.str "law_hurryprice_k05_offers_let_by" 362) none (.ref 183) .none)), #[]⟩) ::
  (nat_lit 190, ⟨(.type "code"), none, (.fields #[(.str "_law_amount" 418), (.str "_law_amount" 419), (.str "/claim/cut.py" 420), (.int 101 0), (.int 3 0), (.int 0 0), (.int 0 0), (.int 3 0), (.ref 185), (.bool true), (.int 181 0), (.ref 186), .none, (.ref 187), (.ref 188), (.ref 189), (.int 426 0), (.int 101 0), (.str "/claim/cut.py" 427)]), #[]⟩) ::
  (nat_lit 191, ⟨(.type "function"), none, (.func (PySem.W.fnOf "_law_amount" "_law_amount" (defArgs s_Lamount) (defBody s_Lamount) (defScope s_Lamount) .none .none .none (.str "law_hurryprice_k05_offers_let_by" 362) none (.ref 190) .none)), #[]⟩) ::
  (nat_lit 195, ⟨(.type "code"), none, (.fields #[(.str "_law_offer" 429), (.str "_law_offer" 430), (.str "/claim/cut.py" 431), (.int 107 0), (.int 4 0), (.int 0 0), (.int 0 0), (.int 3 0), (.ref 192), (.bool true), (.int 181 0), (.ref 193), .none, .none, .none, (.ref 194), (.int 432 0), (.int 107 0), (.str "/claim/cut.py" 433)]), #[]⟩) ::
  (nat_lit 196, ⟨(.type "function"), none, (.func (PySem.W.fnOf "_law_offer" "_law_offer" (defArgs s_Loffer) (defBody s_Loffer) (defScope s_Loffer) .none .none .none (.str "law_hurryprice_k05_offers_let_by" 362) none (.ref 195) .none)), #[]⟩) ::
  (nat_lit 200, ⟨(.type "code"), none, (.fields #[(.str "_law_scaled" 435), (.str "_law_scaled" 436), (.str "/claim/cut.py" 437), (.int 125 0), (.int 2 0), (.int 0 0), (.int 0 0), (.int 3 0), (.ref 197), (.bool true), (.int 181 0), (.ref 198), .none, .none, .none, (.ref 199), (.int 438 0), (.int 125 0), (.str "/claim/cut.py" 439)]), #[]⟩) ::
  (nat_lit 201, ⟨(.type "function"), none, (.func (PySem.W.fnOf "_law_scaled" "_law_scaled" (defArgs s_Lscaled) (defBody s_Lscaled) (defScope s_Lscaled) .none .none .none (.str "law_hurryprice_k05_offers_let_by" 362) none (.ref 200) .none)), #[]⟩) ::
  (nat_lit 207, ⟨(.type "code"), none, (.fields #[(.str "_law_others" 441), (.str "_law_others" 442), (.str "/claim/cut.py" 443), (.int 129 0), (.int 2 0), (.int 0 0), (.int 0 0), (.int 3 0), (.ref 202), (.bool true), (.int 181 0), (.ref 203), .none, (.ref 204), (.ref 205), (.ref 206), (.int 455 0), (.int 129 0), (.str "/claim/cut.py" 456)]), #[]⟩) ::
  (nat_lit 208, ⟨(.type "function"), none, (.func (PySem.W.fnOf "_law_others" "_law_others" (defArgs s_Lothers) (defBody s_Lothers) (defScope s_Lothers) .none .none .none (.str "law_hurryprice_k05_offers_let_by" 362) none (.ref 207) .none)), #[]⟩) ::
  (nat_lit 214, ⟨(.type "code"), none, (.fields #[(.str "_law_turned" 458), (.str "_law_turned" 459), (.str "/claim/cut.py" 460), (.int 143 0), (.int 2 0), (.int 0 0), (.int 0 0), (.int 3 0), (.ref 209), (.bool true), (.int 181 0), (.ref 210), .none, (.ref 211), (.ref 212), (.ref 213), (.int 469 0), (.int 143 0), (.str "/claim/cut.py" 470)]), #[]⟩) ::
  (nat_lit 215, ⟨(.type "function"), none, (.func (PySem.W.fnOf "_law_turned" "_law_turned" (defArgs s_Lturned) (defBody s_Lturned) (defScope s_Lturned) .none .none .none (.str "law_hurryprice_k05_offers_let_by" 362) none (.ref 214) .none)), #[]⟩) ::
  (nat_lit 221, ⟨(.type "code"), none, (.fields #[(.str "_law_raised" 472), (.str "_law_raised" 473), (.str "/claim/cut.py" 474), (.int 152 0), (.int 2 0), (.int 0 0), (.int 0 0), (.int 3 0), (.ref 216), (.bool true), (.int 181 0), (.ref 217), .none, (.ref 218), (.ref 219), (.ref 220), (.int 487 0), (.int 152 0), (.str "/claim/cut.py" 488)]), #[]⟩) ::
  (nat_lit 222, ⟨(.type "function"), none, (.func (PySem.W.fnOf "_law_raised" "_law_raised" (defArgs s_Lraised) (defBody s_Lraised) (defScope s_Lraised) .none .none .none (.str "law_hurryprice_k05_offers_let_by" 362) none (.ref 221) .none)), #[]⟩) ::
  (nat_lit 226, ⟨(.type "code"), none, (.fields #[(.str "_law_six" 490), (.str "_law_six" 491), (.str "/claim/cut.py" 492), (.int 167 0), (.int 1 0), (.int 0 0), (.int 0 0), (.int 3 0), (.ref 223), (.bool true), (.int 181 0), (.ref 224), .none, .none, .none, (.ref 225), (.int 493 0), (.int 167 0), (.str "/claim/cut.py" 494)]), #[]⟩) ::
  (nat_lit 227, ⟨(.type "function"), none, (.func (PySem.W.fnOf "_law_six" "_law_six" (defArgs s_Lsix) (defBody s_Lsix) (defScope s_Lsix) .none .none .none (.str "law_hurryprice_k05_offers_let_by" 362) none (.ref 226) .none)), #[]⟩) ::
  (nat_lit 233, ⟨(.type "code"), none, (.fields #[(.str "_law_told" 496), (.str "_law_told" 497), (.str "/claim/cut.py" 498), (.int 177 0), (.int 2 0), (.int 0 0), (.int 0 0), (.int 3 0), (.ref 228), (.bool true), (.int 181 0), (.ref 229), .none, (.ref 230), (.ref 231), (.ref 232), (.int 503 0), (.int 177 0), (.str "/claim/cut.py" 504)]), #[]⟩) ::
  (nat_lit 234, ⟨(.type "function"), none, (.func (PySem.W.fnOf "_law_told" "_law_told" (defArgs s_Ltold) (defBody s_Ltold) (defScope s_Ltold) .none .none .none (.str "law_hurryprice_k05_offers_let_by" 362) none (.ref 233) .none)), #[]⟩) ::
  (nat_lit 240, ⟨(.type "code"), none, (.fields #[(.str "law" 506), (.str "law" 507), (.str "/claim/cut.py" 508), (.int 181 0), (.int 1 0), (.int 0 0), (.int 0 0), (.int 3 0), (.ref 235), (.bool true), (.int 181 0), (.ref 236), .none, (.ref 237), (.ref 238), (.ref 239), (.int 515 0), (.int 181 0), (.str "/claim/cut.py" 516)]), #[]⟩) ::
  (nat_lit 241, ⟨(.type "function"), none, (.func (PySem.W.fnOf "law" "law" (defArgs s_law) (defBody s_law) (defScope s_law) .none .none .none (.str "law_hurryprice_k05_offers_let_by" 362) none (.ref 240) .none)), #[]⟩) :: []
def qq : Program := PySem.W.view PySem.Challenge.pw_hurryprice_k05_offers_let_by [1, 2, 4, 5, 6, 7, 9, 10, 11, 12, 13, 14, 16, 17, 18, 19, 20, 21, 22, 23, 25, 26, 27, 28, 29, 30, 31, 32, 33, 34, 35, 36, 37, 38, 39]
def aa : List Nat := [1, 3, 45, 46, 52, 53, 59, 60, 66, 67, 68, 74, 75, 81, 82, 88, 89, 95, 96, 102, 103, 104, 110, 111, 117, 118, 124, 125, 131, 132, 136, 137, 141, 142, 148, 149, 155, 156, 162, 163, 169, 170, 176, 177, 183, 184, 190, 191, 195, 196, 200, 201, 207, 208, 214, 215, 221, 222, 226, 227, 233, 234, 240, 241]
theorem aa_eq : ∀ P : Params, aa = (kk P).map (·.1) := fun P => by kernel_rfl
noncomputable abbrev hh : PySem.W.Hook := PySem.W.kHook kk aa aa_eq
abbrev xt (s : Shared) : Bool := PySem.W.xlAt qq [] s && PySem.W.recOk (PySem.W.RowW.records PySem.Challenge.rw_hurryprice_k05_offers_let_by.row.toRowW) s
theorem run1 (w : World) (os : OsState) : (L2.ranT PySem.Challenge.pw_hurryprice_k05_offers_let_by 2938 w os).map (fun x => PySem.W.staticsOk (importedModules PySem.Challenge.pw_hurryprice_k05_offers_let_by.main.body) (PySem.W.boot_heap w.params) x.abs.heap && PySem.W.namesBound PySem.Challenge.pw_hurryprice_k05_offers_let_by x.abs.heap && PySem.W.gensDone x.abs && PySem.W.laidKept (PySem.W.boot_heap w.params) x.abs.heap) = some true := by kernel_rfl
theorem run2 (w : World) (os : OsState) : (L2.ranT PySem.Challenge.pw_hurryprice_k05_offers_let_by 2938 w os).map (fun x => (PySem.W.openSeen qq [] (importedModules PySem.Challenge.pw_hurryprice_k05_offers_let_by.main.body) xt true x.abs).1) = some (PySem.W.openGood qq []).1 := by kernel_rfl
theorem run4 (w : World) (os : OsState) : (L2.ranT PySem.Challenge.pw_hurryprice_k05_offers_let_by 2938 w os).map (fun x => (PySem.W.openSeen qq [] (importedModules PySem.Challenge.pw_hurryprice_k05_offers_let_by.main.body) xt true x.abs).2) = some (PySem.W.openGood qq []).2 := by kernel_rfl
theorem run3 (w : World) (os : OsState) : (L2.ranT PySem.Challenge.pw_hurryprice_k05_offers_let_by 2938 w os).map (fun x => hh.obs x.abs) = some (hh.val w) := by kernel_rfl
theorem left : PySem.W.LeftO PySem.Challenge.pw_hurryprice_k05_offers_let_by qq [] xt hh.obs hh.val 2938 := L2.leftT4 (by kernel_rfl) (by decide) (fun s => by kernel_rfl) run1 run2 run4 run3
theorem said : PySem.Challenge.rw_hurryprice_k05_offers_let_by.wellSaid = true := by decide +kernel
end Prf
open PySem PySem.W PyProof.Rows
set_option maxRecDepth 100000 in
set_option maxHeartbeats 0 in
theorem PySem.Challenge.cw_hurryprice_k05_offers_let_by_holds : PySem.Challenge.rw_hurryprice_k05_offers_let_by.Holds := by
  refine holds_law Prf.said fun ws => ?_
  refine holds_open (q := Prf.qq) (loose := []) (Xt := Prf.xt) (XP := XL Prf.qq []) (Yf := Prf.hh.obs)
    (Ya := Prf.hh.val) (YP := Prf.hh.says) (N := 2938) Prf.left Prf.hh.of Prf.hh.keeps
    (fun s e => xl_of s (Bool.and_eq_true_iff.mp e).1) XL.keeps
    (by rfl) (by rfl) (by rfl) (fun s e => recFacts_of (Bool.and_eq_true_iff.mp e).2)
    (by rfl) ws (by decide +kernel)
    ⟨rfl, rfl, rfl, rfl, rfl, by decide +kernel⟩ ?hw ?hc
  case hw => w_witness2
  refine Prf.walk (l := PySem.Challenge.rw_hurryprice_k05_offers_let_by) (K := Prf.kk) rfl rfl (fun w h Y => PySem.W.kIn_of Y) ?F
  case F =>
    intro w mg fa h KX G hmg
    k_fill
    refine' Prf.all_mk KX G hmg ?g_iswhole ?l_iswhole ?c_iswhole ?k_iswhole ?g_istupleof ?l_istupleof ?c_istupleof ?k_istupleof ?g_commonpart ?l_commonpart ?c_commonpart ?k_commonpart ?g_isratio ?l_isratio ?c_isratio ?k_isratio ?g_plus ?l_plus ?c_plus ?k_plus ?g_minus ?l_minus ?c_minus ?k_minus ?g_product ?l_product ?c_product ?k_product ?g_parted ?l_parted ?c_parted ?k_parted ?g_isless ?l_isless ?c_isless ?k_isless ?g_isfromnought ?l_isfromnought ?c_isfromnought ?k_isfromnought ?g_iscorner ?l_iscorner ?c_iscorner ?k_iscorner ?g_ratebetween ?l_ratebetween ?c_ratebetween ?k_ratebetween ?g_aredearerinorder ?l_aredearerinorder ?c_aredearerinorder ?k_aredearerinorder ?g_areeversteeper ?l_areeversteeper ?c_areeversteeper ?k_areeversteeper ?g_isoffer ?l_isoffer ?c_isoffer ?k_isoffer ?g_Lbegun ?l_Lbegun ?c_Lbegun ?k_Lbegun ?g_Ltake ?l_Ltake ?c_Ltake ?k_Ltake ?g_Llow ?l_Llow ?c_Llow ?k_Llow ?g_Lplus ?l_Lplus ?c_Lplus ?k_Lplus ?g_Lminus ?l_Lminus ?c_Lminus ?k_Lminus ?g_Ltimes ?l_Ltimes ?c_Ltimes ?k_Ltimes ?g_Lamount ?l_Lamount ?c_Lamount ?k_Lamount ?g_Loffer ?l_Loffer ?c_Loffer ?k_Loffer ?g_Lscaled ?l_Lscaled ?c_Lscaled ?k_Lscaled ?g_Lothers ?l_Lothers ?c_Lothers ?k_Lothers ?g_Lturned ?l_Lturned ?c_Lturned ?k_Lturned ?g_Lraised ?l_Lraised ?c_Lraised ?k_Lraised ?g_Lsix ?l_Lsix ?c_Lsix ?k_Lsix ?g_Ltold ?l_Ltold ?c_Ltold ?k_Ltold ?g_law ?l_law ?c_law ?k_law ?gc_NOUGHT ?gc_KINDS ?z_abs ?z_all ?z_bool ?z_int ?z_isinstance ?z_len ?z_list ?z_max ?z_min ?z_range ?z_str ?z_tuple ?lq_NOUGHT ?vq_NOUGHT ?lq_KINDS ?vq_KINDS ?gi_MOST_CORNERS ?lsy ?lsz
    (case g_iswhole => k_is)
    (case l_iswhole => k_is)
    (case c_iswhole => k_is)
    (case k_iswhole => k_is)
    (case g_istupleof => k_is)
    (case l_istupleof => k_is)
    (case c_istupleof => k_is)
    (case k_istupleof => k_is)
    (case g_commonpart => k_is)
    (case l_commonpart => k_is)
    (case c_commonpart => k_is)
    (case k_commonpart => k_is)
    (case g_isratio => k_is)
    (case l_isratio => k_is)
    (case c_isratio => k_is)
    (case k_isratio => k_is)
    (case g_plus => k_is)
    (case l_plus => k_is)
    (case c_plus => k_is)
    (case k_plus => k_is)
    (case g_minus => k_is)
    (case l_minus => k_is)
    (case c_minus => k_is)
    (case k_minus => k_is)
    (case g_product => k_is)
    (case l_product => k_is)
    (case c_product => k_is)
    (case k_product => k_is)
    (case g_parted => k_is)
    (case l_parted => k_is)
    (case c_parted => k_is)
    (case k_parted => k_is)
    (case g_isless => k_is)
    (case l_isless => k_is)
    (case c_isless => k_is)
    (case k_isless => k_is)
    (case g_isfromnought => k_is)
    (case l_isfromnought => k_is)
    (case c_isfromnought => k_is)
    (case k_isfromnought => k_is)
    (case g_iscorner => k_is)
    (case l_iscorner => k_is)
    (case c_iscorner => k_is)
    (case k_iscorner => k_is)
    (case g_ratebetween => k_is)
    (case l_ratebetween => k_is)
    (case c_ratebetween => k_is)
    (case k_ratebetween => k_is)
    (case g_aredearerinorder => k_is)
    (case l_aredearerinorder => k_is)
    (case c_aredearerinorder => k_is)
    (case k_aredearerinorder => k_is)
    (case g_areeversteeper => k_is)
    (case l_areeversteeper => k_is)
    (case c_areeversteeper => k_is)
    (case k_areeversteeper => k_is)
    (case g_isoffer => k_is)
    (case l_isoffer => k_is)
    (case c_isoffer => k_is)
    (case k_isoffer => k_is)
    (case g_Lbegun => k_is)
    (case l_Lbegun => k_is)
    (case c_Lbegun => k_is)
    (case k_Lbegun => k_is)
    (case g_Ltake => k_is)
    (case l_Ltake => k_is)
    (case c_Ltake => k_is)
    (case k_Ltake => k_is)
    (case g_Llow => k_is)
    (case l_Llow => k_is)
    (case c_Llow => k_is)
    (case k_Llow => k_is)
    (case g_Lplus => k_is)
    (case l_Lplus => k_is)
    (case c_Lplus => k_is)
    (case k_Lplus => k_is)
    (case g_Lminus => k_is)
    (case l_Lminus => k_is)
    (case c_Lminus => k_is)
    (case k_Lminus => k_is)
    (case g_Ltimes => k_is)
    (case l_Ltimes => k_is)
    (case c_Ltimes => k_is)
    (case k_Ltimes => k_is)
    (case g_Lamount => k_is)
    (case l_Lamount => k_is)
    (case c_Lamount => k_is)
    (case k_Lamount => k_is)
    (case g_Loffer => k_is)
    (case l_Loffer => k_is)
    (case c_Loffer => k_is)
    (case k_Loffer => k_is)
    (case g_Lscaled => k_is)
    (case l_Lscaled => k_is)
    (case c_Lscaled => k_is)
    (case k_Lscaled => k_is)
    (case g_Lothers => k_is)
    (case l_Lothers => k_is)
    (case c_Lothers => k_is)
    (case k_Lothers => k_is)
    (case g_Lturned => k_is)
    (case l_Lturned => k_is)
    (case c_Lturned => k_is)
    (case k_Lturned => k_is)
    (case g_Lraised => k_is)
    (case l_Lraised => k_is)
    (case c_Lraised => k_is)
    (case k_Lraised => k_is)
    (case g_Lsix => k_is)
    (case l_Lsix => k_is)
    (case c_Lsix => k_is)
    (case k_Lsix => k_is)
    (case g_Ltold => k_is)
    (case l_Ltold => k_is)
    (case c_Ltold => k_is)
    (case k_Ltold => k_is)
    (case g_law => k_is)
    (case l_law => k_is)
    (case c_law => k_is)
    (case k_law => k_is)
    (case gc_NOUGHT => k_is)
    (case gc_KINDS => k_is)
    (case z_abs => k_is)
    (case z_all => k_is)
    (case z_bool => k_is)
    (case z_int => k_is)
    (case z_isinstance => k_is)
    (case z_len => k_is)
    (case z_list => k_is)
    (case z_max => k_is)
    (case z_min => k_is)
    (case z_range => k_is)
    (case z_str => k_is)
    (case z_tuple => k_is)
    (case lq_NOUGHT => k_is)
    (case vq_NOUGHT => exact rfl)
    (case lq_KINDS => k_is)
    (case vq_KINDS => exact rfl)
    (case gi_MOST_CORNERS => k_is)
    (case lsy => k_is)
    (case lsz => exact (fun z => absurd (Value.type.inj z) (by decide)))
