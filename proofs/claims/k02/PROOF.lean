import PyProof.Rows.All
import Wide.All
import OpenK.AllK
import Wide.FinOn
import Lean
import PyProof.EqAt
import PyProof.EqKinds
import PyProof.TupleCall
import PySem.Challenge.RW_hurryprice_k02_fractions_reckoned
set_option Elab.async false
set_option linter.all false
set_option maxRecDepth 100000
/-! THE HAND LAYER, for ints, bools, texts, own classes, LISTS and tuples (index, slices, in, append, pop ..), calls, loops. Paste it whole ahead of your own text; what your proof does not reach may be deleted. -/
namespace L2
open PySem PySem.Spec PyProof.Rows

/-- a key: an int or a str -/
abbrev Key := Sum Int Str
def keyIs : Key → Value → Bool
  | .inl k, v => Value.isInt k v
  | .inr x, v => Value.isStrOf x v
def keyH (w : World) : Key → Int
  | .inl k => hashInt k
  | .inr x => hashStr w x
theorem keyIs_shape : ∀ {k : Key} {v : Value}, keyIs k v = true → (∃ i t, k = Sum.inl i ∧ v = Value.int i t) ∨ (∃ x t, k = Sum.inr x ∧ v = Value.str x t)
  | .inl i, v, h => by
    obtain ⟨t, e⟩ := Value.isInt_shape (k := i) (v := v) h
    exact .inl ⟨i, t, rfl, e⟩
  | .inr x, v, h => by
    obtain ⟨t, e⟩ := Value.isStrOf_shape (x := x) (v := v) h
    exact .inr ⟨x, t, rfl, e⟩
theorem key_ll (a b : Int) : decide ((Sum.inl a : Key) = Sum.inl b) = (a == b) := by
  by_cases e : a = b
  · subst e; simp
  · have h : ¬ (Sum.inl a : Key) = Sum.inl b := fun q => e (Sum.inl.inj q)
    rw [decide_eq_false h]
    exact (beq_eq_false_iff_ne.mpr e).symm
theorem key_rr (a b : Str) : decide ((Sum.inr a : Key) = Sum.inr b) = decide (a = b) := by
  by_cases e : a = b
  · subst e; simp
  · have h : ¬ (Sum.inr a : Key) = Sum.inr b := fun q => e (Sum.inr.inj q)
    rw [decide_eq_false h, decide_eq_false e]
theorem key_lr (a : Int) (b : Str) : decide ((Sum.inl a : Key) = Sum.inr b) = false := decide_eq_false (fun q => nomatch q)
theorem key_rl (a : Str) (b : Int) : decide ((Sum.inr a : Key) = Sum.inl b) = false := decide_eq_false (fun q => nomatch q)

def mixKind (prog : Program) (w : World) : PySem.KeyKind prog w Key where
  is := keyIs
  hash := keyH w
  inj := fun v a b ha hb => by
    rcases keyIs_shape ha with ⟨i, t, rfl, rfl⟩ | ⟨x, t, rfl, rfl⟩
    · rcases keyIs_shape hb with ⟨j, u, rfl, e⟩ | ⟨y, u, rfl, e⟩
      · injection e with e1 _; rw [e1]
      · exact nomatch e
    · rcases keyIs_shape hb with ⟨j, u, rfl, e⟩ | ⟨y, u, rfl, e⟩
      · exact nomatch e
      · injection e with e1 _; rw [e1]
  byValue := fun k v h => by
    rcases keyIs_shape h with ⟨i, t, rfl, rfl⟩ | ⟨x, t, rfl, rfl⟩ <;> rfl
  pyHash := fun hv h => by
    rcases keyIs_shape hv with ⟨i, t, rfl, rfl⟩ | ⟨x, t, rfl, rfl⟩
    · exact wpAny_pyHash_int h
    · exact wpAny_pyHash_str h
  eqBool := fun hu hv h => by
    rcases keyIs_shape hu with ⟨i, t, rfl, rfl⟩ | ⟨x, t, rfl, rfl⟩
    · rcases keyIs_shape hv with ⟨j, u, rfl, rfl⟩ | ⟨y, u, rfl, rfl⟩
      · rw [key_ll] at h; exact wpAny_eqBool_int h
      · rw [key_lr] at h; exact SeqAt.EqAt.int_str i t y u _ _ _ _ h
    · rcases keyIs_shape hv with ⟨j, u, rfl, rfl⟩ | ⟨y, u, rfl, rfl⟩
      · rw [key_rl] at h; exact SeqAt.EqAt.str_int x t j u _ _ _ _ h
      · rw [key_rr] at h; exact wpAny_eqBool_str h
  «strs» := fun k x t v h => by
    rcases keyIs_shape h with ⟨i, u, rfl, e⟩ | ⟨y, u, rfl, e⟩
    · exact nomatch e
    · injection e with e1 _
      subst e1
      cases v <;> rfl

end L2

namespace L2
open PySem PySem.Spec PyProof.Rows

/-- a value, without the heap -/
inductive V where
  | non | bl (b : Bool) | int (i : Int) | str (x : Str) | byt (b : Array UInt8) | flt (b : UInt64) | ref (a : Addr) | ty (n : String)
  deriving DecidableEq

def RelV : V → Value → Prop
  | .non, u => u = Value.none
  | .bl b, u => u = Value.bool b
  | .int i, u => ∃ t, u = Value.int i t
  | .str x, u => ∃ t, u = Value.str x t
  | .byt b, u => ∃ t, u = Value.bytes b t
  | .flt b, u => ∃ t, u = Value.float b t
  | .ref a, u => u = Value.ref a
  | .ty n, u => u = Value.type n

abbrev Vals : List V → List Value → Prop := Paired RelV
theorem Vals.length {xs : List V} {us : List Value} (r : Vals xs us) : xs.length = us.length := Paired.length r
theorem Vals.get : ∀ {xs : List V} {us : List Value} {i : Nat} {x : V}, Vals xs us → xs[i]? = some x → ∃ u, us[i]? = some u ∧ RelV x u
  | _, _, _, _, .nil, e => by simp at e
  | _, _, 0, _, .cons r _, e => by simp at e; subst e; exact ⟨_, rfl, r⟩
  | _, _, i + 1, x, .cons _ t, e => by
    obtain ⟨u, h1, h2⟩ := Vals.get (i := i) (x := x) t (by simpa using e)
    exact ⟨u, by simpa using h1, h2⟩
theorem Vals.set {x : V} {u : Value} (r : RelV x u) : ∀ {xs : List V} {us : List Value} (i : Nat), Vals xs us → Vals (xs.set i x) (us.set i u)
  | _, _, _, .nil => .nil
  | _, _, 0, .cons _ t => .cons r t
  | _, _, i + 1, .cons q t => .cons q (Vals.set r i t)
theorem Vals.append : ∀ {xs ys : List V} {us ws : List Value}, Vals xs us → Vals ys ws → Vals (xs ++ ys) (us ++ ws)
  | _, _, _, _, .nil, s => s
  | _, _, _, _, .cons r t, s => .cons r (Vals.append t s)
def RelO : Option V → Option Value → Prop
  | some v, some u => RelV v u
  | none, none => True
  | _, _ => False
def KV {κ : Type} : List (κ × V) → List (κ × Value) → Prop := Paired fun (p : κ × V) (q : κ × Value) => p.1 = q.1 ∧ RelV p.2 q.2

/-- a key of a dict (00_mix): an int or a text -/
def kV : Key → V
  | .inl i => .int i
  | .inr x => .str x

/-- what stands at a tracked address -/
inductive HO where
  /-- a list -/
  | lst (xs : List V)
  /-- a tuple (never changes) -/
  | tup (xs : List V)
  /-- a dict whose keys are ints and texts; one whose keys are tuples of ints and texts (the empty one is both) -/
  | dK (kvs : List (Key × V)) | dT (kvs : List (List Key × V))
  /-- a set of ints: its members, its size -/
  | set (S : Int → Bool) (n : Nat)
  /-- an instance of the class at C, its dict at dx, its attributes -/
  | ins (C dx : Addr) (fs : List (Str × V))
  /-- the dict of the instance at x -/
  | own (x : Addr)
  /-- the dict of an exception -/
  | xd (fs : List (Str × V))
  /-- a bound method, f of x -/
  | met (f x : Addr)
  /-- a range object lo, lo + 1, .. below hi -/
  | rng (lo hi : Int)
  /-- a thing that is known to the object (the script; a dict while a loop walks it): read, never written while it is so -/
  | frz (o : Obj) (u : HO)
  /-- a code object's table -/
  | tbl (ps : Array Value)
  /-- any other thing, by what is true of its one object (a def of one's own: SetO a S n := HO.ext fun h => ..) -/
  | ext (φ : Heap → Prop)

abbrev Hp := Addr → Option HO
def upd (H : Hp) (a : Addr) (o : HO) : Hp := fun b => if b = a then some o else H b
theorem upd_same {H : Hp} {a : Addr} {o : HO} : upd H a o a = some o := by unfold upd; rw [if_pos rfl]
theorem upd_ne {H : Hp} {a b : Addr} {o : HO} (h : b ≠ a) : upd H a o b = H b := by unfold upd; rw [if_neg h]
theorem ne_of_none {H : Hp} {a b : Addr} {o : HO} (h : H a = some o) (h' : H b = none) : a ≠ b := by
  intro e; subst e; rw [h] at h'; cases h'

section
variable (P : Program) (w : World)
def ObjOk (H : Hp) (h : Heap) (a : Addr) : HO → Prop
  | .lst xs => xs.length ≤ sizeLine ∧ ∃ (its : List Value) (n : Nat), Vals xs its ∧ h.get? a = some { cls := .type "list", data := .seq its.toArray n }
  | .tup xs => xs.length ≤ sizeLine ∧ ∃ its : List Value, Vals xs its ∧ IsTup h a its.toArray
  | .dK kvs => kvs.length ≤ sizeLine ∧ (a == sysModules) = false ∧ ∃ vs, KV kvs vs ∧ h.DictOf (mixKind P w) a vs
  | .dT kvs => kvs.length ≤ sizeLine ∧ (a == sysModules) = false ∧ ∃ xs : List (List Key × Addr × Value),
      Paired (fun (p : List Key × V) (q : List Key × Addr × Value) => p.1 = q.1 ∧ H q.2.1 = some (.tup (p.1.map kV)) ∧ RelV p.2 q.2.2) kvs xs ∧
      ∃ o es ep, h.get? a = some o ∧ o.ExactDict ∧ o.data = .dict es ep ∧ es.toList = xs.map (entryOfKey (tupleKind (mixKind P w))) ∧ (xs.map (·.1)).Nodup
  | .set S n => h.SetOf (intKind P w) a S n
  | .ins C dx fs => H dx = some (.own a) ∧ fs.length ≤ 1000 ∧ dx ≠ a ∧ h.get? a = some (PySem.W.instObj C dx) ∧
      ∃ mA, h.Ns1 dx mA ∧ (∀ f, RelO (fs.lookup f) (mA f)) ∧ PySem.Within mA (fs.map (·.1))
  | .own _ => ∃ o, h.get? a = some o
  | .xd fs => ∃ mA, h.Ns1 a mA ∧ ∀ f, RelO (fs.lookup f) (mA f)
  | .rng lo hi => ∃ t u v, h.get? a = some { cls := .type "range", data := .fields #[.int lo t, .int hi u, .int 1 v] }
  | .frz o u => h.get? a = some o ∧ ObjOk H h a u
  | .tbl ps => h.get? a = some { cls := .none, data := .fields ps }
  | .met f x => h.get? a = some (PySem.W.methodObj (.ref f) (.ref x))
  | .ext φ => φ h ∧ (∃ o, h.get? a = some o) ∧ ∀ h1 h2 : Heap, φ h1 → (∀ o, h1.get? a = some o → h2.get? a = some o) → φ h2
/-- the abstract heap is held -/
def HOk (H : Hp) (h : Heap) : Prop := ∀ a o, H a = some o → ObjOk P w H h a o
end

section
variable {P : Program} {w : World} {H H' : Hp} {h h' : Heap} {a : Addr} {o : HO}
theorem ObjOk.lt (x : ObjOk P w H h a o) : a < h.objs.size := by
  cases o with
  | lst xs => obtain ⟨_, _, _, _, e⟩ := x; exact Heap.lt_size e
  | tup xs => obtain ⟨_, _, _, p⟩ := x; exact p.lt
  | dK kvs => obtain ⟨_, _, _, _, o, _, _, e, _⟩ := x; exact Heap.lt_size e
  | dT kvs => obtain ⟨_, _, _, _, o, _, _, e, _⟩ := x; exact Heap.lt_size e
  | set S n => obtain ⟨o, _, _, _, e, _⟩ := x; exact Heap.lt_size e
  | ins C dx fs => obtain ⟨_, _, _, e, _⟩ := x; exact Heap.lt_size e
  | own y => obtain ⟨_, e⟩ := x; exact Heap.lt_size e
  | xd fs => obtain ⟨_, ⟨_, _, _, e, _⟩, _⟩ := x; exact Heap.lt_size e
  | rng lo hi => obtain ⟨_, _, _, e⟩ := x; exact Heap.lt_size e
  | frz ob u => obtain ⟨e, _⟩ := x; exact Heap.lt_size e
  | tbl ps => exact Heap.lt_size (show h.get? a = some _ from x)
  | met f y => exact Heap.lt_size (show h.get? a = some _ from x)
  | ext φ => obtain ⟨_, ⟨_, e⟩, _⟩ := x; exact Heap.lt_size e
theorem Paired.mapP {α β : Type} {F G : α → β → Prop} : ∀ {l₁ : List α} {l₂ : List β}, Paired F l₁ l₂ → (∀ a b, F a b → G a b) → Paired G l₁ l₂
  | _, _, .nil, _ => .nil
  | _, _, .cons r t, f => .cons (f _ _ r) (Paired.mapP t f)
/-- what an object's description leans on: its own object, its own dict, the tuples -/
theorem ObjOk.stay (x : ObjOk P w H h a o) (k : ∀ b u, (b = a ∨ H b = some (.own a)) → h.get? b = some u → h'.get? b = some u)
    (ho : ∀ b, H b = some (.own a) → H' b = some (.own a)) (ht : ∀ b xs, H b = some (.tup xs) → H' b = some (.tup xs)) : ObjOk P w H' h' a o := by
  induction o with
  | lst xs => obtain ⟨z, its, n, r, e⟩ := x; exact ⟨z, its, n, r, k _ _ (.inl rfl) e⟩
  | tup xs => obtain ⟨z, its, r, ob, e, c⟩ := x; exact ⟨z, its, r, ob, k _ _ (.inl rfl) e, c⟩
  | dK kvs => obtain ⟨z, y, vs, r, ob, es, ep, e, c⟩ := x; exact ⟨z, y, vs, r, ob, es, ep, k _ _ (.inl rfl) e, c⟩
  | dT kvs =>
    obtain ⟨z, y, xs, r, ob, es, ep, e, c⟩ := x
    exact ⟨z, y, xs, Paired.mapP r fun p q z => ⟨z.1, ht _ _ z.2.1, z.2.2⟩, ob, es, ep, k _ _ (.inl rfl) e, c⟩
  | set S n => obtain ⟨ob, es, ep, t, e, c⟩ := x; exact ⟨ob, es, ep, t, k _ _ (.inl rfl) e, c⟩
  | ins C dx fs =>
    obtain ⟨d, z, ne, e, mA, ⟨od, es, ep, e2, c⟩, r⟩ := x
    exact ⟨ho _ d, z, ne, k _ _ (.inl rfl) e, mA, ⟨od, es, ep, k _ _ (.inr d) e2, c⟩, r⟩
  | own y => obtain ⟨ob, e⟩ := x; exact ⟨ob, k _ _ (.inl rfl) e⟩
  | xd fs => obtain ⟨mA, ⟨od, es, ep, e, c⟩, r⟩ := x; exact ⟨mA, ⟨od, es, ep, k _ _ (.inl rfl) e, c⟩, r⟩
  | rng lo hi => obtain ⟨t, u, v, e⟩ := x; exact ⟨t, u, v, k _ _ (.inl rfl) e⟩
  | frz ob u ih => obtain ⟨e, q⟩ := x; exact ⟨k _ _ (.inl rfl) e, ih q⟩
  | tbl ps =>
    have e : h.get? a = some { cls := .none, data := .fields ps } := x
    show h'.get? a = some { cls := .none, data := .fields ps }
    exact k a _ (.inl rfl) e
  | met f y =>
    have e : h.get? a = some (PySem.W.methodObj (.ref f) (.ref y)) := x
    show h'.get? a = some (PySem.W.methodObj (.ref f) (.ref y))
    exact k a _ (.inl rfl) e
  | ext φ => obtain ⟨p, ⟨o, e⟩, st⟩ := x; exact ⟨st _ _ p fun o q => k _ _ (.inl rfl) q, ⟨o, k _ _ (.inl rfl) e⟩, st⟩
theorem HOk.lt (x : HOk P w H h) (e : H a = some o) : a < h.objs.size := (x a o e).lt
theorem HOk.fresh (x : HOk P w H h) (e : h.objs.size ≤ a) : H a = none := by
  cases q : H a with
  | none => rfl
  | some u => exact absurd (Nat.lt_of_lt_of_le (x.lt q) e) (Nat.lt_irrefl _)
/-- every object of the heap is kept -/
theorem HOk.kept (x : HOk P w H h) (k : ∀ b u, h.get? b = some u → h'.get? b = some u) : HOk P w H h' := fun a o e =>
  (x a o e).stay (fun b u _ q => k b u q) (fun _ q => q) fun _ _ q => q
/-- a new object is laid and tracked -/
theorem HOk.laid (x : HOk P w H h) (k : ∀ b u, h.get? b = some u → h'.get? b = some u) (hp : h.objs.size ≤ a) (new : ObjOk P w (upd H a o) h' a o) : HOk P w (upd H a o) h' := fun b u e => by
  have hn := x.fresh hp
  by_cases hb : b = a
  · subst hb; rw [upd_same] at e; cases e; exact new
  · rw [upd_ne hb] at e
    exact (x b u e).stay (fun c v _ q => k c v q) (fun c q => by rw [upd_ne (ne_of_none q hn)]; exact q) fun c xs q => by rw [upd_ne (ne_of_none q hn)]; exact q
end

/-- what may be read as u: it is u, or a known u -/
def Rd (H : Hp) (a : Addr) (u : HO) : Prop := H a = some u ∨ ∃ o, H a = some (.frz o u)
theorem Rd.ok {P : Program} {w : World} {H : Hp} {h : Heap} {a : Addr} {u : HO} (r : Rd H a u) (x : HOk P w H h) : ObjOk P w H h a u := by
  rcases r with r | ⟨o, r⟩
  · exact x a u r
  · obtain ⟨_, q⟩ := x a _ r
    exact q
/-- what may be written -/
def Mut : Option HO → Prop
  | some (.lst _) => True
  | some (.dK _) => True
  | some (.dT _) => True
  | some (.set _ _) => True
  | some (.ins _ _ _) => True
  | some (.ext _) => True
  | _ => False
section
variable {P : Program} {w : World} {H : Hp} {h h' : Heap} {x e : Addr} {o' : HO}
/-- the object at e is changed: x itself, or the dict of the instance x -/
theorem HOk.write (ok : HOk P w H h) (mu : Mut (H x)) (he : e = x ∨ H e = some (.own x)) (k : ∀ b u, b ≠ e → h.get? b = some u → h'.get? b = some u) (heo : ∃ u, h'.get? e = some u)
    (new : ObjOk P w (upd H x o') h' x o') : HOk P w (upd H x o') h' := fun b u q => by
  have nown : ∀ c y, H c = some (.own y) → c ≠ x := fun c y r z => by subst z; rw [r] at mu; exact mu
  have ntup : ∀ c xs, H c = some (.tup xs) → c ≠ x := fun c xs r z => by subst z; rw [r] at mu; exact mu
  by_cases hb : b = x
  · subst hb; rw [upd_same] at q; cases q; exact new
  · rw [upd_ne hb] at q
    by_cases hbe : b = e
    · have q' : H b = some (.own x) := by
        rcases he with z | z
        · exact absurd (hbe.trans z) hb
        · rw [hbe]; exact z
      rw [q] at q'; cases q'
      obtain ⟨v, hv⟩ := heo
      exact ⟨v, by rw [hbe]; exact hv⟩
    · refine (ok b u q).stay (fun c v hc r => k c v ?_ r) (fun c r => by rw [upd_ne (nown c b r)]; exact r) fun c xs r => by rw [upd_ne (ntup c xs r)]; exact r
      rcases hc with rfl | hc
      · exact hbe
      · rintro rfl
        rcases he with z | z
        · exact nown c b hc z
        · rw [hc] at z; cases z; exact hb rfl
end

/-! ### kept unless tracked; of the frames at fs (the callers') the slots may change (an exception that passes writes there); of the records at ex (iterators) nothing is said -/
structure Un (fs ex : List Addr) (H H' : Hp) (h h' : Heap) : Prop where
  keep : ∀ b o, h.get? b = some o → H b = none → b ∉ fs → b ∉ ex → h'.get? b = some o
  slot : ∀ b o, h.get? b = some o → H b = none → b ∈ fs → b ∉ ex → ∃ sl, h'.get? b = some { o with slots := sl }
  free : ∀ b o, h.get? b = some o → H b = none → b ∉ ex → H' b = none
  there : ∀ b o, h.get? b = some o → b ∉ ex → ∃ o', h'.get? b = some o'
  tups : ∀ b xs, H b = some (.tup xs) → H' b = some (.tup xs)
  frzs : ∀ b o u, H b = some (.frz o u) → H' b = some (.frz o u)
  tbls : ∀ b ps, H b = some (.tbl ps) → ∃ more, H' b = some (.tbl (ps ++ more))
section
variable {fs fs' ex ex' : List Addr} {H H1 H2 : Hp} {h h1 h2 h' : Heap} {a x e : Addr} {o : HO}
theorem Un.any (u : Un fs ex H H1 h h1) {b : Addr} {ob : Obj} (q : h.get? b = some ob) (n : H b = none) (hx : b ∉ ex) : ∃ sl, h1.get? b = some { ob with slots := sl } := by
  by_cases hb : b ∈ fs
  · exact u.slot b ob q n hb hx
  · exact ⟨ob.slots, u.keep b ob q n hb hx⟩
theorem Un.kept (k : ∀ b u, h.get? b = some u → h'.get? b = some u) : Un fs ex H H h h' :=
  ⟨fun b ob q _ _ _ => k b ob q, fun b ob q _ _ _ => ⟨ob.slots, k b ob q⟩, fun _ _ _ n _ => n, fun b ob q _ => ⟨ob, k b ob q⟩, fun _ _ q => q, fun _ _ _ q => q, fun _ ps q => ⟨#[], by rw [q]; simp⟩⟩
theorem Un.refl : Un fs ex H H h h := Un.kept fun _ _ q => q
theorem Un.laid (k : ∀ b u, h.get? b = some u → h'.get? b = some u) (hp : h.objs.size ≤ a) (hn : H a = none) : Un fs ex H (upd H a o) h h' where
  keep := fun b u q _ _ _ => k b u q
  slot := fun b u q _ _ _ => ⟨u.slots, k b u q⟩
  free := fun b u q n _ => by rw [upd_ne (Nat.ne_of_lt (Nat.lt_of_lt_of_le (Heap.lt_size q) hp))]; exact n
  there := fun b u q _ => ⟨u, k b u q⟩
  tups := fun b xs q => by rw [upd_ne (ne_of_none q hn)]; exact q
  frzs := fun b u xs q => by rw [upd_ne (ne_of_none q hn)]; exact q
  tbls := fun b ps q => ⟨#[], by rw [upd_ne (ne_of_none q hn), q]; simp⟩
theorem Un.write (mu : Mut (H x)) (he : e = x ∨ H e = some (.own x)) (k : ∀ b u, b ≠ e → h.get? b = some u → h'.get? b = some u) (heo : ∃ u, h'.get? e = some u) : Un fs ex H (upd H x o) h h' := by
  have hx : ∀ b, H b = none → b ≠ x := fun b n z => by subst z; rw [n] at mu; exact mu
  have hb : ∀ b, H b = none → b ≠ e := fun b n z => by
    subst z
    rcases he with r | r
    · exact hx b n r
    · rw [n] at r; cases r
  have hm : ∀ b u, H b = some u → ¬ Mut (some u) → b ≠ x := fun b u q nm z => by subst z; rw [q] at mu; exact nm mu
  refine ⟨fun b u q n _ _ => k b u (hb b n) q, fun b u q n _ _ => ⟨u.slots, k b u (hb b n) q⟩, fun b u q n _ => by rw [upd_ne (hx b n)]; exact n, fun b u q _ => ?_,
    fun b xs q => by rw [upd_ne (hm b _ q fun z => z)]; exact q, fun b u xs q => by rw [upd_ne (hm b _ q fun z => z)]; exact q, fun b ps q => ⟨#[], by rw [upd_ne (hm b _ q fun z => z), q]; simp⟩⟩
  by_cases hbe : b = e
  · subst hbe; exact heo
  · exact ⟨u, k b u hbe q⟩
end

/-! ### the heap without what is tracked -/
def trk (h : Heap) (H : Hp) : List Addr := (List.range h.objs.size).filter fun a => (H a).isSome
def hidT (h : Heap) (H : Hp) : Heap := PySem.W.hideAll h (trk h H)
theorem hidT_size (h : Heap) (H : Hp) : (hidT h H).objs.size = h.objs.size := PySem.W.hideAll_size _ _
theorem hidT_get {h : Heap} {H : Hp} {b : Addr} {o : Obj} (e : h.get? b = some o) (n : H b = none) : (hidT h H).get? b = some o :=
  PySem.W.hideAll_get _ e fun hm => by
    have q : (H b).isSome = true := (List.mem_filter.mp hm).2
    rw [n] at q; simp at q
theorem of_hidT {h : Heap} {H : Hp} {b : Addr} {o : Obj} (e : (hidT h H).get? b = some o) : h.get? b = some o ∧ H b = none := by
  have e' : h.get? b = some o := PySem.W.of_hideAll (trk h H) e
  refine ⟨e', ?_⟩
  cases q : H b with
  | none => rfl
  | some x =>
    have hm : b ∈ trk h H := List.mem_filter.mpr ⟨List.mem_range.mpr (Heap.lt_size e'), by simp [q]⟩
    have z : (hidT h H).get? b = none := PySem.W.hideAll_none (trk h H) hm
    rw [z] at e; cases e

/-! ### OpenK's ledger, filled with every new object but one -/
def allNews (g h : Heap) (L : Addr) : List (Addr × Obj) := (List.range h.objs.size).filterMap fun a => if a = L ∨ (g.get? a).isSome = true then none else (h.get? a).map fun o => (a, o)
def rest (g h : Heap) (L d : Addr) : List (Addr × Obj) := (allNews g h L).filter fun p => decide (p.1 ≠ d)
end L2

namespace L2
open PySem PySem.Spec PyProof.Rows

/-- the module's facts, over the base: the heap at the law's entry without what is tracked there -/
structure Mod (K : PySem.W.Frag) (mg : Str → Option Value) (base : Heap) : Prop where
  kin : K.In base
  glob : base.Ns mainGlobals mg
  blt : ∃ mb, base.Ns builtinsNs mb ∧ ∀ x : Str, x ≠ "__name__" → mb x = bootBuiltins x
  nolimit : base.NoLimit

/-- the context: a def's body (or a comprehension's block) running. base: fixed through the whole law; s₀, H₀: the entry; outer: the frames whose slots others may change (a def's callers); stack: all frames that run;
   ex: iterators that were made ahead of the entry and are walked here (a comprehension's); fn: the names whose cells were made at the entry (a def: all; a comprehension's block: its own); calm: not within an except suite; pn: pins that every state bears; xe: what is wanted of an exception that leaves the code -/
structure Cx where
  prog : Program
  w : World
  K : PySem.W.Frag
  mg : Str → Option Value
  base : Heap
  A : Around
  N : List Str
  s₀ : Shared
  H₀ : Hp
  env : Env
  outer : List Env
  stack : List Env
  ex : List Addr
  fn : Str → Bool
  calm : Bool
  pn : List (Addr × Obj)
  xe : Value → Shared → Prop
/-- the callers' frames -/
def frs (l : List Env) : List Addr := l.filterMap (·.frame)
abbrev Cx.fs (X : Cx) : List Addr := frs X.outer

def Vis (sc : Scope) (x : Str) : Prop := sc.names.lookup x = some .local ∨ sc.names.lookup x = some .cell ∨ sc.names.lookup x = some .free
def Loc (sc : Scope) (x : Str) : Prop := sc.names.lookup x = some .local ∨ sc.names.lookup x = some .cell
def Look (env : Env) (h : Heap) (m : Str → Option Value) (x : Str) (u : Value) : Prop :=
  (env.kindOf x = some .local ∧ m x = some u) ∨ ((env.kindOf x = some .cell ∨ env.kindOf x = some .free) ∧ ∃ c, env.cells.lookup x = some c ∧ h.IsCell c (some u))

structure Cx.Ok (X : Cx) : Prop where
  mod : Mod X.K X.mg X.base
  kind : X.env.scope.kind = .function
  glob : X.env.globals = mainGlobals
  blt : X.env.builtins = builtinsNs
  above : X.s₀.heap.objs.size ≤ X.env.locals
  inj : ∀ x y c, X.env.cells.lookup x = some c → X.env.cells.lookup y = some c → x = y
  has : ∀ x, (X.env.kindOf x = some .cell ∨ X.env.kindOf x = some .free) → ∃ c, X.env.cells.lookup x = some c
  cab : ∀ x c, X.fn x = true → X.env.cells.lookup x = some c → X.s₀.heap.objs.size ≤ c
  hd : X.calm = true → X.A.handled = none
  frames : X.A.frames = some X.stack
  stk : X.stack = X.outer ∨ (X.stack = X.env :: X.outer ∧ X.env.frame = some X.env.locals)
  exf : ∀ b ∈ X.ex, b ≠ X.env.locals ∧ ∀ x c, X.env.cells.lookup x = some c → c ≠ b
  bs : ∀ b o, X.base.get? b = some o → X.s₀.heap.get? b = some o ∧ X.H₀ b = none
  bsz : X.base.objs.size ≤ X.s₀.heap.objs.size
  noex : ∀ b o, X.base.get? b = some o → b ∉ X.ex
  exfs : ∀ b ∈ X.ex, b ∉ X.fs
  funs : X.s₀.heap.FunFrames X.base X.outer
  frf : ∀ b ∈ X.fs, X.H₀ b = none

structure Inv (X : Cx) (pins : List (Addr × Obj)) (σ : List (Option V)) (H : Hp) (s : Shared) : Prop where
  ok : X.Ok
  os : s.os = X.s₀.os
  bare : AllBare s.gens
  base : Un X.fs X.ex X.H₀ H X.s₀.heap s.heap
  loc : ∃ m, s.heap.Ns X.env.locals m ∧ ∀ (i : Nat) (x : Str) (v : V), X.N[i]? = some x → σ[i]? = some (some v) → Vis X.env.scope x → ∃ u, RelV v u ∧ Look X.env s.heap m x u
  cell : ∀ x c, X.env.cells.lookup x = some c → ∃ v, s.heap.IsCell c v
  free : H X.env.locals = none
  freeC : ∀ x c, X.env.cells.lookup x = some c → H c = none
  pin : ∀ p ∈ X.pn ++ pins, s.heap.get? p.1 = some p.2 ∧ H p.1 = none ∧ p.1 ≠ X.env.locals ∧ p.1 ∉ X.fs ∧ ∀ v, p.2.data ≠ .cell v
  hok : HOk X.prog X.w H s.heap
  len : σ.length = X.N.length

section
variable {X : Cx} {pins : List (Addr × Obj)} {σ : List (Option V)} {H H' : Hp} {s : Shared} {h' : Heap}

theorem Cx.Ok.nofr (ok : X.Ok) {b : Addr} {o : Obj} (e : X.base.get? b = some o) : b ∉ X.fs := fun hb => by
  have := (ok.funs.mem hb).1
  rw [e] at this; cases this
theorem Inv.bs (I : Inv X pins σ H s) : ∀ b o, X.base.get? b = some o → s.heap.get? b = some o ∧ H b = none := fun b o e =>
  ⟨I.base.keep b o (I.ok.bs b o e).1 (I.ok.bs b o e).2 (I.ok.nofr e) (I.ok.noex b o e), I.base.free b o (I.ok.bs b o e).1 (I.ok.bs b o e).2 (I.ok.noex b o e)⟩
theorem Inv.bk (I : Inv X pins σ H s) : ∀ b o, X.base.get? b = some o → s.heap.get? b = some o := fun b o e => (I.bs b o e).1
theorem Inv.mod (I : Inv X pins σ H s) : Mod X.K X.mg X.base := I.ok.mod
theorem Inv.kIn (I : Inv X pins σ H s) : X.K.In s.heap := I.ok.mod.kin.keeps I.bk
theorem Inv.lt (I : Inv X pins σ H s) : X.env.locals < s.heap.objs.size := let ⟨_, hn, _⟩ := I.loc; hn.lt
theorem Inv.sz (I : Inv X pins σ H s) : X.s₀.heap.objs.size ≤ s.heap.objs.size := Nat.le_trans I.ok.above (Nat.le_of_lt I.lt)
theorem Inv.nofs (I : Inv X pins σ H s) {a : Addr} (h : s.heap.objs.size ≤ a) : a ∉ X.fs := fun hb => by
  obtain ⟨_, o, ho, _⟩ := I.ok.funs.mem hb
  exact absurd (Nat.lt_of_lt_of_le (Heap.lt_size ho) (Nat.le_trans I.sz h)) (Nat.lt_irrefl _)
theorem Inv.cne (I : Inv X pins σ H s) : ∀ x c, X.env.cells.lookup x = some c → c ≠ X.env.locals := fun x c e z => by
  obtain ⟨v, o, ho, hd⟩ := I.cell x c e
  obtain ⟨m, ⟨o', es, ep, ho', hd', _⟩, _⟩ := I.loc
  rw [z, ho'] at ho; cases ho; rw [hd'] at hd; cases hd
theorem Inv.funs (I : Inv X pins σ H s) : s.heap.FunFrames X.base X.outer := by
  have all : ∀ (l : List Env), (∀ b ∈ frs l, b ∈ X.fs) → X.s₀.heap.FunFrames X.base l → s.heap.FunFrames X.base l := by
    intro l
    induction l with
    | nil => intro _ _; trivial
    | cons env r ih =>
      intro hs hl
      obtain ⟨hk, ⟨L, o, hf, hn, ho, hd⟩, hr⟩ := hl
      have hL : L ∈ X.fs := hs L (by unfold frs; rw [List.filterMap_cons, hf]; exact List.mem_cons_self)
      obtain ⟨sl, e⟩ := I.base.slot L o ho (I.ok.frf L hL) hL fun z => I.ok.exfs L z hL
      exact ⟨hk, ⟨L, _, hf, hn, e, hd⟩, ih (fun b hb => hs b (by unfold frs; rw [List.filterMap_cons, hf]; exact List.mem_cons_of_mem _ hb)) hr⟩
  exact all X.outer (fun _ hb => hb) I.ok.funs

/-- the frames that run, for a call -/
theorem Inv.stack (I : Inv X pins σ H s) : s.heap.FunFrames X.base X.stack := by
  rcases I.ok.stk with e | ⟨e, hf⟩
  · rw [e]; exact I.funs
  · rw [e]
    obtain ⟨m, hn, _⟩ := I.loc
    refine .cons (by rw [I.ok.kind]; decide) hf hn ?_ I.funs
    exact Heap.get?_none_of_le (Nat.le_trans I.ok.bsz I.ok.above)
theorem Inv.stkSub (I : Inv X pins σ H s) : ∀ b ∈ frs X.stack, b ∈ X.env.locals :: X.fs := fun b hb => by
  rcases I.ok.stk with e | ⟨e, hf⟩
  · rw [e] at hb; exact List.mem_cons_of_mem _ hb
  · rw [e] at hb
    unfold frs at hb
    rw [List.filterMap_cons, hf] at hb
    exact hb
theorem Inv.stkFree (I : Inv X pins σ H s) : ∀ b ∈ frs X.stack, H b = none := fun b hb => by
  rcases List.mem_cons.mp (I.stkSub b hb) with e | hb
  · rw [e]; exact I.free
  · obtain ⟨_, o, ho, _⟩ := I.ok.funs.mem hb
    exact I.base.free b o ho (I.ok.frf b hb) fun z => I.ok.exfs b z hb

/-- THE STEP: the untracked objects but the frame and the records at ch are kept (the callers' frames up to slots), the frame's map is kept, the new abstract heap is held -/
theorem Inv.step {g' : Array GenState} {t' : Nat} {d' : Drawn} {ch : List Addr} (I : Inv X pins σ H s)
    (hch : ∀ b ∈ ch, (b ∈ X.ex ∨ X.s₀.heap.objs.size ≤ b) ∧ b ≠ X.env.locals ∧ (∀ x c, X.env.cells.lookup x = some c → c ≠ b) ∧ ∀ p ∈ X.pn ++ pins, p.1 ≠ b)
    (keep : ∀ b o, b ≠ X.env.locals → b ∉ X.fs → b ∉ ch → s.heap.get? b = some o → H b = none → h'.get? b = some o)
    (slot : ∀ b o, b ≠ X.env.locals → b ∈ X.fs → b ∉ ch → s.heap.get? b = some o → H b = none → ∃ sl, h'.get? b = some { o with slots := sl }) (free : ∀ b o, b ∉ ch → s.heap.get? b = some o → H b = none → H' b = none)
    (there : ∀ b o, b ∉ ch → s.heap.get? b = some o → ∃ o', h'.get? b = some o')
    (tups : ∀ b xs, H b = some (.tup xs) → H' b = some (.tup xs)) (frzs : ∀ b o u, H b = some (.frz o u) → H' b = some (.frz o u)) (tbls : ∀ b ps, H b = some (.tbl ps) → ∃ more, H' b = some (.tbl (ps ++ more)))
    (ns : ∀ m, s.heap.Ns X.env.locals m → h'.Ns X.env.locals m) (hok : HOk X.prog X.w H' h') (hg : AllBare g') :
    Inv X pins σ H' { s with heap := h', gens := g', drawn := d', toks := t' } := by
  have neL : ∀ b o, X.s₀.heap.get? b = some o → b ≠ X.env.locals := fun b o e => Nat.ne_of_lt (Nat.lt_of_lt_of_le (Heap.lt_size e) I.ok.above)
  have neC : ∀ b o, X.s₀.heap.get? b = some o → b ∉ X.ex → b ∉ ch := fun b o e hx hb => by
    rcases (hch b hb).1 with z | z
    · exact hx z
    · exact absurd (Nat.lt_of_lt_of_le (Heap.lt_size e) z) (Nat.lt_irrefl _)
  have cellK : ∀ x c, X.env.cells.lookup x = some c → ∀ v, s.heap.IsCell c v → h'.IsCell c v := fun x c e v ⟨o, ho, hd⟩ => by
    have nch : c ∉ ch := fun z => (hch c z).2.2.1 x c e rfl
    by_cases hc : c ∈ X.fs
    · obtain ⟨sl, q⟩ := slot c o (I.cne x c e) hc nch ho (I.freeC x c e)
      exact ⟨_, q, hd⟩
    · exact ⟨o, keep c o (I.cne x c e) hc nch ho (I.freeC x c e), hd⟩
  refine ⟨I.ok, I.os, hg, ⟨fun b o e n hb hx => ?_, fun b o e n hb hx => ?_, fun b o e n hx => ?_, fun b o e hx => ?_, fun b xs e => tups b xs (I.base.tups b xs e), fun b o xs e => frzs b o xs (I.base.frzs b o xs e), fun b ps e => ?_⟩, ?_, fun x c e => ?_, ?_, fun x c e => ?_, fun p hp => ?_, hok, I.len⟩
  · exact keep b o (neL b o e) hb (neC b o e hx) (I.base.keep b o e n hb hx) (I.base.free b o e n hx)
  · obtain ⟨sl, e1⟩ := I.base.slot b o e n hb hx
    obtain ⟨sl', e2⟩ := slot b _ (neL b o e) hb (neC b o e hx) e1 (I.base.free b o e n hx)
    exact ⟨sl', e2⟩
  · obtain ⟨o', e1⟩ := I.base.there b o e hx
    exact free b o' (neC b o e hx) e1 (I.base.free b o e n hx)
  · obtain ⟨o', e1⟩ := I.base.there b o e hx
    exact there b o' (neC b o e hx) e1
  · obtain ⟨m1, e1⟩ := I.base.tbls b ps e
    obtain ⟨m2, e2⟩ := tbls b _ e1
    exact ⟨m1 ++ m2, by rw [e2, Array.append_assoc]⟩
  · obtain ⟨m, hn, hl⟩ := I.loc
    refine ⟨m, ns m hn, fun i x v e1 e2 e3 => ?_⟩
    obtain ⟨u, r, l⟩ := hl i x v e1 e2 e3
    refine ⟨u, r, ?_⟩
    rcases l with l | ⟨k, c, e, z⟩
    · exact .inl l
    · exact .inr ⟨k, c, e, cellK x c e _ z⟩
  · obtain ⟨v, z⟩ := I.cell x c e
    exact ⟨v, cellK x c e v z⟩
  · obtain ⟨m, ⟨o, _, _, ho, _⟩, _⟩ := I.loc
    exact free _ o (fun z => (hch _ z).2.1 rfl) ho I.free
  · obtain ⟨v, o, ho, hd⟩ := I.cell x c e
    exact free c o (fun z => (hch c z).2.2.1 x c e rfl) ho (I.freeC x c e)
  · obtain ⟨e, n, ne, nf, d⟩ := I.pin p hp
    have nch : p.1 ∉ ch := fun z => (hch p.1 z).2.2.2 p hp rfl
    exact ⟨keep p.1 p.2 ne nf nch e n, free p.1 p.2 nch e n, ne, nf, d⟩
/-- .. where the frame's own object is kept too -/
theorem Inv.un {t' : Nat} (I : Inv X pins σ H s) (u : Un X.fs [] H H' s.heap h') (hok : HOk X.prog X.w H' h') : Inv X pins σ H' { s with heap := h', toks := t' } := by
  obtain ⟨m, ⟨o, es, ep, ho, r⟩, _⟩ := id I.loc
  obtain ⟨sl, hL⟩ := u.any ho I.free (by simp)
  exact I.step (g' := s.gens) (d' := s.drawn) (ch := []) (fun _ z => nomatch z) (fun b o _ hb _ e n => u.keep b o e n hb (by simp)) (fun b o _ hb _ e n => u.slot b o e n hb (by simp)) (fun b o _ e n => u.free b o e n (by simp)) (fun b o _ e => u.there b o e (by simp)) u.tups u.frzs u.tbls (fun m' hm => by
    obtain ⟨o', es', ep', ho', r'⟩ := hm
    rw [ho] at ho'; cases ho'
    exact ⟨_, es', ep', hL, r'⟩) hok I.bare
/-- behind a call (or a comprehension's block): the slots of this frame may have changed too, the records at ch may have turned -/
theorem Inv.call {g' : Array GenState} {t' : Nat} {d' : Drawn} {ch : List Addr} (I : Inv X pins σ H s) (u : Un (frs X.stack) ch H H' s.heap h') (hok : HOk X.prog X.w H' h') (hg : AllBare g')
    (hch : ∀ b ∈ ch, (b ∈ X.ex ∨ X.s₀.heap.objs.size ≤ b) ∧ b ≠ X.env.locals ∧ (∀ x c, X.env.cells.lookup x = some c → c ≠ b) ∧ ∀ p ∈ X.pn ++ pins, p.1 ≠ b) :
    Inv X pins σ H' { s with heap := h', gens := g', drawn := d', toks := t' } := by
  obtain ⟨m, ⟨o, es, ep, ho, r⟩, _⟩ := id I.loc
  obtain ⟨sl, hL⟩ := u.any ho I.free fun z => (hch _ z).2.1 rfl
  exact I.step (ch := ch) hch (fun b o hL hb hc e n => u.keep b o e n (fun z => (List.mem_cons.mp (I.stkSub b z)).elim hL hb) hc) (fun b o _ _ hc e n => u.any e n hc) (fun b o hc e n => u.free b o e n hc) (fun b o hc e => u.there b o e hc) u.tups u.frzs u.tbls (fun m' hm => by
    obtain ⟨o', es', ep', ho', r'⟩ := hm
    rw [ho] at ho'; cases ho'
    exact ⟨_, es', ep', hL, r'⟩) hok hg
/-- an untracked record of ours (an iterator) has turned -/
theorem Inv.turned {t' : Nat} {it : Addr} (I : Inv X pins σ H s) (k : ∀ b o, b ≠ it → s.heap.get? b = some o → h'.get? b = some o) (hn : H it = none) (hL : it ≠ X.env.locals)
    (h1 : it ∈ X.ex ∨ X.s₀.heap.objs.size ≤ it) (h2 : ∀ x c, X.env.cells.lookup x = some c → c ≠ it) (h3 : ∀ p ∈ X.pn ++ pins, p.1 ≠ it) : Inv X pins σ H { s with heap := h', toks := t' } := by
  have nit : ∀ b u, H b = some u → b ≠ it := fun b u e z => by rw [z, hn] at e; cases e
  refine I.step (g' := s.gens) (d' := s.drawn) (ch := [it]) (fun b hb => ?_) (fun b o _ _ hc e _ => k b o (fun z => hc (by simp [z])) e) (fun b o _ _ hc e _ => ⟨o.slots, k b o (fun z => hc (by simp [z])) e⟩) (fun _ _ _ _ n => n)
    (fun b o hc e => ⟨o, k b o (fun z => hc (by simp [z])) e⟩) (fun _ _ e => e) (fun _ _ _ e => e) (fun b ps e => ⟨#[], by rw [e]; simp⟩) (fun m hm => ?_) (fun b u e => ?_) I.bare
  · have e : b = it := by simpa using hb
    subst e
    exact ⟨h1, hL, h2, h3⟩
  · obtain ⟨o, es, ep, ho, r⟩ := hm
    exact ⟨o, es, ep, k _ o (Ne.symm hL) ho, r⟩
  · refine (I.hok b u e).stay (fun c v hc q => k c v ?_ q) (fun _ q => q) fun _ _ q => q
    rcases hc with z | z
    · rw [z]; exact nit b u e
    · exact nit c _ z
theorem Inv.tok (I : Inv X pins σ H s) (t : Nat) : Inv X pins σ H { s with toks := t } := I.un (h' := s.heap) (t' := t) Un.refl I.hok
/-- all objects kept -/
theorem Inv.kept {t' : Nat} (I : Inv X pins σ H s) (k : ∀ b u, s.heap.get? b = some u → h'.get? b = some u) : Inv X pins σ H { s with heap := h', toks := t' } := I.un (Un.kept k) (I.hok.kept k)
/-- a new object laid and tracked -/
theorem Inv.laid {a : Addr} {o : HO} {t' : Nat} (I : Inv X pins σ H s) (k : ∀ b u, s.heap.get? b = some u → h'.get? b = some u) (hp : s.heap.objs.size ≤ a) (new : ObjOk X.prog X.w (upd H a o) h' a o) :
    Inv X pins σ (upd H a o) { s with heap := h', toks := t' } := I.un (Un.laid k hp (I.hok.fresh hp)) (I.hok.laid k hp new)
/-- an object written -/
theorem Inv.write {x e : Addr} {o : HO} {t' : Nat} (I : Inv X pins σ H s) (mu : Mut (H x)) (he : e = x ∨ H e = some (.own x)) (k : ∀ b u, b ≠ e → s.heap.get? b = some u → h'.get? b = some u) (heo : ∃ u, h'.get? e = some u)
    (new : ObjOk X.prog X.w (upd H x o) h' x o) : Inv X pins σ (upd H x o) { s with heap := h', toks := t' } := I.un (Un.write mu he k heo) (I.hok.write mu he k heo new)
theorem Inv.pins_of {pins' : List (Addr × Obj)} (I : Inv X pins σ H s) (h : ∀ p ∈ pins', s.heap.get? p.1 = some p.2 ∧ H p.1 = none ∧ p.1 ≠ X.env.locals ∧ p.1 ∉ X.fs ∧ ∀ v, p.2.data ≠ .cell v) : Inv X pins' σ H s :=
  ⟨I.ok, I.os, I.bare, I.base, I.loc, I.cell, I.free, I.freeC, fun p hp => (List.mem_append.mp hp).elim (fun z => I.pin p (List.mem_append_left _ z)) (h p), I.hok, I.len⟩

theorem nodup_ix {N : List Str} (hN : N.Nodup) {i j : Nat} {x : Str} (a : N[i]? = some x) (b : N[j]? = some x) : i = j := by
  obtain ⟨h1, e1⟩ := List.getElem?_eq_some_iff.mp a
  obtain ⟨h2, e2⟩ := List.getElem?_eq_some_iff.mp b
  exact (List.getElem_inj hN).mp (e1.trans e2.symm)

/-- a name is stored; what changed -/
theorem store_ok2 {M : Model} {A : Around} {E : Value → Shared → Prop} {i : Nat} {x : Str} {v : V} {u : Value} {Q : Unit → Shared → Prop} (I : Inv X pins σ H s) (hN : X.N.Nodup) (hi : X.N[i]? = some x) (hx : Loc X.env.scope x) (r : RelV v u)
    (h : ∀ s', Inv X pins (σ.set i (some v)) H s' → (∃ a, Heap.SameBut a s.heap s'.heap ∧ (a = X.env.locals ∨ X.env.cells.lookup x = some a)) → Q () s') (hf : X.fn x = true ∨ X.env.scope.names.lookup x = some .local := by first | exact .inl rfl | exact .inr rfl | assumption) : wpAny M A (storeName X.env x u) Q E s := by
  obtain ⟨m, hn, hl⟩ := id I.loc
  have hcls : (X.env.scope.kind == .class || (X.env.scope.kind == .module && X.env.locals != X.env.globals)) = false := by rw [I.ok.kind]; rfl
  have hiσ : i < σ.length := by rw [I.len]; exact (List.getElem?_eq_some_iff.mp hi).1
  have cne := I.cne
  have tracked : ∀ {a : Addr} {h' : Heap}, (∃ o, s.heap.get? a = some o ∧ H a = none) → Heap.SameBut a s.heap h' → HOk X.prog X.w H h' := fun {a h'} ha hs b ob e => by
    obtain ⟨_, _, hfree⟩ := ha
    refine (I.hok b ob e).stay (fun c w' hc q => (hs.2 c ?_).trans q) (fun _ q => q) fun _ _ q => q
    rintro rfl
    rcases hc with rfl | hc
    · rw [hfree] at e; cases e
    · rw [hfree] at hc; cases hc
  rcases hx with hk | hk
  · refine wpAny_storeName_local hk hn (fun h' hn' hs => ?_) hcls
    obtain ⟨oL, _, _, hoL, _⟩ := id hn
    refine h _ ⟨I.ok, I.os, I.bare, ⟨fun b o e n hb hx => ?_, fun b o e n hb hx => ?_, I.base.free, fun b o e hx => ?_, I.base.tups, I.base.frzs, I.base.tbls⟩, ⟨_, hn', fun j y v' e1 e2 e3 => ?_⟩, fun y c e => ?_, I.free, I.freeC, fun p hp => ?_, tracked ⟨oL, hoL, I.free⟩ hs, by simpa using I.len⟩ ⟨_, hs, .inl rfl⟩
    · exact (hs.2 b (Nat.ne_of_lt (Nat.lt_of_lt_of_le (Heap.lt_size e) I.ok.above))).trans (I.base.keep b o e n hb hx)
    · obtain ⟨sl, e1⟩ := I.base.slot b o e n hb hx
      exact ⟨sl, (hs.2 b (Nat.ne_of_lt (Nat.lt_of_lt_of_le (Heap.lt_size e) I.ok.above))).trans e1⟩
    · obtain ⟨o', e1⟩ := I.base.there b o e hx
      exact ⟨o', (hs.2 b (Nat.ne_of_lt (Nat.lt_of_lt_of_le (Heap.lt_size e) I.ok.above))).trans e1⟩
    · by_cases hj : j = i
      · subst hj
        rw [hi] at e1; cases e1
        rw [List.getElem?_set_self hiσ] at e2
        cases e2
        exact ⟨u, r, .inl ⟨hk, by simp⟩⟩
      · rw [List.getElem?_set_ne (Ne.symm hj)] at e2
        obtain ⟨u', r', q⟩ := hl j y v' e1 e2 e3
        refine ⟨u', r', ?_⟩
        rcases q with ⟨k, e⟩ | ⟨k, c, e, z⟩
        · refine .inl ⟨k, ?_⟩
          have : y ≠ x := fun e => hj (nodup_ix hN e1 (e ▸ hi))
          simp [this, e]
        · exact .inr ⟨k, c, e, z.sameBut hs (cne y c e)⟩
    · obtain ⟨w', z⟩ := I.cell y c e
      exact ⟨w', z.sameBut hs (cne y c e)⟩
    · obtain ⟨e, n, ne, nf, d⟩ := I.pin p hp
      exact ⟨(hs.2 p.1 ne).trans e, n, ne, nf, d⟩
  · have hfn : X.fn x = true := by
      rcases hf with z | z
      · exact z
      · rw [z] at hk; cases hk
    obtain ⟨c, hc⟩ := I.ok.has x (.inl hk)
    obtain ⟨w', z⟩ := I.cell x c hc
    refine wpAny_storeName_cell I.ok.kind hk hc z (fun h' hc' hs => ?_)
    obtain ⟨oc, hoc, hocd⟩ := id z
    refine h { s with heap := h' } ⟨I.ok, I.os, I.bare, ⟨fun b o e n hb hx => ?_, fun b o e n hb hx => ?_, I.base.free, fun b o e hx => ?_, I.base.tups, I.base.frzs, I.base.tbls⟩, ⟨m, hn.sameBut hs (Ne.symm (cne x c hc)), fun j y v' e1 e2 e3 => ?_⟩, fun y c' e => ?_, I.free, I.freeC, fun p hp => ?_, tracked ⟨oc, hoc, I.freeC x c hc⟩ hs, by simpa using I.len⟩ ⟨c, hs, .inr hc⟩
    · exact (hs.2 b (Nat.ne_of_lt (Nat.lt_of_lt_of_le (Heap.lt_size e) (I.ok.cab x c hfn hc)))).trans (I.base.keep b o e n hb hx)
    · obtain ⟨sl, e1⟩ := I.base.slot b o e n hb hx
      exact ⟨sl, (hs.2 b (Nat.ne_of_lt (Nat.lt_of_lt_of_le (Heap.lt_size e) (I.ok.cab x c hfn hc)))).trans e1⟩
    · obtain ⟨o', e1⟩ := I.base.there b o e hx
      exact ⟨o', (hs.2 b (Nat.ne_of_lt (Nat.lt_of_lt_of_le (Heap.lt_size e) (I.ok.cab x c hfn hc)))).trans e1⟩
    · by_cases hj : j = i
      · subst hj
        rw [hi] at e1; cases e1
        rw [List.getElem?_set_self hiσ] at e2
        cases e2
        exact ⟨u, r, .inr ⟨.inl hk, c, hc, hc'⟩⟩
      · rw [List.getElem?_set_ne (Ne.symm hj)] at e2
        obtain ⟨u', r', q⟩ := hl j y v' e1 e2 e3
        refine ⟨u', r', ?_⟩
        rcases q with q | ⟨k, c', e, z'⟩
        · exact .inl q
        · refine .inr ⟨k, c', e, z'.sameBut hs ?_⟩
          rintro rfl
          exact hj (nodup_ix hN e1 (I.ok.inj _ _ _ e hc ▸ hi))
    · by_cases hcc : c' = c
      · subst hcc; exact ⟨_, hc'⟩
      · obtain ⟨w2, z2⟩ := I.cell y c' e
        exact ⟨w2, z2.sameBut hs hcc⟩
    · obtain ⟨e, n, ne, nf, d⟩ := I.pin p hp
      refine ⟨(hs.2 p.1 ?_).trans e, n, ne, nf, d⟩
      intro q
      rw [q, hoc] at e
      have q' : oc = p.2 := Option.some.inj e
      exact d w' (by rw [← q']; exact hocd)
theorem store_ok {M : Model} {A : Around} {E : Value → Shared → Prop} {i : Nat} {x : Str} {v : V} {u : Value} {Q : Unit → Shared → Prop} (I : Inv X pins σ H s) (hN : X.N.Nodup) (hi : X.N[i]? = some x) (hx : Loc X.env.scope x) (r : RelV v u)
    (h : ∀ s', Inv X pins (σ.set i (some v)) H s' → Q () s') (hf : X.fn x = true ∨ X.env.scope.names.lookup x = some .local := by first | exact .inl rfl | exact .inr rfl | assumption) : wpAny M A (storeName X.env x u) Q E s :=
  store_ok2 I hN hi hx r (fun s' I' _ => h s' I') hf
/-- behind a call or a block, the state as it is -/
theorem Inv.call' {s' : Shared} {ch : List Addr} (I : Inv X pins σ H s) (ho : s'.os = s.os) (u : Un (frs X.stack) ch H H' s.heap s'.heap) (hok : HOk X.prog X.w H' s'.heap) (hg : AllBare s'.gens)
    (hch : ∀ b ∈ ch, (b ∈ X.ex ∨ X.s₀.heap.objs.size ≤ b) ∧ b ≠ X.env.locals ∧ (∀ x c, X.env.cells.lookup x = some c → c ≠ b) ∧ ∀ p ∈ X.pn ++ pins, p.1 ≠ b) : Inv X pins σ H' s' := by
  obtain ⟨h', g', d', t', o'⟩ := s'
  have e : o' = s.os := ho
  subst e
  exact I.call (g' := g') (t' := t') (d' := d') u hok hg hch
end

/-! ### the judgements -/
/-- an exception: its class, its own dict's address (where it has one), the abstract heap behind it -/
abbrev XK := Value → Option Addr → Hp → Prop
abbrev St := List (Option V)
abbrev VK := V → Hp → Prop
/-- an expression's reading; a test's; an argument list's -/
abbrev TE := St → Hp → VK → Prop
abbrev TT := St → Hp → (Bool → Hp → Prop) → Prop
abbrev TA := St → Hp → (List V → Hp → Prop) → Prop
/-- what is wanted behind a statement -/
structure Ends where
  nx : St → Hp → Prop
  rt : VK
  bk : St → Hp → Prop := fun _ _ => False
  ct : St → Hp → Prop := fun _ _ => False
abbrev TS := Ends → St → Hp → Prop

def EP (X : Cx) (pins : List (Addr × Obj)) (σ : St) (Q : VK) (u : Value) (s' : Shared) : Prop := ∃ v H', Inv X pins σ H' s' ∧ RelV v u ∧ Q v H'
def TP (X : Cx) (pins : List (Addr × Obj)) (σ : St) (Q : Bool → Hp → Prop) (b : Bool) (s' : Shared) : Prop := ∃ H', Inv X pins σ H' s' ∧ Q b H'
def AP (X : Cx) (pins : List (Addr × Obj)) (σ : St) (Q : List V → Hp → Prop) (us : List Value) (s' : Shared) : Prop := ∃ vs H', Inv X pins σ H' s' ∧ Vals vs us ∧ Q vs H'
def SP (X : Cx) (pins : List (Addr × Obj)) (D : Ends) (f : Flow) (s' : Shared) : Prop :=
  match f with
  | .next => ∃ σ' H', Inv X pins σ' H' s' ∧ D.nx σ' H'
  | .brk => ∃ σ' H', Inv X pins σ' H' s' ∧ D.bk σ' H'
  | .cont => ∃ σ' H', Inv X pins σ' H' s' ∧ D.ct σ' H'
  | .ret u => ∃ v σ' H', Inv X pins σ' H' s' ∧ RelV v u ∧ D.rt v H'

def PE (X : Cx) (e : Expr) (t : TE) : Prop :=
  ∀ (pins : List (Addr × Obj)) (s : Shared) (σ : St) (H : Hp) (Q : VK), Inv X pins σ H s → t σ H Q → wpAny (model X.prog X.w) X.A (eval e X.env) (EP X pins σ Q) X.xe s
def PT (X : Cx) (e : Expr) (t : TT) : Prop :=
  ∀ (pins : List (Addr × Obj)) (s : Shared) (σ : St) (H : Hp) (Q : Bool → Hp → Prop), Inv X pins σ H s → t σ H Q → wpAny (model X.prog X.w) X.A (isTrue e X.env (eval e X.env)) (TP X pins σ Q) X.xe s
/-- a test whatever its 'whole' is (and, or) -/
def PW (X : Cx) (e : Expr) (t : TT) : Prop :=
  ∀ (whole : Sem Value) (pins : List (Addr × Obj)) (s : Shared) (σ : St) (H : Hp) (Q : Bool → Hp → Prop), Inv X pins σ H s → t σ H Q → wpAny (model X.prog X.w) X.A (isTrue e X.env whole) (TP X pins σ Q) X.xe s
theorem PW.pt {X : Cx} {e : Expr} {t : TT} (h : PW X e t) : PT X e t := h _
/-- an argument list (no star), from the left -/
def PA (X : Cx) (es : List Expr) (t : TA) : Prop :=
  ∀ (pos : Pos) (pins : List (Addr × Obj)) (s : Shared) (σ : St) (H : Hp) (Q : List V → Hp → Prop), Inv X pins σ H s → t σ H Q → wpAny (model X.prog X.w) X.A (spliced (backTo pos (starEach es X.env))) (AP X pins σ Q) X.xe s
def PS (X : Cx) (st : Stmt) (t : TS) : Prop :=
  ∀ (pins : List (Addr × Obj)) (s : Shared) (σ : St) (H : Hp) (D : Ends), Inv X pins σ H s → t D σ H → wpAny (model X.prog X.w) X.A (exec st X.env) (SP X pins D) X.xe s
def PSs (X : Cx) (st : List Stmt) (t : TS) : Prop :=
  ∀ (pins : List (Addr × Obj)) (s : Shared) (σ : St) (H : Hp) (D : Ends), Inv X pins σ H s → t D σ H → wpAny (model X.prog X.w) X.A (execs st X.env) (SP X pins D) X.xe s
/-- weaken the end -/
theorem thn {α : Type} {t : Sem α} {Q Q' : α → Shared → Prop} {M : Model} {A : Around} {E : Value → Shared → Prop} {s : Shared} (h : wpAny M A t Q E s) (hQ : ∀ a s, Q a s → Q' a s) : wpAny M A t Q' E s := wpAny_mono h hQ fun _ _ x => x
end L2

namespace L2
open PySem PySem.Spec PyProof.Rows
section
variable {X : Cx}

/-- two expressions in a row -/
theorem bin {a b : Expr} {ta tb : TE} (ha : PE X a ta) (hb : PE X b tb) {pins : List (Addr × Obj)} {s : Shared} {σ : St} {H : Hp} {R : V → V → Hp → Prop} (I : Inv X pins σ H s) (h : ta σ H fun x H1 => tb σ H1 fun y H2 => R x y H2)
    {α : Type} {Q : α → Shared → Prop} {f : Value → Value → Sem α}
    (hf : ∀ v u s2 x y H2, Inv X pins σ H2 s2 → RelV x v → RelV y u → R x y H2 → wpAny (model X.prog X.w) X.A (f v u) Q X.xe s2) :
    wpAny (model X.prog X.w) X.A (eval a X.env) (fun v s₁ => wpAny (model X.prog X.w) X.A (eval b X.env) (fun u s₂ => wpAny (model X.prog X.w) X.A (f v u) Q X.xe s₂) X.xe s₁) X.xe s := by
  refine thn (ha pins s σ H _ I h) fun v s1 ⟨x, H1, I1, r1, q1⟩ => ?_
  refine thn (hb pins s1 σ H1 _ I1 q1) fun u s2 ⟨y, H2, I2, r2, q2⟩ => ?_
  exact hf v u s2 x y H2 I2 r1 r2 q2

/-! ### names and constants -/
def tVar (i : Nat) : TE := fun σ H Q => ∃ v, σ[i]? = some (some v) ∧ Q v H
def tC (v : V) : TE := fun _ H Q => Q v H
theorem pe_var {i : Nat} {x : Str} {pos : Pos} (hN : X.N[i]? = some x) (hv : Vis X.env.scope x) (hd : (x == ("__debug__" : Str)) = false := by decide) (hcd : (x == ("__classdict__" : Str)) = false := by decide) : PE X (.Name x pos) (tVar i) := by
  intro pins s σ H Q I h
  obtain ⟨v, e, h⟩ := h
  obtain ⟨m, hn, hl⟩ := I.loc
  obtain ⟨u, r, l⟩ := hl i x v hN e hv
  have fin : EP X pins σ Q u s := ⟨v, H, I, r, h⟩
  rcases l with ⟨hk, hm⟩ | ⟨hk, c, hc, hcell⟩
  · exact wpAny_Name (wpAny_loadName_local I.ok.kind hk hn hm fin) hd
  · rcases hk with hk | hk
    · exact wpAny_Name (wpAny_loadName_cell I.ok.kind hk hc hcell fin) hd
    · exact wpAny_Name (wpAny_loadName_free I.ok.kind hk hc hcell fin hcd) hd
theorem pe_int {i j pos} : PE X (.Constant (.int i) j pos) (tC (.int i)) := fun _ _ _ H _ I h => wpAny_Constant_int ⟨.int i, H, I.tok _, ⟨_, rfl⟩, h⟩
theorem pe_bl {b j pos} : PE X (.Constant (.bool b) j pos) (tC (.bl b)) := fun _ _ _ H _ I h => Constant_bool ⟨.bl b, H, I, rfl, h⟩
theorem pe_str {x j pos} : PE X (.Constant (.str x) j pos) (tC (.str x)) := fun _ _ _ H _ I h => Calls.Constant_str ⟨.str x, H, I.tok _, ⟨_, rfl⟩, h⟩

/-- a global name of the def -/
def Gl (X : Cx) (x : Str) : Prop := X.env.kindOf x = some .globalImplicit
theorem ld_glob {E : Value → Shared → Prop} {pins : List (Addr × Obj)} {s : Shared} {σ : St} {H : Hp} {x : Str} {u : Value} {pos : Pos} {Q : Value → Shared → Prop} (I : Inv X pins σ H s) (hg : Gl X x) (hm : X.mg x = some u) (h : Q u s)
    (hd : (x == ("__debug__" : Str)) = false := by decide) : wpAny (model X.prog X.w) X.A (eval (.Name x pos) X.env) Q E s :=
  Calls.Name_function_global I.ok.kind hg (Calls.loadGlobal_global (by rw [I.ok.glob]; exact I.mod.glob.keeps I.bk) hm h) hd
theorem ld_blt {E : Value → Shared → Prop} {pins : List (Addr × Obj)} {s : Shared} {σ : St} {H : Hp} {x : Str} {u : Value} {pos : Pos} {Q : Value → Shared → Prop} (I : Inv X pins σ H s) (hg : Gl X x) (hm : X.mg x = none) (hv : bootBuiltins x = some u) (h : Q u s)
    (hn : x ≠ "__name__" := by decide) (hd : (x == ("__debug__" : Str)) = false := by decide) : wpAny (model X.prog X.w) X.A (eval (.Name x pos) X.env) Q E s := by
  obtain ⟨mb, h1, h2⟩ := I.mod.blt
  exact Calls.Name_function_global I.ok.kind hg (Calls.loadGlobal_builtin (by rw [I.ok.glob]; exact I.mod.glob.keeps I.bk) hm (by rw [I.ok.blt]; exact h1.keeps I.bk) ((h2 x hn).trans hv) h) hd
/-- a module's constant, a class, a function, as a value -/
theorem pe_glob {x : Str} {v : V} {u : Value} {pos : Pos} (hg : Gl X x) (hm : X.mg x = some u) (r : RelV v u) (hd : (x == ("__debug__" : Str)) = false := by decide) : PE X (.Name x pos) (tC v) :=
  fun _ _ _ H _ I h => ld_glob I hg hm ⟨v, H, I, r, h⟩ hd
theorem pe_bltn {x : Str} {v : V} {u : Value} {pos : Pos} (hg : Gl X x) (hm : X.mg x = none) (hv : bootBuiltins x = some u) (r : RelV v u) (hn : x ≠ "__name__" := by decide) (hd : (x == ("__debug__" : Str)) = false := by decide) : PE X (.Name x pos) (tC v) :=
  fun _ _ _ H _ I h => ld_blt I hg hm hv ⟨v, H, I, r, h⟩ hn hd

/-! ### arithmetic -/
variable {a b : Expr} {ta tb : TE} {pos : Pos}
/-! ### comparisons -/
def PC (X : Cx) (op : CmpOp) (a b : Expr) (t : TE) : Prop :=
  ∀ (pins : List (Addr × Obj)) (s : Shared) (σ : St) (H : Hp) (Q : VK), Inv X pins σ H s → t σ H Q →
    wpAny (model X.prog X.w) X.A (eval a X.env) (fun v s₁ => wpAny (model X.prog X.w) X.A (eval b X.env) (fun u s₂ => wpAny (model X.prog X.w) X.A (compareOp op v u) (EP X pins σ Q) X.xe s₂) X.xe s₁) X.xe s
theorem nobehind (b : Expr) {op : CmpOp} (h : op ≠ .In) (h2 : op ≠ .NotIn) : behindInMarks op b = false := by
  have e1 : (op == CmpOp.In) = false := by cases op <;> first | rfl | exact absurd rfl h
  have e2 : (op == CmpOp.NotIn) = false := by cases op <;> first | rfl | exact absurd rfl h2
  cases b <;> simp [behindInMarks, e1, e2]
/-- a comparison as a value, as a test -/
def tB (t : TE) : TT := fun σ H Q => t σ H fun x H1 => ∃ c, x = .bl c ∧ Q c H1
theorem pt_cmp {op : CmpOp} {t : TE} (h : PC X op a b t) (h1 : behindInMarks op b = false := by first | exact nobehind _ (by decide) (by decide) | rfl) : PT X (.Compare a [op] [b] pos) (tB t) := by
  intro pins s σ H Q I hw
  refine wpAny_isTrue_Compare1 (thn (h pins s σ H _ I hw) fun v s1 h1 => thn h1 fun u s2 h2 => thn h2 fun c s3 ⟨x, H1, I1, r1, q1⟩ => ?_) h1
  obtain ⟨d, rfl, q⟩ := q1
  cases r1
  exact wpAny_truthy_bool ⟨H1, I1, q⟩
/-- an expression whose value is a bool, as a test -/
theorem pt_val {e : Expr} {t : TE} (h : PE X e t) (he : ∀ whole, isTrue e X.env whole = (do let v ← whole; standAt e.pos; holding [v] (truthy v)) := by intro _; rfl) : PT X e (tB t) := by
  intro pins s σ H Q I hw
  refine isTrue_plain (thn (h pins s σ H _ I hw) fun v s1 ⟨x, H1, I1, r1, q1⟩ => ?_) (he _)
  obtain ⟨d, rfl, q⟩ := q1
  cases r1
  exact wpAny_truthy_bool ⟨H1, I1, q⟩

/-! ### and, or, not -/
variable {tA tB' : TT} {rest : List Expr}
def tOr (t u : TT) : TT := fun σ H Q => t σ H fun c H1 => if c = true then Q true H1 else u σ H1 Q
def tNot (t : TT) : TT := fun σ H Q => t σ H fun c H1 => Q (!c) H1
theorem pw_or1 (ha : PT X a tA) : PW X (.BoolOp .Or [a] pos) tA := by
  intro wh pins s σ H Q I h
  refine isTrue_or (thn (ha pins s σ H Q I h) fun c s1 e => ?_)
  cases c with
  | false => exact isTrue_or_nil e
  | true => exact e
theorem pw_or (ha : PT X a tA) (hb : PW X (.BoolOp .Or (b :: rest) pos) tB') : PW X (.BoolOp .Or (a :: b :: rest) pos) (tOr tA tB') := by
  intro wh pins s σ H Q I h
  refine isTrue_or (thn (ha pins s σ H _ I h) fun c s1 ⟨H1, I1, q1⟩ => ?_)
  cases c with
  | true => exact ⟨H1, I1, q1⟩
  | false => exact hb wh pins s1 σ H1 Q I1 q1
theorem pt_not (ha : PT X a tA) : PT X (.UnaryOp .Not a pos) (tNot tA) := by
  intro pins s σ H Q I h
  exact isTrue_not (ha pins s σ H (fun c H1 => Q (!c) H1) I h)
/-- .. as values (bools) -/
def tAndV (ta tb : TE) : TE := fun σ H Q => ta σ H fun x H1 => ∃ c, x = .bl c ∧ if c = true then tb σ H1 Q else Q (.bl false) H1
theorem pe_one {op} {t : TE} (h : PE X a t) : PE X (.BoolOp op [a] pos) t := fun pins s σ H Q I hw => BoolOp_one (h pins s σ H Q I hw)
theorem pe_and (ha : PE X a ta) (hb : PE X (.BoolOp .And (b :: rest) pos) tb) : PE X (.BoolOp .And (a :: b :: rest) pos) (tAndV ta tb) := by
  intro pins s σ H Q I h
  refine BoolOp_and (thn (ha pins s σ H _ I h) fun v s1 ⟨x, H1, I1, r1, q1⟩ => ?_)
  obtain ⟨c, rfl, q1⟩ := q1
  cases r1
  refine wpAny_truthy_bool ?_
  cases c with
  | true => exact hb pins s1 σ H1 Q I1 q1
  | false => exact ⟨.bl false, H1, I1, rfl, q1⟩
/-- a if t else b -/
def tIf (t : TT) (ta tb : TE) : TE := fun σ H Q => t σ H fun c H1 => if c = true then ta σ H1 Q else tb σ H1 Q
theorem pe_ifExp {c : Expr} (hc : PT X c tA) (ha : PE X a ta) (hb : PE X b tb) : PE X (.IfExp c a b pos) (tIf tA ta tb) := by
  intro pins s σ H Q I h
  refine wpAny_IfExp (thn (hc pins s σ H _ I h) fun d s1 ⟨H1, I1, q1⟩ => ?_)
  cases d with
  | true => exact ha pins s1 σ H1 Q I1 q1
  | false => exact hb pins s1 σ H1 Q I1 q1
end
end L2

namespace L2
open PySem PySem.Spec PyProof.Rows

/-! ### a list, a tuple that is read: tracked, frozen, or an object of the module -/
def SqL (K : PySem.W.Frag) (H : Hp) (a : Addr) (xs : List V) : Prop :=
  Rd H a (.lst xs) ∨
    ∃ (o : Obj) (its : Array Value) (n : Nat), K.lookup a = some o ∧ o.cls = .type "list" ∧ o.dict = none ∧ o.data = .seq its n ∧ its.size ≤ sizeLine ∧ Vals xs its.toList
def SqT (K : PySem.W.Frag) (H : Hp) (a : Addr) (xs : List V) : Prop :=
  Rd H a (.tup xs) ∨
    ∃ (o : Obj) (its : Array Value) (n : Nat), K.lookup a = some o ∧ o.cls = .type "tuple" ∧ o.data = .seq its n ∧ its.size ≤ sizeLine ∧ Vals xs its.toList
def absV : Value → Option V
  | .none => some .non
  | .bool b => some (.bl b)
  | .int i _ => some (.int i)
  | .str x _ => some (.str x)
  | .bytes b _ => some (.byt b)
  | .float b _ => some (.flt b)
  | .ref a => some (.ref a)
  | .type n => some (.ty n)
  | _ => none
theorem RelV.abs {x : V} {u : Value} (r : RelV x u) : absV u = some x := by
  cases x with
  | non => cases r; rfl
  | bl _ => cases r; rfl
  | int _ => obtain ⟨t, rfl⟩ := r; rfl
  | str _ => obtain ⟨t, rfl⟩ := r; rfl
  | byt _ => obtain ⟨t, rfl⟩ := r; rfl
  | flt _ => obtain ⟨t, rfl⟩ := r; rfl
  | ref _ => cases r; rfl
  | ty _ => cases r; rfl
theorem RelV.inj {x y : V} {u : Value} (r : RelV x u) (q : RelV y u) : x = y := Option.some.inj (r.abs.symm.trans q.abs)
theorem Vals.inj : ∀ {xs ys : List V} {us : List Value}, Vals xs us → Vals ys us → xs = ys
  | _, _, _, .nil, .nil => rfl
  | _, _, _, .cons r t, .cons r' t' => by rw [r.inj r', Vals.inj t t']
section
variable {X : Cx} {pins : List (Addr × Obj)} {σ : St} {H : Hp} {s : Shared} {a : Addr} {xs ys : List V}
theorem SqL.of {K : PySem.W.Frag} (h : H a = some (.lst xs)) : SqL K H a xs := .inl (.inl h)
theorem SqT.of {K : PySem.W.Frag} (h : H a = some (.tup xs)) : SqT K H a xs := .inl (.inl h)
theorem Inv.list (I : Inv X pins σ H s) (h : SqL X.K H a xs) : ∃ its : List Value, Vals xs its ∧ PlainL s.heap a its.toArray ∧ xs.length ≤ sizeLine := by
  rcases h with h | ⟨o, its, n, hk, hc, hd, hs, hz, r⟩
  · obtain ⟨z, its, n, r, e⟩ := h.ok I.hok
    exact ⟨its, r, ⟨_, n, e, rfl, rfl, rfl⟩, z⟩
  · refine ⟨its.toList, r, ⟨o, n, I.kIn a o hk, hc, hd, by simpa using hs⟩, ?_⟩
    have e := r.length
    simp only [Array.length_toList] at e
    omega
theorem Inv.tuple (I : Inv X pins σ H s) (h : SqT X.K H a xs) : ∃ its : List Value, Vals xs its ∧ IsTup s.heap a its.toArray ∧ xs.length ≤ sizeLine := by
  rcases h with h | ⟨o, its, n, hk, hc, hs, hz, r⟩
  · obtain ⟨z, its, r, p⟩ := h.ok I.hok
    exact ⟨its, r, p, z⟩
  · refine ⟨its.toList, r, ⟨o, I.kIn a o hk, hc, n, by simpa using hs⟩, ?_⟩
    have e := r.length
    simp only [Array.length_toList] at e
    omega
theorem Inv.list_inj (I : Inv X pins σ H s) (h : SqL X.K H a xs) (h' : SqL X.K H a ys) : xs = ys := by
  obtain ⟨its, r, ⟨o, n, e, _, _, d⟩, _⟩ := I.list h
  obtain ⟨its', r', ⟨o', n', e', _, _, d'⟩, _⟩ := I.list h'
  rw [e] at e'; cases e'
  rw [d] at d'
  injection d' with d1 _
  have : its = its' := by simpa using congrArg Array.toList d1
  subst this
  exact r.inj r'
theorem Inv.tuple_inj (I : Inv X pins σ H s) (h : SqT X.K H a xs) (h' : SqT X.K H a ys) : xs = ys := by
  obtain ⟨its, r, ⟨o, e, _, n, d⟩, _⟩ := I.tuple h
  obtain ⟨its', r', ⟨o', e', _, n', d'⟩, _⟩ := I.tuple h'
  rw [e] at e'; cases e'
  rw [d] at d'
  injection d' with d1 _
  have : its = its' := by simpa using congrArg Array.toList d1
  subst this
  exact r.inj r'
end

/-! ### another wish about exceptions -/
abbrev Cx.wish (X : Cx) (E : Value → Shared → Prop) : Cx := { X with xe := E }
/-- no exception leaves -/
abbrev Cx.nox (X : Cx) : Cx := X.wish fun _ _ => False
theorem Cx.Ok.wish {X : Cx} (ok : X.Ok) (E : Value → Shared → Prop) : (X.wish E).Ok :=
  ⟨ok.mod, ok.kind, ok.glob, ok.blt, ok.above, ok.inj, ok.has, ok.cab, ok.hd, ok.frames, ok.stk, ok.exf, ok.bs, ok.bsz, ok.noex, ok.exfs, ok.funs, ok.frf⟩
theorem Cx.Ok.unwish {X : Cx} {E : Value → Shared → Prop} (ok : (X.wish E).Ok) : X.Ok :=
  ⟨ok.mod, ok.kind, ok.glob, ok.blt, ok.above, ok.inj, ok.has, ok.cab, ok.hd, ok.frames, ok.stk, ok.exf, ok.bs, ok.bsz, ok.noex, ok.exfs, ok.funs, ok.frf⟩
section
variable {X : Cx} {pins : List (Addr × Obj)} {σ : St} {H : Hp} {s : Shared} {E : Value → Shared → Prop}
theorem Inv.wish (I : Inv X pins σ H s) (E : Value → Shared → Prop) : Inv (X.wish E) pins σ H s := ⟨I.ok.wish E, I.os, I.bare, I.base, I.loc, I.cell, I.free, I.freeC, I.pin, I.hok, I.len⟩
theorem Inv.unwish (I : Inv (X.wish E) pins σ H s) : Inv X pins σ H s := ⟨I.ok.unwish, I.os, I.bare, I.base, I.loc, I.cell, I.free, I.freeC, I.pin, I.hok, I.len⟩
theorem SP.unwish {D : Ends} {f : Flow} {s' : Shared} (h : SP (X.wish E) pins D f s') : SP X pins D f s' := by
  cases f with
  | next => obtain ⟨σ', H', I, q⟩ := h; exact ⟨σ', H', I.unwish, q⟩
  | brk => obtain ⟨σ', H', I, q⟩ := h; exact ⟨σ', H', I.unwish, q⟩
  | cont => obtain ⟨σ', H', I, q⟩ := h; exact ⟨σ', H', I.unwish, q⟩
  | ret u => obtain ⟨v, σ', H', I, r, q⟩ := h; exact ⟨v, σ', H', I.unwish, r, q⟩
theorem PT.nox {e : Expr} {t : TT} (h : PT X.nox e t) : PT X e t := fun pins s σ H Q I hw =>
  wpAny_mono (h pins s σ H Q (I.wish _) hw) (fun _ _ ⟨H', I', q⟩ => ⟨H', I'.unwish, q⟩) fun _ _ z => False.elim z
theorem PSs.nox {st : List Stmt} {t : TS} (h : PSs X.nox st t) : PSs X st t := fun pins s σ H D I hw =>
  wpAny_mono (h pins s σ H D (I.wish _) hw) (fun _ _ q => q.unwish) fun _ _ z => False.elim z
end

/-! ### blocks and small statements -/
section
variable {X : Cx} {st : Stmt} {rest : List Stmt} {t u : TS} {e : Expr} {te : TE} {pos : Pos}
def tNext : TS := fun D σ H => D.nx σ H
def tSeq (t u : TS) : TS := fun D σ H => t { D with nx := u D } σ H
theorem pss_nil : PSs X [] tNext := fun _ _ σ H _ I h => wpAny_execs_nil ⟨σ, H, I, h⟩
theorem pss_cons (h1 : PS X st t) (h2 : PSs X rest u) : PSs X (st :: rest) (tSeq t u) := by
  intro pins s σ H D I h
  refine wpAny_execs_cons (thn (h1 pins s σ H { D with nx := u D } I h) fun f s1 q => ?_)
  cases f with
  | next =>
    obtain ⟨σ', H', I', q⟩ := q
    exact h2 pins s1 σ' H' D I' q
  | ret v => exact q
  | brk => exact q
  | cont => exact q
theorem pss_one (h1 : PS X st t) : PSs X [st] t := by
  intro pins s σ H D I h
  refine wpAny_execs_cons (thn (h1 pins s σ H D I h) fun f s1 q => ?_)
  cases f with
  | next => exact wpAny_execs_nil q
  | ret v => exact q
  | brk => exact q
  | cont => exact q
/-- in a def's body nothing is shown -/
theorem Inv.quiet {pins : List (Addr × Obj)} {σ : St} {H : Hp} {s : Shared} (I : Inv X pins σ H s) : interactive X.env = false := by simp [interactive, I.ok.kind]
def tRet (te : TE) : TS := fun D σ H => te σ H D.rt
theorem ps_ret (he : PE X e te) : PS X (.Return (some e) pos) (tRet te) := by
  intro pins s σ H D I h
  exact wpAny_Return_some (thn (he pins s σ H _ I h) fun v s1 ⟨x, H1, I1, r1, q1⟩ => ⟨x, σ, H1, I1, r1, q1⟩)
def tIfS (c : TT) (t u : TS) : TS := fun D σ H => c σ H fun b H1 => if b = true then t D σ H1 else u D σ H1
theorem ps_if {c : Expr} {a b : List Stmt} {tc : TT} (hc : PT X c tc) (ha : PSs X a t) (hb : PSs X b u) : PS X (.If c a b pos) (tIfS tc t u) := by
  intro pins s σ H D I h
  refine wpAny_If (thn (hc pins s σ H _ I h) fun d s1 ⟨H1, I1, q1⟩ => ?_)
  cases d with
  | true => exact ha pins s1 σ H1 D I1 q1
  | false => exact hb pins s1 σ H1 D I1 q1
/-- code that the proof never comes to -/
def tNever : TS := fun _ _ _ => False
theorem ps_never : PS X st tNever := fun _ _ _ _ _ _ h => h.elim
end

/-! ### targets -/
abbrev TG := V → St → Hp → (St → Hp → Prop) → Prop
abbrev TGs := List V → St → Hp → (St → Hp → Prop) → Prop
def PG (X : Cx) (target : Expr) (t : TG) : Prop :=
  ∀ (pins : List (Addr × Obj)) (s : Shared) (σ : St) (H : Hp) (v : V) (u : Value) (Q : St → Hp → Prop), Inv X pins σ H s → RelV v u → t v σ H Q →
    wpAny (model X.prog X.w) X.A (assign target X.env u) (fun _ s' => ∃ σ' H', Inv X pins σ' H' s' ∧ Q σ' H') X.xe s
/-- several targets, one after another -/
def PGs (X : Cx) (ts : List Expr) (t : TGs) : Prop :=
  ∀ (pins : List (Addr × Obj)) (s : Shared) (σ : St) (H : Hp) (vs : List V) (us : List Value) (Q : St → Hp → Prop), Inv X pins σ H s → Vals vs us → t vs σ H Q →
    wpAny (model X.prog X.w) X.A (assignInOrder ((assignEach ts X.env).map (·.2)) us) (fun _ s' => ∃ σ' H', Inv X pins σ' H' s' ∧ Q σ' H') X.xe s
/-- o[i] = v, by values -/
abbrev TSet := V → V → V → Hp → (Hp → Prop) → Prop
def PSet (X : Cx) (t : TSet) : Prop :=
  ∀ (pins : List (Addr × Obj)) (s : Shared) (σ : St) (H : Hp) (o i v : V) (ov iv u : Value) (Q : Hp → Prop), Inv X pins σ H s → RelV o ov → RelV i iv → RelV v u → t o i v H Q →
    wpAny (model X.prog X.w) X.A (setItem ov iv u) (fun _ s' => ∃ H', Inv X pins σ H' s' ∧ Q H') X.xe s
section
variable {X : Cx} {pos : Pos}
def gName (i : Nat) : TG := fun v σ H Q => Q (σ.set i (some v)) H
theorem pg_name {i : Nat} {x : Str} (hN : X.N.Nodup) (hi : X.N[i]? = some x) (hx : Loc X.env.scope x) (hf : X.fn x = true ∨ X.env.scope.names.lookup x = some .local := by first | exact .inl rfl | exact .inr rfl | assumption) : PG X (.Name x pos) (gName i) := by
  intro pins s σ H v u Q I r h
  exact wpAny_assign_Name (store_ok I hN hi hx r (fun s' I' => ⟨_, H, I', h⟩) hf)
def gNil : TGs := fun vs σ H Q => vs = [] ∧ Q σ H
def gCons (t : TG) (u : TGs) : TGs := fun vs σ H Q => ∃ v r, vs = v :: r ∧ t v σ H fun σ' H' => u r σ' H' Q
theorem pgs_nil : PGs X [] gNil := by
  intro pins s σ H vs us Q I r h
  obtain ⟨e, h⟩ := h
  subst e
  cases r
  exact assignInOrder_nil ⟨σ, H, I, h⟩
theorem pgs_cons {e : Expr} {es : List Expr} {t : TG} {u : TGs} (h1 : PG X e t) (h2 : PGs X es u)
    (hs : (assignEach (e :: es) X.env).map (·.2) = assign e X.env :: (assignEach es X.env).map (·.2) := by rfl) : PGs X (e :: es) (gCons t u) := by
  intro pins s σ H vs us Q I r h
  obtain ⟨v, vr, e1, h⟩ := h
  subst e1
  cases r with
  | cons r rr =>
    rw [hs]
    refine assignInOrder_cons (thn (h1 pins s σ H _ _ _ I r h) fun _ s1 ⟨σ1, H1, I1, q1⟩ => ?_)
    exact h2 pins s1 σ1 H1 _ _ Q I1 rr q1
/-- (a, b, ..) = a tuple of that length -/
def gTup (K : PySem.W.Frag) (n : Nat) (t : TGs) : TG := fun v σ H Q => ∃ a xs, v = .ref a ∧ SqT K H a xs ∧ xs.length = n ∧ t xs σ H Q
theorem pg_tup {es : List Expr} {k : Nat} {t : TGs} {n : Nat} (hc : X.calm = true) (h : PGs X es t)
    (hn : (assignEach es X.env).length = n := by rfl) (hst : (assignEach es X.env).findIdx? (·.1) = none := by rfl) : PG X (.Tuple es k pos) (gTup X.K n t) := by
  intro pins s σ H v u Q I r hw
  obtain ⟨a, xs, e1, hq, hl, hw⟩ := hw
  subst e1
  cases r
  obtain ⟨its, rv, ht, hz⟩ := I.tuple hq
  refine assign_Tuple_tuple (I.ok.hd hc) ht (by simp [hn, ← hl, rv.length]) hst fun h' hx => ?_
  have I1 : Inv X pins σ H { s with heap := h' } := I.kept (t' := s.toks) fun b o e => hx b o (Nat.ne_of_lt (Heap.lt_size e)) e
  exact h pins _ σ H xs _ Q I1 (by simpa using rv) hw
/-- o[i] = .. -/
def gSub (to ti : TE) (t : TSet) : TG := fun v σ H Q => to σ H fun o H1 => ti σ H1 fun i H2 => t o i v H2 fun H3 => Q σ H3
theorem pg_sub {o i : Expr} {to ti : TE} {t : TSet} (ho : PE X o to) (hi : PE X i ti) (hs : PSet X t)
    (ha : ∀ v, assign (.Subscript o i pos) X.env v = (do
      let ov ← holding [v] (eval o X.env)
      let iv ← holding [v, ov] (eval i X.env)
      standAt pos
      holding [v, ov, iv] (setItem ov iv v)
      release [v, ov, iv] []) := by intro _; rfl) : PG X (.Subscript o i pos) (gSub to ti t) := by
  intro pins s σ H v u Q I r h
  rw [ha]
  refine wpAny_bind (wpAny_holding (thn (ho pins s σ H _ I h) fun ov s1 ⟨x, H1, I1, r1, q1⟩ => ?_))
  refine wpAny_bind (wpAny_holding (thn (hi pins s1 σ H1 _ I1 q1) fun iv s2 ⟨y, H2, I2, r2, q2⟩ => ?_))
  refine wpAny_bind (wpAny_standAt (wpAny_bind (wpAny_holding (thn (hs pins s2 σ H2 x y v ov iv u _ I2 r1 r2 r q2) fun _ s3 ⟨H3, I3, q3⟩ => ?_))))
  exact wpAny_release ⟨σ, H3, I3, q3⟩
/-- target = value -/
def tAsg (te : TE) (g : TG) : TS := fun D σ H => te σ H fun x H1 => g x σ H1 D.nx
theorem ps_asg {tg e : Expr} {te : TE} {g : TG} (he : PE X e te) (hg : PG X tg g) (hs : swapsWithSole [tg] e pos.line X.env = pure false := by rfl) (hw : swappedStores [tg] e X.env = pure none := by rfl)
    (h1 : (assignEach [tg] X.env).map (·.2) = [assign tg X.env] := by rfl) : PS X (.Assign [tg] e pos) (tAsg te g) := by
  intro pins s σ H D I h
  refine wpAny_Assign_stores (thn (he pins s σ H _ I h) fun v s1 ⟨x, H1, I1, r1, q1⟩ => ?_) hs hw
  rw [h1]
  exact thn (hg pins s1 σ H1 x v _ I1 r1 q1) fun _ s2 q => q
/-- name = value -/
theorem ps_set {i : Nat} {x : Str} {e : Expr} {te : TE} {pos' : Pos} (hN : X.N.Nodup) (hi : X.N[i]? = some x) (hx : Loc X.env.scope x) (he : PE X e te) (hs : swapsWith e (some (.Name x pos')) pos.line X.env = pure false := by rfl) (hf : X.fn x = true ∨ X.env.scope.names.lookup x = some .local := by first | exact .inl rfl | exact .inr rfl | assumption) :
    PS X (.Assign [.Name x pos'] e pos) (tAsg te (gName i)) := by
  intro pins s σ H D I h
  refine wpAny_Assign_Name (thn (he pins s σ H _ I h) fun v s1 ⟨y, H1, I1, r1, q1⟩ => ?_) hs
  exact store_ok I1 hN hi hx r1 (fun s2 I2 => ⟨_, H1, I2, q1⟩) hf
/-- a, b = x, y with plain local names: stored from the right; the pair itself is not tracked (the opening rows as in PyProof/Rows/TupAssign.lean:23) -/
def tPar (i j : Nat) (ta : TA) : TS := fun D σ H => ta σ H fun vs H1 => ∃ v w, vs = [v, w] ∧ D.nx ((σ.set i (some v)).set j (some w)) H1
theorem ps_par {i j : Nat} {x y : Str} {a b : Expr} {ta : TA} {px py pt : Pos} {kt k2 pt2} (hc : X.calm = true) (hN : X.N.Nodup) (hi : X.N[i]? = some x) (hj : X.N[j]? = some y) (hij : i ≠ j)
    (hx : X.env.scope.names.lookup x = some .local) (hy : X.env.scope.names.lookup y = some .local) (ha : PA X [a, b] ta)
    (hw : swappedStores [.Tuple [.Name x px, .Name y py] kt pt] (.Tuple [a, b] k2 pt2) X.env = pure (some [x, y]))
    (hs : swapsWithSole [.Tuple [.Name x px, .Name y py] kt pt] (.Tuple [a, b] k2 pt2) pos.line X.env = pure false := by rfl) :
    PS X (.Assign [.Tuple [.Name x px, .Name y py] kt pt] (.Tuple [a, b] k2 pt2) pos) (tPar i j ta) := by
  intro pins s σ H D I h
  rw [exec_Assign_arm]
  refine wpAny_bind (wpAny_standAt ?_)
  rw [hs]
  refine wpAny_bind (wpAny_pure ?_)
  rw [if_neg (by decide)]
  refine wpAny_bind (Tuple_ (thn (ha _ pins s σ H _ I h) fun us s1 ⟨vs, H1, I1, r1, q1⟩ => ?_))
  obtain ⟨v, w, e1, q1⟩ := q1
  subst e1
  obtain ⟨u1, u2, rfl, rv, rw'⟩ : ∃ u1 u2, us = [u1, u2] ∧ RelV v u1 ∧ RelV w u2 := by
    cases r1 with
    | cons p q =>
      cases q with
      | cons p' q' =>
        cases q'
        exact ⟨_, _, rfl, p, p'⟩
  refine wpAny_newObj_type ?_ (by show 2 ≤ sizeLine; decide)
  have I2 : Inv X pins σ H1 { s1 with heap := s1.heap.push { cls := .type "tuple", data := .seq [u1, u2].toArray } } := I1.kept (t' := s1.toks) fun b o e => Heap.get?_push_of_some _ e
  rw [hw]
  refine wpAny_bind (wpAny_pure ?_)
  show wpAny (model X.prog X.w) X.A (do rule "assign.swapped-stores"; let items ← unpackItems (.ref s1.heap.objs.size) 2 none; assignInOrder [fun v => bindName X.env y v, fun v => bindName X.env x v] items.reverse; pure Flow.next) _ _ _
  refine wpAny_bind (wpAny_rule (wpAny_bind (unpackItems_tuple (items := #[u1, u2]) (I.ok.hd hc) (IsTup.new s1.heap _) fun h' hx' => ?_)))
  have I3 := I2.kept (h' := h') (t' := s1.toks) fun b o e => hx' b o (Nat.ne_of_lt (Heap.lt_size e)) e
  show wpAny _ _ (assignInOrder [fun v => bindName X.env y v, fun v => bindName X.env x v] [u2, u1] >>= fun _ => pure Flow.next) _ _ _
  refine wpAny_bind (assignInOrder_cons (wpAny_bindName (store_ok I3 hN hj (.inl hy) rw' (fun s2 I4 => ?_) (.inr hy))))
  refine assignInOrder_cons (wpAny_bindName (store_ok I4 hN hi (.inl hx) rv (fun s3 I5 => assignInOrder_nil (wpAny_pure ?_)) (.inr hx)))
  rw [List.set_comm _ _ (Ne.symm hij)] at I5
  exact ⟨_, H1, I5, q1⟩
end

/-! ### while -/
section
variable {X : Cx} {pos : Pos}
/-- the invariant W with its measure -/
def tWhile (c : TT) (tb : TS) : TS := fun D σ H => ∃ W : Nat → St → Hp → Prop, (∃ m, W m σ H) ∧ ∀ m σ H, W m σ H →
  c σ H fun b H1 => if b = true then ∃ N : St → Hp → Prop, (∀ σ' H', N σ' H' → ∃ m', m' < m ∧ W m' σ' H') ∧ tb { D with nx := N, ct := N, bk := D.nx } σ H1 else D.nx σ H1
theorem ps_while {c : Expr} {body : List Stmt} {tc : TT} {tb : TS} (hp : PassesOwn (model X.prog X.w) X.A X.env X.xe) (hc : PT X c tc) (hb : PSs X body tb) : PS X (.While c body [] pos) (tWhile tc tb) := by
  intro pins s σ H D I h
  obtain ⟨W, ⟨m0, w0⟩, turn⟩ := h
  refine wpAny_While (codeAny_whileLoop (fun n s' => ∃ σ' H', Inv X pins σ' H' s' ∧ W n σ' H') ?_ m0 ⟨σ, H, I, w0⟩)
  rintro n s1 ⟨σ1, H1, I1, w1⟩
  refine wpAny_passesOwn hp (thn (hc pins s1 σ1 H1 _ I1 (turn n σ1 H1 w1)) fun b s2 ⟨H2, I2, q2⟩ => ?_)
  cases b with
  | true =>
    obtain ⟨N, hN, q2⟩ := q2
    rw [if_pos rfl]
    refine wpAny_passesOwn hp (thn (hb pins s2 σ1 H2 _ I2 q2) fun f s3 q3 => ?_)
    cases f with
    | next =>
      obtain ⟨σ3, H3, I3, n3⟩ := q3
      obtain ⟨m', hm, w3⟩ := hN σ3 H3 n3
      exact ⟨m', hm, σ3, H3, I3, w3⟩
    | cont =>
      obtain ⟨σ3, H3, I3, n3⟩ := q3
      obtain ⟨m', hm, w3⟩ := hN σ3 H3 n3
      exact ⟨m', hm, σ3, H3, I3, w3⟩
    | brk => exact q3
    | ret v => exact q3
  | false =>
    rw [if_neg Bool.false_ne_true]
    exact wpAny_execs_nil ⟨σ1, H2, I2, q2⟩
end

/-! ### what a loop or a comprehension walks -/
/-- at turn i: it yields x (the heap may grow), or it stops -/
structure It where
  go : Nat → Hp → Prop
  yld : Nat → Hp → V → Hp → Prop
  stop : Nat → Hp → Prop
/-- the iterator's own objects may turn: they are not the frame's, not pinned, younger than the entry (or a comprehension's own) -/
def FpOk (X : Cx) (pins : List (Addr × Obj)) (H : Hp) (b : Addr) : Prop :=
  H b = none ∧ b ≠ X.env.locals ∧ b ∉ X.fs ∧ (b ∈ X.ex ∨ X.s₀.heap.objs.size ≤ b) ∧ (∀ x c, X.env.cells.lookup x = some c → c ≠ b) ∧ ∀ p ∈ X.pn ++ pins, p.1 ≠ b
theorem Inv.fpOk {X : Cx} {pins : List (Addr × Obj)} {σ : St} {H H' : Hp} {s : Shared} {b : Addr} (I : Inv X pins σ H s) (hb : s.heap.objs.size ≤ b) (hn : H' b = none) : FpOk X pins H' b := by
  refine ⟨hn, Nat.ne_of_gt (Nat.lt_of_lt_of_le I.lt hb), I.nofs hb, .inr (Nat.le_trans I.sz hb), fun x c e z => ?_, fun p hp z => ?_⟩
  · obtain ⟨v, q⟩ := I.cell x c e
    exact absurd (Nat.lt_of_lt_of_le q.lt (by rw [z]; exact hb)) (Nat.lt_irrefl _)
  · exact absurd (Nat.lt_of_lt_of_le (Heap.lt_size (I.pin p hp).1) (by rw [z]; exact hb)) (Nat.lt_irrefl _)
structure Turn (P : Program) (w : World) (K : PySem.W.Frag) (tg : Expr) (J : It) (fp : List Addr) (it : Addr) (tn : Nat → Heap → Prop) : Prop where
  mem : it ∈ fp
  obj : ∀ i h, tn i h → ∀ b ∈ fp, ∃ o, h.get? b = some o ∧ ∀ v, o.data ≠ .cell v
  keep : ∀ i h h', tn i h → (∀ b ∈ fp, ∀ o, h.get? b = some o → h'.get? b = some o) → tn i h'
  item : ∀ (X : Cx), X.prog = P → X.w = w → X.K = K → X.calm = true → ∀ (i : Nat) (pins : List (Addr × Obj)) (s : Shared) (σ : St) (H : Hp) (E : Value → Shared → Prop), Inv X pins σ H s → (∀ b ∈ fp, FpOk X pins H b) → tn i s.heap → J.go i H →
    wpAny (model P w) X.A (pyNext (.ref it)) (fun r s1 => ∃ u, r = some u ∧
      wpAny (model P w) X.A (letOwnedTupleGo tg (.ref it) u) (fun _ s2 => ∃ x H', Inv X pins σ H' s2 ∧ RelV x u ∧ J.yld i H x H' ∧ tn (i + 1) s2.heap ∧ ∀ b ∈ fp, H' b = none) E s1) E s
  done : ∀ (X : Cx), X.prog = P → X.w = w → X.K = K → X.calm = true → ∀ (i : Nat) (pins : List (Addr × Obj)) (s : Shared) (σ : St) (H : Hp) (E : Value → Shared → Prop), Inv X pins σ H s → (∀ b ∈ fp, FpOk X pins H b) → tn i s.heap → J.stop i H →
    wpAny (model P w) X.A (pyNext (.ref it)) (fun r s1 => r = none ∧ Inv X pins σ H s1) E s
  self : ∀ (A : Around) (i : Nat) (s : Shared) (Q : Value → Shared → Prop) (E : Value → Shared → Prop), tn i s.heap → Q (.ref it) s → wpAny (model P w) A (pyIter (.ref it)) Q E s
abbrev TI := St → Hp → (It → Hp → Prop) → Prop
/-- an iterator has come -/
def PIE (X : Cx) (pins : List (Addr × Obj)) (σ : St) (tg : Expr) (R : It → Hp → Prop) (itv : Value) (s2 : Shared) : Prop :=
  ∃ (it : Addr) (fp : List Addr) (tn : Nat → Heap → Prop) (J : It) (H' : Hp), itv = .ref it ∧ Inv X pins σ H' s2 ∧ Turn X.prog X.w X.K tg J fp it tn ∧ tn 0 s2.heap ∧ (∀ b ∈ fp, FpOk X pins H' b) ∧ R J H'
def PI (X : Cx) (tg iter : Expr) (wi : TI) : Prop :=
  ∀ (pins : List (Addr × Obj)) (s : Shared) (σ : St) (H : Hp) (R : It → Hp → Prop), Inv X pins σ H s → wi σ H R →
    wpAny (model X.prog X.w) X.A (eval iter X.env) (fun v s1 => wpAny (model X.prog X.w) X.A (pyIter v) (PIE X pins σ tg R) X.xe s1) X.xe s

/-- the step ahead of the store is nothing for an iterator that keeps no tuple -/
theorem go_of {M : Model} {A : Around} {E : Value → Shared → Prop} {s : Shared} {tg : Expr} {it : Addr} {u : Value} {o : Obj} {n : String} {vs : Array Value} {Q : Unit → Shared → Prop} (ho : s.heap.get? it = some o) (hc : o.cls = .type n) (hd : o.data = .fields vs)
    (hn : ["enumerate", "zip", "dict_itemiterator", "dict_reverseitemiterator", "odict_iterator", "itertools.zip_longest", "itertools.pairwise"].contains n = false) (hQ : Q () s) : wpAny M A (letOwnedTupleGo tg (.ref it) u) Q E s := by
  unfold letOwnedTupleGo
  cases tg <;> first
    | exact wpAny_pure hQ
    | (cases u <;> first
        | exact wpAny_pure hQ
        | (refine wpAny_bind (wpAny_load ho ?_)
           rw [hc, hd]
           show wpAny M A (if (["enumerate", "zip", "dict_itemiterator", "dict_reverseitemiterator", "odict_iterator", "itertools.zip_longest", "itertools.pairwise"].contains n && vs[0]? == some (rawInt _)) = true then _ else _) Q E s
           rw [if_neg (by intro h; rw [hn, Bool.false_and] at h; cases h)]
           exact wpAny_pure hQ))

/-- the list at a, as it stands at each turn (a loop may append to it) -/
def Itl (K : PySem.W.Frag) (a : Addr) : It :=
  ⟨fun i H => ∃ xs x, SqL K H a xs ∧ xs[i]? = some x, fun i H x H' => H' = H ∧ ∀ xs, SqL K H a xs → xs[i]? = some x, fun i H => ∃ xs, SqL K H a xs ∧ xs.length ≤ i⟩
def Itt (K : PySem.W.Frag) (a : Addr) : It :=
  ⟨fun i H => ∃ xs x, SqT K H a xs ∧ xs[i]? = some x, fun i H x H' => H' = H ∧ ∀ xs, SqT K H a xs → xs[i]? = some x, fun i H => ∃ xs, SqT K H a xs ∧ xs.length ≤ i⟩
/-- lo, lo + 1, .. (n of them) -/
def Itr (lo : Int) (n : Nat) : It := ⟨fun i _ => i < n, fun i H x H' => H' = H ∧ x = .int (lo + i), fun i _ => n ≤ i⟩
theorem turn_list {P : Program} {w : World} {K : PySem.W.Frag} {tg : Expr} (a it : Addr) : Turn P w K tg (Itl K a) [it] it (fun i h => h.IsListIter it a i) where
  mem := by simp
  obj := fun i h st b hb => by
    have e : b = it := by simpa using hb
    subst e
    obtain ⟨o, e, c, d⟩ := st
    exact ⟨o, e, fun v z => by rw [d] at z; cases z⟩
  keep := fun i h h' st k => st.at fun o e => k it (by simp) o e
  item := by
    intro X hP hw hK hc i pins s σ H E I hf st hg
    subst hP hw hK
    obtain ⟨xs, x, hq, hx⟩ := hg
    obtain ⟨its, rv, p, hz⟩ := I.list hq
    obtain ⟨u, hu, ru⟩ := rv.get hx
    obtain ⟨f0, f1, f2, f3, f4, f5⟩ := hf it (by simp)
    refine wpAny_pyNext_list_item st p.isList (x := u) (by simpa using hu) fun h' st' sb => ?_
    have I1 : Inv X pins σ H { s with heap := h' } := I.turned (t' := s.toks) (fun b o hb e => (sb.2 b hb).trans e) f0 f1 f3 f4 f5
    obtain ⟨o, e, c, d⟩ := id st'
    exact ⟨u, rfl, go_of (s := { s with heap := h' }) e c d (by decide) ⟨x, H, I1, ru, ⟨rfl, fun ys hy => by rw [I.list_inj hy hq]; exact hx⟩, st', fun b hb => (hf b hb).1⟩⟩
  done := by
    intro X hP hw hK hc i pins s σ H E I hf st hg
    subst hP hw hK
    obtain ⟨xs, hq, hx⟩ := hg
    obtain ⟨its, rv, p, hz⟩ := I.list hq
    obtain ⟨f0, f1, f2, f3, f4, f5⟩ := hf it (by simp)
    have hl := rv.length
    exact wpAny_pyNext_list_end (I.ok.hd hc) st p.isList (by simp; omega) fun h' eb => ⟨rfl, I.turned (t' := s.toks) (fun b o hb e => eb b o hb e) f0 f1 f3 f4 f5⟩
  self := fun _ _ _ _ _ st h => wpAny_pyIter_listiter st h
theorem turn_tuple {P : Program} {w : World} {K : PySem.W.Frag} {tg : Expr} (a it : Addr) : Turn P w K tg (Itt K a) [it] it (fun i h => h.IsTupleIter it a i) where
  mem := by simp
  obj := fun i h st b hb => by
    have e : b = it := by simpa using hb
    subst e
    obtain ⟨o, e, c, d⟩ := st
    exact ⟨o, e, fun v z => by rw [d] at z; cases z⟩
  keep := fun i h h' st k => st.at fun o e => k it (by simp) o e
  item := by
    intro X hP hw hK hc i pins s σ H E I hf st hg
    subst hP hw hK
    obtain ⟨xs, x, hq, hx⟩ := hg
    obtain ⟨its, rv, p, hz⟩ := I.tuple hq
    obtain ⟨u, hu, ru⟩ := rv.get hx
    obtain ⟨f0, f1, f2, f3, f4, f5⟩ := hf it (by simp)
    refine wpAny_pyNext_tuple_item st (show s.heap.IsTuple a its.toArray from p) (x := u) (by simpa using hu) fun h' st' sb => ?_
    have I1 : Inv X pins σ H { s with heap := h' } := I.turned (t' := s.toks) (fun b o hb e => (sb.2 b hb).trans e) f0 f1 f3 f4 f5
    obtain ⟨o, e, c, d⟩ := id st'
    exact ⟨u, rfl, go_of (s := { s with heap := h' }) e c d (by decide) ⟨x, H, I1, ru, ⟨rfl, fun ys hy => by rw [I.tuple_inj hy hq]; exact hx⟩, st', fun b hb => (hf b hb).1⟩⟩
  done := by
    intro X hP hw hK hc i pins s σ H E I hf st hg
    subst hP hw hK
    obtain ⟨xs, hq, hx⟩ := hg
    obtain ⟨its, rv, p, hz⟩ := I.tuple hq
    obtain ⟨f0, f1, f2, f3, f4, f5⟩ := hf it (by simp)
    have hl := rv.length
    exact wpAny_pyNext_tuple_end (I.ok.hd hc) st (show s.heap.IsTuple a its.toArray from p) (by simp; omega) fun h' eb => ⟨rfl, I.turned (t' := s.toks) (fun b o hb e => eb b o hb e) f0 f1 f3 f4 f5⟩
  self := fun _ _ _ _ _ st h => wpAny_pyIter_tupleiter st h
theorem turn_range {P : Program} {w : World} {K : PySem.W.Frag} {tg : Expr} (it : Addr) (lo : Int) (n : Nat) : Turn P w K tg (Itr lo n) [it] it (fun i h => IsRangeIter h it (lo + (i : Nat) * 1) ((n : Int) - (i : Nat)) 1) where
  mem := by simp
  obj := fun i h st b hb => by
    have e : b = it := by simpa using hb
    subst e
    exact ⟨_, st, fun v z => by
      have z' : Data.fields _ = Data.cell v := z
      cases z'⟩
  keep := fun i h h' st k => k it (by simp) _ st
  item := by
    intro X hP hw hK hc i pins s σ H E I hf st hg
    subst hP hw hK
    obtain ⟨f0, f1, f2, f3, f4, f5⟩ := hf it (by simp)
    have W := Walks.range (prog := X.prog) (w := X.w) (I.ok.hd hc) it lo 1 n
    refine W.item i s _ _ hg st fun v h' tk hv st' kk => ?_
    obtain ⟨t, rfl⟩ := hv
    have I1 : Inv X pins σ H { s with heap := h', toks := tk } := I.turned (fun b o hb e => kk b o (by simpa using hb) e) f0 f1 f3 f4 f5
    refine ⟨_, rfl, go_of (s := { s with heap := h', toks := tk }) (n := "range_iterator") st' rfl rfl (by decide) ⟨.int (lo + i), H, I1, ⟨t, ?_⟩, ⟨rfl, rfl⟩, st', fun b hb => (hf b hb).1⟩⟩
    rw [Int.mul_one]
  done := by
    intro X hP hw hK hc i pins s σ H E I hf st hg
    subst hP hw hK
    obtain ⟨f0, f1, f2, f3, f4, f5⟩ := hf it (by simp)
    exact wpAny_pyNext_range_end (I.ok.hd hc) st (by have : n ≤ i := hg; omega) fun h' eb => ⟨rfl, I.turned (t' := s.toks) (fun b o hb e => eb b o hb e) f0 f1 f3 f4 f5⟩
  self := fun _ _ _ _ _ st h => wpAny_pyIter_rangeiter st h
end L2

namespace L2
open PySem PySem.Spec PyProof.Rows
section
variable {X : Cx} {tg : Expr}
/-- a range object just made, walked -/
theorem range_it {pins : List (Addr × Obj)} {σ : St} {H : Hp} {s : Shared} {R : It → Hp → Prop} {E : Value → Shared → Prop} {lo hi : Int} {t u v : Tok} {tk : Nat} (I : Inv X pins σ H s) (h1 : -(2 ^ 62) ≤ lo) (h2 : lo < 2 ^ 62) (h3 : -(2 ^ 62) ≤ hi) (h4 : hi < 2 ^ 62)
    (q : R (Itr lo (hi - lo).toNat) H) : wpAny (model X.prog X.w) X.A (pyIter (.ref s.heap.objs.size)) (PIE X pins σ tg R) E { s with heap := s.heap.push { cls := .type "range", data := .fields #[.int lo t, .int hi u, .int 1 v] }, toks := tk } := by
  refine wpAny_pyIter_range (IsRange.new ..) (small_one h1 h2 h3 h4) ?_
  have I1 : Inv X pins σ H { s with heap := s.heap.push { cls := .type "range", data := .fields #[.int lo t, .int hi u, .int 1 v] }, toks := tk } := I.kept fun b o e => Heap.get?_push_of_some _ e
  refine ⟨(s.heap.push { cls := .type "range", data := .fields #[.int lo t, .int hi u, .int 1 v] }).objs.size, [(s.heap.push { cls := .type "range", data := .fields #[.int lo t, .int hi u, .int 1 v] }).objs.size], _, _, H, rfl,
    I1.kept (t' := tk) fun b o e => Heap.get?_push_of_some _ e, turn_range _ lo (hi - lo).toNat, ?_, fun b hb => ?_, q⟩
  · have e1 : lo + ((0 : Nat) : Int) * 1 = lo := by simp
    have e2 : (((hi - lo).toNat : Nat) : Int) - ((0 : Nat) : Int) = Builtin.Range.rangeSize lo hi 1 := by rw [rangeSize_one]; split <;> omega
    show IsRangeIter _ _ (lo + ((0 : Nat) : Int) * 1) ((((hi - lo).toNat : Nat) : Int) - ((0 : Nat) : Int)) 1
    rw [e1, e2]
    exact Heap.get?_push_size _ rfl
  · have e : b = (s.heap.push { cls := .type "range", data := .fields #[.int lo t, .int hi u, .int 1 v] }).objs.size := by simpa using hb
    subst e
    exact I1.fpOk (Nat.le_refl _) (I1.hok.fresh (Nat.le_refl _))
def iRng1 (ta : TA) : TI := fun σ H R => ta σ H fun vs H1 => ∃ j : Int, vs = [.int j] ∧ -(2 ^ 62) ≤ j ∧ j < 2 ^ 62 ∧ R (Itr 0 j.toNat) H1
theorem pi_range1 {a : Expr} {ta : TA} {p pos : Pos} (hg : Gl X "range") (hm : X.mg "range" = none) (ha : PA X [a] ta) (hs : starEach [a] X.env = [(false, eval a X.env)] := by rfl) : PI X tg (.Call (.Name "range" p) [a] [] pos) (iRng1 ta) := by
  intro pins s σ H R I h
  refine Call_ (ld_blt I hg hm boot_range (PyProof.Rows.callWith_type1 (thn (ha pos pins s σ H _ I h) fun us s1 ⟨vs, H1, I1, r1, q1⟩ => ?_) hs rfl))
  obtain ⟨j, e, q1, q2, q⟩ := q1
  subst e
  cases r1 with
  | cons r rr =>
    cases rr
    obtain ⟨t, rfl⟩ := r
    exact call_range_1 (range_it I1 (by omega) (by omega) q1 q2 (by simpa using q))
/-! ### for -/
/-- W: the invariant by the turn and a measure; N: what the body is to reach -/
def tFor (wi : TI) (g : TG) (tb : TS) : TS := fun D σ H => wi σ H fun J H1 => ∃ W : Nat → Nat → St → Hp → Prop, (∃ m, W 0 m σ H1) ∧ ∀ i m σ H, W i m σ H →
  (J.stop i H ∧ D.nx σ H) ∨ (J.go i H ∧ ∃ N : St → Hp → Prop, (∀ σ' H', N σ' H' → ∃ m', m' < m ∧ W (i + 1) m' σ' H') ∧ ∀ x H', J.yld i H x H' → g x σ H' fun σ2 H2 => tb { D with nx := N, ct := N, bk := D.nx } σ2 H2)
/-- the records at fp as they stand -/
def pinsAt (fp : List Addr) (h : Heap) : List (Addr × Obj) := fp.filterMap fun b => (h.get? b).map fun o => (b, o)
theorem mem_pinsAt {fp : List Addr} {h : Heap} {b : Addr} {o : Obj} (hb : b ∈ fp) (e : h.get? b = some o) : (b, o) ∈ pinsAt fp h := List.mem_filterMap.mpr ⟨b, hb, by rw [e]; rfl⟩
theorem of_pinsAt {fp : List Addr} {h : Heap} {p : Addr × Obj} (hp : p ∈ pinsAt fp h) : p.1 ∈ fp ∧ h.get? p.1 = some p.2 := by
  obtain ⟨b, hb, e⟩ := List.mem_filterMap.mp hp
  cases q : h.get? b with
  | none => rw [q] at e; cases e
  | some o =>
    rw [q] at e
    have e' : (b, o) = p := Option.some.inj e
    subst e'
    exact ⟨hb, q⟩
theorem Inv.pinned {pins : List (Addr × Obj)} {σ : St} {H : Hp} {s : Shared} {fp : List Addr} (I : Inv X pins σ H s) (hf : ∀ b ∈ fp, FpOk X pins H b) (ho : ∀ b ∈ fp, ∃ o, s.heap.get? b = some o ∧ ∀ v, o.data ≠ .cell v) : Inv X (pins ++ pinsAt fp s.heap) σ H s :=
  I.pins_of fun p hp => (List.mem_append.mp hp).elim (fun z => I.pin p (List.mem_append_right _ z)) fun z => by
    obtain ⟨hb, e⟩ := of_pinsAt z
    obtain ⟨f0, f1, f2, _⟩ := hf p.1 hb
    obtain ⟨o, e', d⟩ := ho p.1 hb
    rw [e] at e'; cases e'
    exact ⟨e, f0, f1, f2, d⟩
theorem Inv.unpinned {pins pl : List (Addr × Obj)} {σ : St} {H : Hp} {s : Shared} (I : Inv X (pins ++ pl) σ H s) : Inv X pins σ H s := I.pins_of fun p hp => I.pin p (List.mem_append_right _ (List.mem_append_left _ hp))
theorem ps_for {iter : Expr} {body : List Stmt} {wi : TI} {g : TG} {tb : TS} {pos : Pos} (hp : PassesOwn (model X.prog X.w) X.A X.env X.xe) (hc : X.calm = true) (hi : PI X tg iter wi) (hg : PG X tg g) (hb : PSs X body tb)
    (hs : ∀ x, foldedSetIterable iter X.env x = pure x := by intro _; rfl) : PS X (.For tg iter body [] pos) (tFor wi g tb) := by
  intro pins s σ H D I h
  refine wpAny_For (thn (hi pins s σ H _ I h) fun v s1 h1 => thn h1 fun itv s2 h2 => ?_) hs
  obtain ⟨it, fp, tn, J, H2, e, I2, T, st2, f2, W, ⟨m0, w0⟩, turn⟩ := h2
  subst e
  -- what stays true of the iterator's objects through the loop
  have stat : ∀ {H' : Hp}, (∀ b ∈ fp, H' b = none) → ∀ b ∈ fp, FpOk X pins H' b := fun hn b hb => ⟨hn b hb, (f2 b hb).2⟩
  refine codeAny_forLoop_any (fun n s' => ∃ i σ' H', Inv X pins σ' H' s' ∧ tn i s'.heap ∧ (∀ b ∈ fp, H' b = none) ∧ W i n σ' H') ?_ m0 ⟨0, σ, H2, I2, st2, fun b hb => (f2 b hb).1, w0⟩
  rintro n s3 ⟨i, σ3, H3, I3, st3, fr3, w3⟩
  rcases turn i n σ3 H3 w3 with ⟨stop, qn⟩ | ⟨go, N, hN, step⟩
  · refine wpAny_passesOwn hp (thn (T.done X rfl rfl rfl hc i pins s3 σ3 H3 X.xe I3 (stat fr3) st3 stop) fun r s4 ⟨hr, I4⟩ => ?_)
    subst hr
    exact wpAny_execs_nil ⟨σ3, H3, I4, qn⟩
  · refine wpAny_passesOwn hp (thn (T.item X rfl rfl rfl hc i pins s3 σ3 H3 X.xe I3 (stat fr3) st3 go) fun r s4 ⟨u, hr, h4⟩ => ?_)
    subst hr
    refine wpAny_passesOwn hp (thn h4 fun _ s5 ⟨x, H5, I5, r5, y5, st5, fr5⟩ => ?_)
    have I5' := I5.pinned (stat fr5) (T.obj _ _ st5)
    refine wpAny_passesOwn hp (thn (hg _ s5 σ3 H5 x u _ I5' r5 (step x H5 y5)) fun _ s6 ⟨σ6, H6, I6, q6⟩ => ?_)
    refine wpAny_passesOwn hp (thn (hb _ s6 σ6 H6 _ I6 q6) fun f s7 q7 => ?_)
    have again : ∀ {σ7 : St} {H7 : Hp}, Inv X (pins ++ pinsAt fp s5.heap) σ7 H7 s7 → N σ7 H7 → ∃ m, m < n ∧ ∃ i σ' H', Inv X pins σ' H' s7 ∧ tn i s7.heap ∧ (∀ b ∈ fp, H' b = none) ∧ W i m σ' H' := fun {σ7 H7} I7 n7 => by
      obtain ⟨m', hm, w7⟩ := hN σ7 H7 n7
      refine ⟨m', hm, i + 1, σ7, H7, I7.unpinned, T.keep _ _ _ st5 fun b hb o e => (I7.pin (b, o) (List.mem_append_right _ (List.mem_append_right _ (mem_pinsAt hb e)))).1, fun b hb => ?_, w7⟩
      obtain ⟨o, e, d⟩ := T.obj _ _ st5 b hb
      exact (I7.pin (b, o) (List.mem_append_right _ (List.mem_append_right _ (mem_pinsAt hb e)))).2.1
    cases f with
    | next => obtain ⟨σ7, H7, I7, n7⟩ := q7; exact again I7 n7
    | cont => obtain ⟨σ7, H7, I7, n7⟩ := q7; exact again I7 n7
    | brk => obtain ⟨σ7, H7, I7, q7⟩ := q7; exact ⟨σ7, H7, I7.unpinned, q7⟩
    | ret v => obtain ⟨x7, σ7, H7, I7, r7, q7⟩ := q7; exact ⟨x7, σ7, H7, I7.unpinned, r7, q7⟩
end

/-! ### the forms one uses -/
theorem for_range {lo : Int} {n : Nat} {g : TG} {tb : TS} {D : Ends} {σ : St} {H : Hp} (Pv : Nat → St → Hp → Prop) (h0 : Pv 0 σ H)
    (hs : ∀ i σ H, i < n → Pv i σ H → g (.int (lo + i)) σ H fun σ2 H2 => tb { D with nx := Pv (i + 1), ct := Pv (i + 1), bk := D.nx } σ2 H2) (hd : ∀ σ H, Pv n σ H → D.nx σ H) :
    ∃ W : Nat → Nat → St → Hp → Prop, (∃ m, W 0 m σ H) ∧ ∀ i m σ H, W i m σ H →
      ((Itr lo n).stop i H ∧ D.nx σ H) ∨ ((Itr lo n).go i H ∧ ∃ N : St → Hp → Prop, (∀ σ' H', N σ' H' → ∃ m', m' < m ∧ W (i + 1) m' σ' H') ∧ ∀ x H', (Itr lo n).yld i H x H' → g x σ H' fun σ2 H2 => tb { D with nx := N, ct := N, bk := D.nx } σ2 H2) := by
  refine ⟨fun i m σ H => m = n - i ∧ i ≤ n ∧ Pv i σ H, ⟨n, by simp, Nat.zero_le _, h0⟩, ?_⟩
  rintro i m σ H ⟨rfl, hi, p⟩
  by_cases hlt : i < n
  · refine .inr ⟨hlt, Pv (i + 1), fun σ' H' p' => ⟨n - (i + 1), by omega, rfl, hlt, p'⟩, fun x H' y => ?_⟩
    obtain ⟨e, y⟩ := y
    subst e y
    exact hs i σ _ hlt p
  · have e : i = n := by omega
    subst e
    exact .inl ⟨Nat.le_refl _, hd σ H p⟩
end L2

namespace L2
open PySem PySem.Spec PyProof.Rows

abbrev R2 := V → V → Hp → VK → Prop
/-- a two-place operation on values: f is binaryOp op, inplaceOp op or compareOp op -/
def OpR (X : Cx) (f : Value → Value → Sem Value) (r : R2) : Prop :=
  ∀ (pins : List (Addr × Obj)) (s : Shared) (σ : St) (H : Hp) (x y : V) (v u : Value) (Q : VK), Inv X pins σ H s → RelV x v → RelV y u → r x y H Q →
    wpAny (model X.prog X.w) X.A (f v u) (EP X pins σ Q) X.xe s
/-- a one-place operation -/
def UnR (X : Cx) (f : Value → Sem Value) (r : V → Hp → VK → Prop) : Prop :=
  ∀ (pins : List (Addr × Obj)) (s : Shared) (σ : St) (H : Hp) (x : V) (v : Value) (Q : VK), Inv X pins σ H s → RelV x v → r x H Q →
    wpAny (model X.prog X.w) X.A (f v) (EP X pins σ Q) X.xe s
/-- a call of a value that is known (a builtin, a type) with values -/
def CallR (X : Cx) (f : Value) (r : List V → Hp → VK → Prop) : Prop :=
  ∀ (pins : List (Addr × Obj)) (s : Shared) (σ : St) (H : Hp) (xs : List V) (us : List Value) (Q : VK), Inv X pins σ H s → Vals xs us → r xs H Q →
    wpAny (model X.prog X.w) X.A (call f us) (EP X pins σ Q) X.xe s
def tOp (r : R2) (ta tb : TE) : TE := fun σ H Q => ta σ H fun x H1 => tb σ H1 fun y H2 => r x y H2 Q
def tUn (r : V → Hp → VK → Prop) (ta : TE) : TE := fun σ H Q => ta σ H fun x H1 => r x H1 Q
/-- ints in, under C, and a value out -/
def rI (C : Int → Int → Prop) (g : Int → Int → V) : R2 := fun x y H Q => ∃ i j, x = .int i ∧ y = .int j ∧ C i j ∧ Q (g i j) H
def rI0 (g : Int → Int → V) : R2 := fun x y H Q => ∃ i j, x = .int i ∧ y = .int j ∧ Q (g i j) H
def rU (g : Int → V) : V → Hp → VK → Prop := fun x H Q => ∃ i, x = .int i ∧ Q (g i) H

section
variable {X : Cx} {a b c : Expr} {ta tb tc : TE} {pos : Pos}

theorem binT (ha : PE X a ta) (hb : PE X b tb) {pins : List (Addr × Obj)} {s : Shared} {σ : St} {H : Hp} {R : V → V → Hp → Prop} (I : Inv X pins σ H s)
    (h : ta σ H fun x H1 => tb σ H1 fun y H2 => R x y H2) {Q : Value → Shared → Prop} {f : Value → Value → Sem Value}
    (hf : ∀ v u s2 x y H2, Inv X pins σ H2 s2 → RelV x v → RelV y u → R x y H2 → wpAny (model X.prog X.w) X.A (f v u) Q X.xe s2) :
    wpAny (model X.prog X.w) X.A (eval a X.env) (fun v s₁ => wpAny (model X.prog X.w) X.A (eval b X.env) (fun u s₂ => wpAny (model X.prog X.w) X.A (f v u) Q X.xe s₂) X.xe s₁) X.xe s := by
  refine thn (ha pins s σ H _ I h) fun v s1 ⟨x, H1, I1, r1, q1⟩ => ?_
  refine thn (hb pins s1 σ H1 _ I1 q1) fun u s2 ⟨y, H2, I2, r2, q2⟩ => ?_
  exact hf v u s2 x y H2 I2 r1 r2 q2

theorem pe_op {op : Operator} {r : R2} (ho : OpR X (binaryOp op) r) (ha : PE X a ta) (hb : PE X b tb) : PE X (.BinOp a op b pos) (tOp r ta tb) := by
  intro pins s σ H Q I h
  exact wpAny_BinOp (binT ha hb I h fun v u s2 x y H2 I2 rx ry q => ho pins s2 σ H2 x y v u Q I2 rx ry q)
theorem pe_un {op : UnaryOp} {r : V → Hp → VK → Prop} (ho : UnR X (unaryOp op) r) (ha : PE X a ta) : PE X (.UnaryOp op a pos) (tUn r ta) := by
  intro pins s σ H Q I h
  exact UnaryOp_ (thn (ha pins s σ H _ I h) fun v s1 ⟨x, H1, I1, r1, q1⟩ => ho pins s1 σ H1 x v Q I1 r1 q1)
/-! ### ints -/
theorem opI {f : Value → Value → Sem Value} {C : Int → Int → Prop} {g : Int → Int → Int}
    (rule : ∀ (i j : Int) (t u : Tok) (s : Shared) (Q : Value → Shared → Prop) (E : Value → Shared → Prop), C i j → Q (.int (g i j) s.toks) { s with toks := s.toks + 1 } → wpAny (model X.prog X.w) X.A (f (.int i t) (.int j u)) Q E s) :
    OpR X f (rI C fun i j => .int (g i j)) := by
  intro pins s σ H x y v u Q I rx ry h
  obtain ⟨i, j, rfl, rfl, hc, q⟩ := h
  obtain ⟨t, rfl⟩ := rx
  obtain ⟨t', rfl⟩ := ry
  exact rule i j t t' s _ _ hc ⟨.int (g i j), H, I.tok _, ⟨_, rfl⟩, q⟩
theorem opI0 {f : Value → Value → Sem Value} {g : Int → Int → Int}
    (rule : ∀ (i j : Int) (t u : Tok) (s : Shared) (Q : Value → Shared → Prop) (E : Value → Shared → Prop), Q (.int (g i j) s.toks) { s with toks := s.toks + 1 } → wpAny (model X.prog X.w) X.A (f (.int i t) (.int j u)) Q E s) :
    OpR X f (rI0 fun i j => .int (g i j)) := by
  intro pins s σ H x y v u Q I rx ry h
  obtain ⟨i, j, rfl, rfl, q⟩ := h
  obtain ⟨t, rfl⟩ := rx
  obtain ⟨t', rfl⟩ := ry
  exact rule i j t t' s _ _ ⟨.int (g i j), H, I.tok _, ⟨_, rfl⟩, q⟩
theorem opB0 {f : Value → Value → Sem Value} {g : Int → Int → Bool}
    (rule : ∀ (i j : Int) (t u : Tok) (s : Shared) (Q : Value → Shared → Prop) (E : Value → Shared → Prop), Q (.bool (g i j)) s → wpAny (model X.prog X.w) X.A (f (.int i t) (.int j u)) Q E s) :
    OpR X f (rI0 fun i j => .bl (g i j)) := by
  intro pins s σ H x y v u Q I rx ry h
  obtain ⟨i, j, rfl, rfl, q⟩ := h
  obtain ⟨t, rfl⟩ := rx
  obtain ⟨t', rfl⟩ := ry
  exact rule i j t t' s _ _ ⟨.bl (g i j), H, I, rfl, q⟩

def CPow (i j : Int) : Prop := 0 ≤ j ∧ j ≤ 1000000 ∧ i.natAbs < 2 ^ 64
theorem op_add : OpR X (binaryOp .Add) (rI0 fun i j => .int (i + j)) := opI0 fun _ _ _ _ _ _ _ q => add_int q
theorem op_sub : OpR X (binaryOp .Sub) (rI0 fun i j => .int (i - j)) := opI0 fun _ _ _ _ _ _ _ q => sub_int q
/-- % by a positive divisor of any size -/
theorem op_mod : OpR X (binaryOp .Mod) (rI (fun _ j => 0 < j) fun i j => .int (i % j)) := opI fun i j _ _ _ _ _ hc q => by
  have h1 : (0 : Int) < j := hc
  exact mod_int' (by omega) (by rw [Int.fmod_eq_emod_of_nonneg i (by omega)]; exact q)
theorem op_pow : OpR X (binaryOp .Pow) (rI CPow fun i j => .int (i ^ j.toNat)) := opI fun _ _ _ _ _ _ _ hc q => pow_int_small hc.1 hc.2.1 hc.2.2 q
theorem unI {f : Value → Sem Value} {g : Int → Int}
    (rule : ∀ (i : Int) (t : Tok) (s : Shared) (Q : Value → Shared → Prop) (E : Value → Shared → Prop), Q (.int (g i) s.toks) { s with toks := s.toks + 1 } → wpAny (model X.prog X.w) X.A (f (.int i t)) Q E s) :
    UnR X f (rU fun i => .int (g i)) := by
  intro pins s σ H x v Q I rx h
  obtain ⟨i, rfl, q⟩ := h
  obtain ⟨t, rfl⟩ := rx
  exact rule i t s _ _ ⟨.int (g i), H, I.tok _, ⟨_, rfl⟩, q⟩
theorem un_neg : UnR X (unaryOp .USub) (rU fun i => .int (-i)) := unI fun _ _ _ _ _ q => neg_int q
/-! ### bools among ints: n += (a < b) -/
end

/-! ### comparisons -/
section
variable {X : Cx} {a b c : Expr} {ta tb tc : TE} {pos : Pos}
theorem op_lt : OpR X (compareOp .Lt) (rI0 fun i j => .bl (decide (i < j))) := opB0 fun _ _ _ _ _ _ _ q => lt_int q
theorem op_gt : OpR X (compareOp .Gt) (rI0 fun i j => .bl (decide (j < i))) := opB0 fun _ _ _ _ _ _ _ q => gt_int q
theorem op_ge : OpR X (compareOp .GtE) (rI0 fun i j => .bl (decide (j ≤ i))) := opB0 fun _ _ _ _ _ _ _ q => ge_int q
theorem nomark (b : Expr) {op : CmpOp} (h : op ≠ .In := by decide) (h2 : op ≠ .NotIn := by decide) : behindInMarks op b = false := by
  have e1 : (op == CmpOp.In) = false := by cases op <;> first | rfl | exact absurd rfl h
  have e2 : (op == CmpOp.NotIn) = false := by cases op <;> first | rfl | exact absurd rfl h2
  cases b <;> simp [behindInMarks, e1, e2]
/-- a comparison as a value; hm: nomark b, or (for in, not in) by with_unfolding_all rfl -/
theorem pe_cmpR {op : CmpOp} {r : R2} (ho : OpR X (compareOp op) r) (ha : PE X a ta) (hb : PE X b tb) (hm : behindInMarks op b = false) : PE X (.Compare a [op] [b] pos) (tOp r ta tb) := by
  intro pins s σ H Q I h
  exact wpAny_Compare1 (binT ha hb I h fun v u s2 x y H2 I2 rx ry q => ho pins s2 σ H2 x y v u Q I2 rx ry q) hm
/-- a reading of a value as a test -/
def tTest (t : TE) : TT := fun σ H Q => t σ H fun x H' => ∃ k, x = .bl k ∧ Q k H'
theorem pt_cmpR {op : CmpOp} {r : R2} (ho : OpR X (compareOp op) r) (ha : PE X a ta) (hb : PE X b tb) (hm : behindInMarks op b = false) : PT X (.Compare a [op] [b] pos) (tTest (tOp r ta tb)) := by
  intro pins s σ H Q I h
  refine wpAny_isTrue_Compare1 (thn (ha pins s σ H _ I h) fun v s1 ⟨x, H1, I1, r1, q1⟩ => thn (hb pins s1 σ H1 _ I1 q1) fun u s2 ⟨y, H2, I2, r2, q2⟩ =>
    thn (ho pins s2 σ H2 x y v u _ I2 r1 r2 q2) fun c s3 ⟨z, H3, I3, r3, k, e, q3⟩ => ?_) hm
  subst e
  cases r3
  exact wpAny_truthy_bool ⟨H3, I3, q3⟩
/-! ### truth -/
theorem line63 : (sizeLine : Nat) < 2 ^ 63 := by rw [sizeLine_eq]; decide
/-! ### strs and bytes -/
/-! ### scalar builtins, by CallR -/
theorem vals1 {x : V} {us : List Value} (r : Vals [x] us) : ∃ u, us = [u] ∧ RelV x u := by
  cases r with
  | cons r1 r2 => cases r2; exact ⟨_, rfl, r1⟩
theorem vals2 {x y : V} {us : List Value} (r : Vals [x, y] us) : ∃ u w', us = [u, w'] ∧ RelV x u ∧ RelV y w' := by
  cases r with
  | cons r1 r2 =>
    cases r2 with
    | cons r3 r4 => cases r4; exact ⟨_, _, rfl, r1, r3⟩
theorem call_abs : CallR X (.builtin "abs") (fun xs H Q => ∃ i, xs = [.int i] ∧ Q (.int (if i < 0 then -i else i)) H) := by
  intro pins s σ H xs us Q I r h
  obtain ⟨i, rfl, q⟩ := h
  obtain ⟨u, rfl, t, rfl⟩ := vals1 r
  exact call_abs_int fun u tk => ⟨.int (if i < 0 then -i else i), H, I.tok _, ⟨_, rfl⟩, q⟩
theorem call_max2 (hc : X.calm = true) : CallR X (.builtin "max") (fun xs H Q => ∃ i j, xs = [.int i, .int j] ∧ Q (.int (if j > i then j else i)) H) := by
  intro pins s σ H xs us Q I r h
  obtain ⟨i, j, rfl, q⟩ := h
  obtain ⟨u, w', rfl, ⟨t, rfl⟩, ⟨t', rfl⟩⟩ := vals2 r
  refine max_two_ints (I.ok.hd hc) fun h' tk k => ⟨_, H, I.kept k, ?_, q⟩
  by_cases hj : j > i
  · rw [if_pos hj, if_pos hj]; exact ⟨_, rfl⟩
  · rw [if_neg hj, if_neg hj]; exact ⟨_, rfl⟩
theorem call_min2 (hc : X.calm = true) : CallR X (.builtin "min") (fun xs H Q => ∃ i j, xs = [.int i, .int j] ∧ Q (.int (if j < i then j else i)) H) := by
  intro pins s σ H xs us Q I r h
  obtain ⟨i, j, rfl, q⟩ := h
  obtain ⟨u, w', rfl, ⟨t, rfl⟩, ⟨t', rfl⟩⟩ := vals2 r
  refine min_two_ints (I.ok.hd hc) fun h' tk k => ⟨_, H, I.kept k, ?_, q⟩
  by_cases hj : j < i
  · rw [if_pos hj, if_pos hj]; exact ⟨_, rfl⟩
  · rw [if_neg hj, if_neg hj]; exact ⟨_, rfl⟩
theorem call_int1 : CallR X (.type "int") (fun xs H Q => (∃ i, xs = [.int i] ∧ Q (.int i) H) ∨ ∃ k, xs = [.bl k] ∧ Q (.int (if k then 1 else 0)) H) := by
  intro pins s σ H xs us Q I r h
  rcases h with ⟨i, rfl, q⟩ | ⟨k, rfl, q⟩
  · obtain ⟨u, rfl, t, rfl⟩ := vals1 r
    exact call_int_int ⟨.int i, H, I, ⟨_, rfl⟩, q⟩
  · obtain ⟨u, rfl, r1⟩ := vals1 r
    cases r1
    exact call_int_bool ⟨.int (if k then 1 else 0), H, I.tok _, ⟨_, rfl⟩, q⟩
end
end L2

namespace L2
open PySem PySem.Spec PyProof.Rows

/-! ### an instance, its attributes a map -/
section
variable {prog : Program} {w : World} {A : Around} {E : Value → Shared → Prop} {s : Shared} {K : PySem.W.Frag} {x dx C f : Addr} {mA : Str → Option Value} {name : Str} {v : Value}

end

/-! ### the attributes as a list of pairs -/
section
variable {P : Program} {w : World} {H H' : Hp} {h h' : Heap} {a C dx : Addr} {fs fs' : List (Str × V)}
end

/-! ### what of the text a class must have -/
section
variable {X : Cx} {pins : List (Addr × Obj)} {σ : St} {H : Hp} {s : Shared} {a C dx : Addr} {fs : List (Str × V)} {f : Str} {v : V} {A : Around} {E : Value → Shared → Prop}

end

/-! ### readings and rules -/
section
variable {X : Cx} {o e value : Expr} {f : Str} {pos pos' tpos : Pos} {ta tv : TE}
end

/-! ### isinstance -/
section
variable {X : Cx} {pins : List (Addr × Obj)} {σ : St} {H : Hp} {s : Shared} {A : Around} {E : Value → Shared → Prop} {Q : Value → Shared → Prop} {c : Value} {b : Bool}
end
end L2

namespace L2
open PySem PySem.Spec PyProof.Rows

/-! ### room -/
structure Room (k : Nat) (A : Around) : Prop where
  hd : A.handled = none
  dp : A.depth + 3 * k + 5 < recursionLimit
  un : A.units + 16 * k + 200 < cLine
theorem Room.mono {j k : Nat} {A : Around} (r : Room k A) (h : j ≤ k) : Room j A := ⟨r.hd, by have := r.dp; omega, by have := r.un; omega⟩
theorem Room.deeper {k : Nat} {A : Around} (r : Room (k + 1) A) (env : Env) : Room k (A.deeper env) :=
  ⟨r.hd, by have := r.dp; show A.depth + 1 + 3 * k + 5 < _; omega, by have := r.un; show A.units + 3 + 16 * k + 200 < _; omega⟩
theorem Room.depth {k : Nat} {A : Around} (r : Room k A) : A.depth < recursionLimit := by have := r.dp; omega
theorem Room.units {k : Nat} {A : Around} (r : Room k A) : A.units + 64 < cLine := by have := r.un; omega
/-! ### argument lists and displays -/
def tNil : TA := fun _ H Q => Q [] H
def tCons (ta : TE) (tr : TA) : TA := fun σ H Q => ta σ H fun x H1 => tr σ H1 fun xs H2 => Q (x :: xs) H2
section
variable {X : Cx} {e : Expr} {es : List Expr} {te : TE} {t : TA} {pos : Pos}
theorem pa_nil : PA X [] tNil := fun _ _ _ _ H Q I h => Calls.spliced_nil ⟨[], H, I, .nil, h⟩
theorem pa_cons (ha : PE X e te) (hr : PA X es t) (hs : starEach (e :: es) X.env = (false, eval e X.env) :: starEach es X.env := by rfl) : PA X (e :: es) (tCons te t) := by
  intro pos pins s σ H Q I h
  rw [hs]
  show wpAny _ _ (spliced ((false, eval e X.env) :: backTo pos (starEach es X.env))) _ _ s
  refine Calls.spliced_cons (thn (ha pins s σ H _ I h) fun u s1 ⟨x, H1, I1, r1, q1⟩ => ?_)
  exact thn (hr pos pins s1 σ H1 _ I1 q1) fun us s2 ⟨xs, H2, I2, r2, q2⟩ => ⟨x :: xs, H2, I2, .cons r1 r2, q2⟩

/-- a tuple, a list of written items -/
def tTup (t : TA) : TE := fun σ H Q => t σ H fun xs H1 => xs.length ≤ sizeLine ∧ ∀ p, H1 p = none → Q (.ref p) (upd H1 p (.tup xs))
def tLst (t : TA) : TE := fun σ H Q => t σ H fun xs H1 => xs.length ≤ sizeLine ∧ ∀ p, H1 p = none → Q (.ref p) (upd H1 p (.lst xs))
theorem pe_tup {x1} (h : PA X es t) : PE X (.Tuple es x1 pos) (tTup t) := by
  intro pins s σ H Q I hq
  refine wpAny_Tuple_spliced (thn (h pos pins s σ H _ I hq) fun us s1 ⟨xs, H1, I1, r, z, q⟩ => ⟨by rw [← r.length]; exact z, ?_⟩)
  have hf : H1 s1.heap.objs.size = none := I1.hok.fresh (Nat.le_refl _)
  refine ⟨.ref s1.heap.objs.size, upd H1 s1.heap.objs.size (.tup xs), I1.laid (t' := s1.toks) (fun b u e => Heap.get?_push_of_some _ e) (Nat.le_refl _) ?_, rfl, q _ hf⟩
  exact ⟨z, us, r, ⟨_, Heap.get?_push_size _ rfl, rfl, _, rfl⟩⟩
theorem pe_lst (h : PA X es t) : PE X (.List es pos) (tLst t) := by
  intro pins s σ H Q I hq
  refine wpAny_List_spliced (thn (h pos pins s σ H _ I hq) fun us s1 ⟨xs, H1, I1, r, z, q⟩ => ⟨by rw [← r.length]; exact z, ?_⟩)
  have hf : H1 s1.heap.objs.size = none := I1.hok.fresh (Nat.le_refl _)
  refine ⟨.ref s1.heap.objs.size, upd H1 s1.heap.objs.size (.lst xs), I1.laid (t' := s1.toks) (fun b u e => Heap.get?_push_of_some _ e) (Nat.le_refl _) ?_, rfl, q _ hf⟩
  exact ⟨z, us, 0, r, Heap.get?_push_size _ rfl⟩
end

/-! ### what a def promises -/
/-- a def's promise: the bound arguments in the parameters' order, the heap, the wanted end, the wanted exception -/
abbrev Sp := List V → Hp → VK → XK → Prop
/-- how an exception lies behind a call (file 08 gives it): the callers' frames, abstract heap and state ahead of the call, the wish, the exception, the state -/
abbrev CXT := List Env → Hp → Shared → XK → Value → Shared → Prop

/-- the state at a call -/
structure Env0 (P : Program) (w : World) (K : PySem.W.Frag) (mg : Str → Option Value) (base : Heap) (A : Around) (outer : List Env) (s : Shared) (H : Hp) : Prop where
  frames : A.frames = some outer
  mod : Mod K mg base
  bs : ∀ b o, base.get? b = some o → s.heap.get? b = some o ∧ H b = none
  bsz : base.objs.size ≤ s.heap.objs.size
  funs : s.heap.FunFrames base outer
  frf : ∀ b ∈ frs outer, H b = none
  hok : HOk P w H s.heap
  bare : AllBare s.gens
/-- a call's end -/
def CE (outer : List Env) (P : Program) (w : World) (H : Hp) (s : Shared) (Q : VK) (u : Value) (s' : Shared) : Prop :=
  ∃ v H', s'.os = s.os ∧ AllBare s'.gens ∧ Un (frs outer) [] H H' s.heap s'.heap ∧ HOk P w H' s'.heap ∧ RelV v u ∧ Q v H'
def CR (CX : CXT) (outer : List Env) (P : Program) (w : World) (H : Hp) (s : Shared) (Q : VK) (E : XK) (r : Result) (s' : Shared) : Prop :=
  match r with
  | .ok (.ret u) => CE outer P w H s Q u s'
  | .ok _ => False
  | .error e => CX outer H s E e s'
structure FnOk (P : Program) (w : World) (K : PySem.W.Frag) (mg : Str → Option Value) (base : Heap) (CX : CXT) (k : Nat) (f : Addr) (fd : FuncData) (ps : List Str) (sp : Sp) : Prop where
  len : ∀ vs H Q E, sp vs H Q E → vs.length = ps.length
  run : ∀ (A : Around) (outer : List Env) (s : Shared) (H : Hp) (args : Args) (us : List Value) (vs : List V) (Q : VK) (E : XK), Room k A → Env0 P w K mg base A outer s H → BindsTo s fd args (ps.zip us) → Vals vs us → sp vs H Q E →
    codeAny (model P w) A (.call (.ref f) args) (CR CX outer P w H s Q E) s
/-- a weaker promise -/
theorem FnOk.imp {P : Program} {w : World} {K : PySem.W.Frag} {mg : Str → Option Value} {base : Heap} {CX : CXT} {k : Nat} {f : Addr} {fd : FuncData} {ps : List Str} {sp sp' : Sp} (F : FnOk P w K mg base CX k f fd ps sp)
    (h : ∀ vs H Q E, sp' vs H Q E → sp vs H Q E) : FnOk P w K mg base CX k f fd ps sp' :=
  ⟨fun vs H Q E q => F.len vs H Q E (h _ _ _ _ q), fun A outer s H args us vs Q E hr he hb hv hs => F.run A outer s H args us vs Q E hr he hb hv (h _ _ _ _ hs)⟩

section
variable {X : Cx} {pins : List (Addr × Obj)} {σ : St} {H : Hp} {s s' : Shared}
/-- from a body: what a callee wants -/
theorem Inv.env0 (I : Inv X pins σ H s) : Env0 X.prog X.w X.K X.mg X.base X.A X.stack s H :=
  ⟨I.ok.frames, I.ok.mod, I.bs, Nat.le_trans I.ok.bsz I.sz, I.stack, I.stkFree, I.hok, I.bare⟩
/-- behind a call -/
theorem Inv.after {Q : VK} {u : Value} (I : Inv X pins σ H s) (h : CE X.stack X.prog X.w H s Q u s') : EP X pins σ Q u s' := by
  obtain ⟨v, H', os, bare, un, hok, r, q⟩ := h
  obtain ⟨hh, g, d, t, os'⟩ := s'
  obtain rfl : os' = s.os := os
  exact ⟨v, H', I.call (h' := hh) (g' := g) (d' := d) (t' := t) (ch := []) un hok bare (fun b z => absurd z (by simp)), r, q⟩
end

/-! ### calls -/
/-- f(..): the written arguments, then the defaults dvs; E: what is wanted of an exception -/
def tCall (sp : Sp) (dvs : List V) (E : XK) (t : TA) : TE := fun σ H Q => t σ H fun vs H1 => sp (vs ++ dvs) H1 Q E
/-- how the parameters are bound: us the positional arguments, kw the keywords' values by name, ds the defaults that fill up -/
def Binds (K : PySem.W.Frag) (fd : FuncData) (ps : List Str) (ds : List Value) : Prop :=
  ∀ (s : Shared) (us : List Value), K.In s.heap → (us ++ ds).length = ps.length → BindsTo s fd ⟨us, []⟩ (ps.zip (us ++ ds))
/-- every parameter is given -/
theorem Binds.all {K : PySem.W.Frag} {fd : FuncData} {ps : List Str} (h : ∀ us : List Value, us.length = ps.length → bindArgs fd ⟨us, []⟩ = pure (ps.zip us)) : Binds K fd ps [] := fun s us _ hl => by
  rw [List.append_nil] at hl ⊢
  exact .of_eq (h us hl)

/-- an exception of a callee reaches what this body wants of exceptions -/
def Passes (CX : CXT) (X : Cx) (E : XK) : Prop := ∀ (pins : List (Addr × Obj)) (σ : St) (H : Hp) (s : Shared) (e : Value) (s' : Shared), Inv X pins σ H s → CX X.stack H s E e s' → X.xe e s'

section
variable {X : Cx} {CX : CXT} {k : Nat} {f C : Addr} {fd : FuncData} {ps : List Str} {sp : Sp} {dvs : List V} {ds : List Value} {E : XK} {x m : Str} {p pos apos : Pos} {e o : Expr} {es : List Expr} {ta : TE} {t : TA}

/-- the callee runs -/
theorem run_fn {pins : List (Addr × Obj)} {σ : St} {H : Hp} {s : Shared} {Q : VK} {us : List Value} {vs : List V} (F : FnOk X.prog X.w X.K X.mg X.base CX k f fd ps sp) (hr : Room k X.A) (hb : Binds X.K fd ps ds) (hd : Vals dvs ds) (hx : Passes CX X E)
    (I : Inv X pins σ H s) (r : Vals vs us) (h : sp (vs ++ dvs) H Q E) : wpAny (model X.prog X.w) X.A (call (.ref f) us) (EP X pins σ Q) X.xe s := by
  have r2 : Vals (vs ++ dvs) (us ++ ds) := r.append hd
  have hl : (us ++ ds).length = ps.length := by rw [← r2.length]; exact F.len _ _ _ _ h
  refine wpAny_call (codeAny_mono (F.run X.A X.stack s H ⟨us, []⟩ (us ++ ds) (vs ++ dvs) Q E hr I.env0 (hb s us I.kIn hl) r2 h) fun r s' hq => ?_)
  cases r with
  | error e => exact hx pins σ H s e s' I hq
  | ok fl =>
    cases fl with
    | ret u => exact I.after hq
    | next => exact False.elim hq
    | brk => exact False.elim hq
    | cont => exact False.elim hq

theorem pe_call (F : FnOk X.prog X.w X.K X.mg X.base CX k f fd ps sp) (hr : Room k X.A) (hg : Gl X x) (hm : X.mg x = some (.ref f)) (hk : PySem.W.keepIn X.K (.ref f) = true) (hb : Binds X.K fd ps ds) (hd : Vals dvs ds) (hx : Passes CX X E)
    (ha : PA X (e :: es) t) (hdb : (x == ("__debug__" : Str)) = false := by decide) (he : starEach (e :: es) X.env = (false, eval e X.env) :: starEach es X.env := by rfl) (hpl : (backTo pos (starEach es X.env)).any (·.1) = false := by rfl) :
    PE X (.Call (.Name x p) (e :: es) [] pos) (tCall sp dvs E t) := by
  intro pins s σ H Q I h
  refine wpAny_Call_Name_kw (ld_glob I hg hm ?_ hdb)
  refine PySem.W.callWith_K (h₀ := X.base) I.ok.mod.kin hk (thn (ha pos pins s σ H _ I h) fun us s1 ⟨vs, H1, I1, r, q⟩ => ⟨I1.kIn, ?_⟩) he hpl
  exact run_fn F hr hb hd hx I1 r q
end

/-! ### keywords -/
section
variable {X : Cx} {CX : CXT} {k : Nat} {f C : Addr} {fd : FuncData} {ps ks : List Str} {sp : Sp} {E : XK} {x m : Str} {p pos apos kpos : Pos} {e o : Expr} {es : List Expr} {kws : List Keyword} {te ta : TE} {t tk : TA} {nm : Option Str}
variable {g : List Value → List Value → List Value} {gV : List V → List V → List V}
end

/-! ### a def's body keeps its promise -/
/-- names: the parameters first -/
structure FnScope (N P : List Str) (sc : Scope) : Prop where
  kind : sc.kind = .function
  co : sc.isCoroutine = false
  gen : sc.isGenerator = false
  nd : N.Nodup
  pre : N.take P.length = P
  par : ∀ x ∈ P, sc.names.lookup x = some .local ∨ sc.names.lookup x = some .cell
  nofree : ∀ y ∈ sc.names, y.2 ≠ .free

theorem bindL_out {kindOf : Str → Option NameKind} {x : Str} : ∀ {binds : List (Str × Value)} {m : Str → Option Value}, (∀ v, (x, v) ∉ binds) → bindL kindOf binds m x = m x
  | [], _, _ => rfl
  | (n, v) :: r, m, h => by
    unfold bindL
    rw [bindL_out fun w hw => h w (List.mem_cons_of_mem _ hw)]
    split
    · have : x ≠ n := by rintro rfl; exact h v List.mem_cons_self
      simp [this]
    · rfl
theorem bindC_out {kindOf : Str → Option NameKind} {x : Str} : ∀ {binds : List (Str × Value)} {m : Str → Option Value}, (∀ v, (x, v) ∉ binds) → bindC kindOf binds m x = m x
  | [], _, _ => rfl
  | (n, v) :: r, m, h => by
    unfold bindC
    rw [bindC_out fun w hw => h w (List.mem_cons_of_mem _ hw)]
    split
    · rfl
    · have : x ≠ n := by rintro rfl; exact h v List.mem_cons_self
      simp [this]
theorem bindL_get {kindOf : Str → Option NameKind} {x : Str} {v : Value} : ∀ {P : List Str} {vs : List Value} {i : Nat} {m : Str → Option Value}, P.Nodup → P[i]? = some x → vs[i]? = some v → kindOf x = some .local →
    bindL kindOf (P.zip vs) m x = some v
  | [], _, _, _, _, h, _, _ => by simp at h
  | _ :: _, [], _, _, _, _, h, _ => by simp at h
  | p :: P, w :: vs, 0, m, nd, h1, h2, hk => by
    simp at h1 h2; subst h1; subst h2
    show bindL kindOf ((p, w) :: P.zip vs) m p = _
    unfold bindL
    rw [bindL_out fun v hv => (List.nodup_cons.mp nd).1 (List.of_mem_zip hv).1, if_pos hk]
    simp
  | p :: P, w :: vs, i + 1, m, nd, h1, h2, hk => by
    show bindL kindOf ((p, w) :: P.zip vs) m x = _
    unfold bindL
    exact bindL_get (i := i) (List.nodup_cons.mp nd).2 (by simpa using h1) (by simpa using h2) hk
theorem bindC_get {kindOf : Str → Option NameKind} {x : Str} {v : Value} : ∀ {P : List Str} {vs : List Value} {i : Nat} {m : Str → Option Value}, P.Nodup → P[i]? = some x → vs[i]? = some v → kindOf x ≠ some .local →
    bindC kindOf (P.zip vs) m x = some v
  | [], _, _, _, _, h, _, _ => by simp at h
  | _ :: _, [], _, _, _, _, h, _ => by simp at h
  | p :: P, w :: vs, 0, m, nd, h1, h2, hk => by
    simp at h1 h2; subst h1; subst h2
    show bindC kindOf ((p, w) :: P.zip vs) m p = _
    unfold bindC
    rw [bindC_out fun v hv => (List.nodup_cons.mp nd).1 (List.of_mem_zip hv).1, if_neg hk]
    simp
  | p :: P, w :: vs, i + 1, m, nd, h1, h2, hk => by
    show bindC kindOf ((p, w) :: P.zip vs) m x = _
    unfold bindC
    exact bindC_get (i := i) (List.nodup_cons.mp nd).2 (by simpa using h1) (by simpa using h2) hk

/-- the names' values at the entry -/
def start (N : List Str) (vs : List V) : St := vs.map some ++ List.replicate (N.length - vs.length) none

/-- the context of a def's body, at its entry; an exception leaves the frame, then lies as CX says -/
def cxOf (CX : CXT) (P : Program) (w : World) (K : PySem.W.Frag) (mg : Str → Option Value) (base : Heap) (N : List Str) (qual : Str) (scope : Scope) (f : Addr) (cd : Value) (A : Around) (outer : List Env) (s : Shared) (H : Hp) (E : XK) : Cx where
  prog := P
  w := w
  K := K
  mg := mg
  base := base
  A := A.deeper (envOfC qual scope s.heap.objs.size f cd)
  N := N
  s₀ := s
  H₀ := H
  env := envOfC qual scope s.heap.objs.size f cd
  outer := outer
  stack := envOfC qual scope s.heap.objs.size f cd :: outer
  ex := []
  calm := true
  fn := fun _ => true
  pn := []
  xe := fun e s' => wpAny (model P w) (A.deeper (envOfC qual scope s.heap.objs.size f cd)) (leaving (envOfC qual scope s.heap.objs.size f cd) e) (fun _ s'' => CX outer H s E e s'') (fun e' s'' => CX outer H s E e' s'') s'

theorem cell_has {sc : Scope} {n : Nat} {x : Str} (h : sc.names.lookup x = some .cell) : ∃ c, (cellsFrom n sc.names []).lookup x = some c := by
  have q := PySem.W.cellsFrom_some sc.names n [] (.inl h)
  exact Option.isSome_iff_exists.mp q

theorem inv_start {CX : CXT} {P : Program} {w : World} {K : PySem.W.Frag} {mg : Str → Option Value} {base : Heap} {N ps : List Str} {qual : Str} {scope : Scope} {f : Addr} {cd : Value} {A : Around} {outer : List Env} {s s1 : Shared} {H : Hp} {E : XK} {us : List Value} {vs : List V}
    (S : FnScope N ps scope) (hd : A.handled = none) (e0 : Env0 P w K mg base A outer s H) (hl : vs.length = ps.length) (r : Vals vs us)
    (x : InCallC s s.heap.objs.size (bindL (envOfC qual scope s.heap.objs.size f cd).kindOf (ps.zip us) fun _ => none) (cellsFrom (s.heap.objs.size + 1) scope.names []) (bindC (envOfC qual scope s.heap.objs.size f cd).kindOf (ps.zip us) fun _ => none) s1) :
    Inv (cxOf CX P w K mg base N qual scope f cd A outer s H E) [] (start N vs) H s1 := by
  have hpl : ps.length ≤ N.length := by have := congrArg List.length S.pre; rw [List.length_take] at this; omega
  obtain ⟨h1, tk, rfl, hk⟩ := x.done
  have noA : ∀ b : Addr, b ∉ (cxOf CX P w K mg base N qual scope f cd A outer s H E).ex := fun b z => absurd (show b ∈ ([] : List Addr) from z) (by simp)
  refine ⟨⟨e0.mod, S.kind, rfl, rfl, Nat.le_refl _, fun y z c h1 h2 => ?_, fun y hy => ?_, fun y c _ h => ?_, fun _ => hd, Around.frames_deeper e0.frames, .inr ⟨rfl, rfl⟩, fun b z => absurd z (noA b), e0.bs, e0.bsz, fun b _ _ => noA b, fun b z => absurd z (noA b), e0.funs, e0.frf⟩,
    rfl, e0.bare, Un.kept hk, ⟨_, x.toInCall.ns, fun i y v h1 h2 h3 => ?_⟩, fun y c h => ⟨_, x.cell y c h⟩, e0.hok.fresh (Nat.le_refl _), fun y c h => ?_, fun p hp => absurd (show p ∈ ([] : List (Addr × Obj)) from hp) (by simp), e0.hok.kept hk, ?_⟩
  · exact name_of_addr x.apart (PySem.mem_of_lookup h1) (PySem.mem_of_lookup h2)
  · have hy : scope.names.lookup y = some .cell ∨ scope.names.lookup y = some .free := hy
    rcases hy with hy | hy
    · exact cell_has hy
    · exact absurd rfl (S.nofree _ (PySem.mem_of_lookup hy))
  · exact Nat.le_of_lt (x.above y c (PySem.mem_of_lookup h))
  · have hi : i < vs.length := by
      unfold start at h2
      by_cases hi : i < vs.length
      · exact hi
      · rw [List.getElem?_append_right (by simpa using hi)] at h2
        rw [List.getElem?_replicate] at h2
        split at h2 <;> cases h2
    have ha : vs[i]? = some v := by
      unfold start at h2
      rw [List.getElem?_append_left (by simpa using hi), List.getElem?_map] at h2
      cases e : vs[i]? with
      | none => rw [e] at h2; cases h2
      | some a => rw [e] at h2; cases h2; rfl
    obtain ⟨u, hu, rv⟩ := r.get ha
    have hp : ps[i]? = some y := by
      rw [← S.pre, List.getElem?_take_of_lt (by omega)]; exact h1
    have ndP : ps.Nodup := by rw [← S.pre]; exact S.nd.sublist (List.take_sublist _ _)
    refine ⟨u, rv, ?_⟩
    rcases S.par y (List.mem_of_getElem? hp) with k | k
    · exact .inl ⟨k, bindL_get ndP hp hu k⟩
    · obtain ⟨c, e⟩ := cell_has (n := s.heap.objs.size + 1) k
      refine .inr ⟨.inl k, c, e, ?_⟩
      have q := x.cell y c e
      rw [bindC_get ndP hp hu (by show scope.names.lookup y ≠ _; rw [k]; decide)] at q
      exact q
  · exact e0.hok.fresh (Nat.le_of_lt (x.above y c (PySem.mem_of_lookup h)))
  · unfold start
    show _ = N.length
    rw [List.length_append, List.length_map, List.length_replicate]
    omega

/-- THE RULE: a def (or a method) of the text, by its body. The body's reading t is chosen for each entry; it is run at the parameters' values -/
theorem fn_of {CX : CXT} {P : Program} {w : World} {K : PySem.W.Frag} {mg : Str → Option Value} {base : Heap} {k : Nat} {f : Addr} {name qual : Str} {params : Arguments} {body : List Stmt} {scope : Scope} {dV kV doc pm cdv ct oc : Value} {an od : Option Addr}
    {osl : Array (Option Value)} {N ps : List Str} {sp : Sp} (lk : K.lookup f = some ⟨oc, od, .func (PySem.W.fnOf name qual params body scope dV kV doc pm an cdv ct), osl⟩) (hcd : PySem.W.codeIn K cdv qual = true) (S : FnScope N ps scope)
    (len : ∀ vs H Q E, sp vs H Q E → vs.length = ps.length)
    (hbody : ∀ (A : Around) (outer : List Env) (s : Shared) (H : Hp) (vs : List V) (Q : VK) (E : XK), Room k (A.deeper (envOfC qual scope s.heap.objs.size f cdv)) → sp vs H Q E →
      ∃ t, PSs (cxOf CX P w K mg base N qual scope f cdv A outer s H E) body t ∧ t { nx := fun _ H' => Q .non H', rt := Q } (start N vs) H) :
    FnOk P w K mg base CX (k + 1) f (PySem.W.fnOf name qual params body scope dV kV doc pm an cdv ct) ps sp := by
  refine ⟨len, fun A outer s H args us vs Q E hr e0 hb r hsp => ?_⟩
  have hl := len _ _ _ _ hsp
  have KX : K.In s.heap := e0.mod.kin.keeps fun b o e => (e0.bs b o e).1
  have lim : s.heap.NoLimit := e0.mod.nolimit.keeps fun b o e => (e0.bs b o e).1
  have hkind : ∀ y ∈ ps.zip us, scope.names.lookup y.1 = some .local ∨ (scope.names.lookup y.1 = some .cell ∧ ((cellsFrom (s.heap.objs.size + 1) scope.names []).lookup y.1).isSome = true) := fun ⟨n, v⟩ hy => by
    rcases S.par n (List.of_mem_zip hy).1 with q | q
    · exact .inl q
    · exact .inr ⟨q, PySem.W.cellsFrom_some _ _ _ (.inl q)⟩
  refine codeAny_call_function hr.depth (KX _ _ lk) rfl S.co S.gen rfl (PySem.W.codeRec_of KX hcd) (hb _ _ _ _ ?_)
  refine wpAny_newFunctionEnv_cells S.kind hkind fun env he s1 x => ?_
  subst he
  refine ⟨lim.keeps x.toInCall.keep, codeAny_func ?_⟩
  obtain ⟨t, ht, hq⟩ := hbody A outer s H vs Q E (hr.deeper _) hsp
  have I : Inv (cxOf CX P w K mg base N qual scope f cdv A outer s H E) [] (start N vs) H s1 := inv_start S hr.hd e0 hl r x
  refine wpAny_mono (ht [] s1 (start N vs) H _ I hq) (fun fl s' hs => ?_) fun e s' hs => hs
  have fin : ∀ {σ' : St} {H' : Hp} {v : V} {u : Value}, Inv (cxOf CX P w K mg base N qual scope f cdv A outer s H E) [] σ' H' s' → RelV v u → Q v H' → CE outer P w H s Q u s' :=
    fun {σ' H' v u} J rv q => ⟨v, H', J.os, J.bare, J.base, J.hok, rv, q⟩
  cases fl with
  | ret u =>
    obtain ⟨v, σ', H', J, rv, q⟩ := hs
    exact fin J rv q
  | next =>
    obtain ⟨σ', H', J, q⟩ := hs
    exact fin (v := V.non) (u := Value.none) J rfl q
  | brk =>
    obtain ⟨_, _, _, q⟩ := hs
    exact False.elim q
  | cont =>
    obtain ⟨_, _, _, q⟩ := hs
    exact False.elim q
end L2

namespace L2
open PySem PySem.Spec PyProof.Rows
section
variable {X : Cx} {x : Str} {p pos : Pos} {e : Expr} {es : List Expr} {t : TA} {id T : String} {r : List V → Hp → VK → Prop}

def tCB (r : List V → Hp → VK → Prop) (t : TA) : TE := fun σ H Q => t σ H fun vs H1 => r vs H1 Q
/-- f(e, ..), f a built-in function -/
theorem pe_callB (hc : CallR X (.builtin id) r) (hg : Gl X x) (hm : X.mg x = none) (hv : bootBuiltins x = some (.builtin id)) (ha : PA X (e :: es) t) (hn : x ≠ "__name__" := by decide) (hdb : (x == ("__debug__" : Str)) = false := by decide)
    (he : starEach (e :: es) X.env = (false, eval e X.env) :: starEach es X.env := by rfl) (hpl : (backTo pos (starEach es X.env)).any (·.1) = false := by rfl) : PE X (.Call (.Name x p) (e :: es) [] pos) (tCB r t) := by
  intro pins s σ H Q I h
  refine wpAny_Call_Name_kw (ld_blt I hg hm hv ?_ hn hdb)
  exact PyProof.Rows.callWith_builtin1 (thn (ha pos pins s σ H _ I h) fun us s1 ⟨vs, H1, I1, r1, q1⟩ => hc pins s1 σ H1 vs us Q I1 r1 q1) he hpl
/-- T(e, ..), T a built-in type -/
theorem pe_callTy (hc : CallR X (.type T) r) (hg : Gl X x) (hm : X.mg x = none) (hv : bootBuiltins x = some (.type T)) (ha : PA X (e :: es) t) (hn : x ≠ "__name__" := by decide) (hdb : (x == ("__debug__" : Str)) = false := by decide)
    (he : starEach (e :: es) X.env = (false, eval e X.env) :: starEach es X.env := by rfl) (hpl : (backTo pos (starEach es X.env)).any (·.1) = false := by rfl) : PE X (.Call (.Name x p) (e :: es) [] pos) (tCB r t) := by
  intro pins s σ H Q I h
  refine wpAny_Call_Name_kw (ld_blt I hg hm hv ?_ hn hdb)
  exact PyProof.Rows.callWith_type1 (thn (ha pos pins s σ H _ I h) fun us s1 ⟨vs, H1, I1, r1, q1⟩ => hc pins s1 σ H1 vs us Q I1 r1 q1) he hpl
end
end L2

namespace HT
open PySem PyProof.Rows

section
open PySem.SeqAt
open PySem.AutoSeq1 (wpAny_loadPart')
open PySem.MeetsSeq PySem.MeetsSeq2 PySem.MeetsSeq3

end

section
variable {prog : Program} {w : World} {A : Around} {E : Value → Shared → Prop} {s : Shared}

/-! ### t[a:b], not the whole -/
end
end HT

namespace L2
open PySem PySem.Spec PyProof.Rows

/-! ### the parts of a slice -/
abbrev TO := St → Hp → (Option Int → Hp → Prop) → Prop
section
variable {X : Cx} {e : Expr} {te : TE} {lo hi : Option Expr} {tl th : TO} {pos p2 : Pos}

/-! ### t < u, t + u -/
end
end L2

namespace L2
open PySem PySem.Spec PyProof.Rows

/-! ### places -/
/-- the place that an index of any sign means -/
def ixN (n : Nat) (i : Int) : Option Nat := if 0 ≤ i then (if i < n then some i.toNat else none) else if -(n : Int) ≤ i then some (i + n).toNat else none
def atI {α : Type} (xs : List α) (i : Int) : Option α := (ixN xs.length i).bind fun j => xs[j]?
theorem ixN_seq {n : Nat} {i : Int} {j : Nat} (h : ixN n i = some j) : seqIndex? i n = some j ∧ j < n ∧ -(n : Int) ≤ i ∧ i < n := by
  unfold ixN at h
  by_cases h0 : 0 ≤ i
  · rw [if_pos h0] at h
    by_cases h1 : i < n
    · rw [if_pos h1] at h
      have e : i.toNat = j := Option.some.inj h
      exact ⟨by rw [seqIndex_of h0 h1, e], by omega, by omega, h1⟩
    · rw [if_neg h1] at h; cases h
  · rw [if_neg h0] at h
    by_cases h1 : -(n : Int) ≤ i
    · rw [if_pos h1] at h
      have e : (i + n).toNat = j := Option.some.inj h
      exact ⟨by rw [seqIndex_neg (by omega) h1, e], by omega, h1, by omega⟩
    · rw [if_neg h1] at h; cases h
theorem atI_get {α : Type} {xs : List α} {i : Int} {v : α} (h : atI xs i = some v) : ∃ j, seqIndex? i xs.length = some j ∧ xs[j]? = some v ∧ j < xs.length ∧ -(xs.length : Int) ≤ i ∧ i < xs.length := by
  unfold atI at h
  cases e : ixN xs.length i with
  | none => rw [e] at h; cases h
  | some j =>
    rw [e] at h
    obtain ⟨h1, h2, h3, h4⟩ := ixN_seq e
    exact ⟨j, h1, h, h2, h3, h4⟩
theorem atI_nat {α : Type} {xs : List α} {j : Nat} {v : α} (h : xs[j]? = some v) : atI xs (j : Int) = some v := by
  have hj : j < xs.length := (List.getElem?_eq_some_iff.mp h).1
  have e : ixN xs.length (j : Int) = some j := by
    unfold ixN
    rw [if_pos (by omega), if_pos (by omega)]; simp
  unfold atI; rw [e]; exact h
/-! ### what may be subscripted -/
/-- what stands as an index of a plain subscript -/
def PlainIx (b : Expr) : Prop := ∀ o i, subscripted b false o i = operate [o, i] (getItem o i)
/-- a subscript by values -/
def IxR (X : Cx) (r : R2) : Prop :=
  ∀ (value slice : Expr) (pins : List (Addr × Obj)) (s : Shared) (σ : St) (H : Hp) (x y : V) (v u : Value) (Q : VK), Inv X pins σ H s → RelV x v → RelV y u → r x y H Q →
    subscripted slice false v u = operate [v, u] (getItem v u) → wpAny (model X.prog X.w) X.A (subscriptTail value slice v u) (EP X pins σ Q) X.xe s
/-- a call of a builtin's method by values: the receiver, the arguments -/
def MtR (X : Cx) (id : String) (r : V → List V → Hp → VK → Prop) : Prop :=
  ∀ (pins : List (Addr × Obj)) (s : Shared) (σ : St) (H : Hp) (x : V) (xs : List V) (v : Value) (us : List Value) (Q : VK), Inv X pins σ H s → RelV x v → Vals xs us → r x xs H Q →
    wpAny (model X.prog X.w) X.A (call (.builtin id) (v :: us)) (EP X pins σ Q) X.xe s
section
variable {X : Cx} {a b : Expr} {ta tb : TE} {pos : Pos}
theorem IxR.or {r r' : R2} (h : IxR X r) (h' : IxR X r') : IxR X (fun x y H Q => r x y H Q ∨ r' x y H Q) := by
  intro value slice pins s σ H x y v u Q I rx ry q hs
  rcases q with q | q
  · exact h value slice pins s σ H x y v u Q I rx ry q hs
  · exact h' value slice pins s σ H x y v u Q I rx ry q hs
/-- a[b] -/
theorem pe_ix {r : R2} (hr : IxR X r) (ha : PE X a ta) (hb : PE X b tb) (hs : PlainIx b) : PE X (.Subscript a b pos) (tOp r ta tb) := by
  intro pins s σ H Q I h
  exact Subscript_ (binT ha hb I h fun v u s2 x y H2 I2 rx ry q => hr a b pins s2 σ H2 x y v u Q I2 rx ry q (hs _ _))

def rIxL (K : PySem.W.Frag) : R2 := fun x y H Q => ∃ p xs i v, x = .ref p ∧ y = .int i ∧ SqL K H p xs ∧ atI xs i = some v ∧ Q v H
def rIxT (K : PySem.W.Frag) : R2 := fun x y H Q => ∃ p xs i v, x = .ref p ∧ y = .int i ∧ SqT K H p xs ∧ atI xs i = some v ∧ Q v H
def rIxS : R2 := fun x y H Q => ∃ z i c, x = .str z ∧ y = .int i ∧ z.length ≤ sizeLine ∧ atI z.cps.toList i = some c ∧ Q (.str ⟨#[c]⟩) H
theorem ix_list : IxR X (rIxL X.K) := by
  intro value slice pins s σ H x y v u Q I rx ry h hs
  obtain ⟨p, xs, i, z, rfl, rfl, hq, he, q⟩ := h
  cases rx
  obtain ⟨t, rfl⟩ := ry
  obtain ⟨its, r, pl, hz⟩ := I.list hq
  obtain ⟨j, h1, h2, h3, h4, h5⟩ := atI_get he
  obtain ⟨w, ew, rw'⟩ := r.get h2
  have hl := r.length
  have hn := line63
  have fin : EP X pins σ Q w s := ⟨z, H, I, rw', q⟩
  by_cases h0 : 0 ≤ i
  · have hj : i.toNat = j := by
      rw [seqIndex_of h0 h5] at h1
      exact Option.some.inj h1
    exact item_listR pl.isList h0 (by omega) (by rw [hj]; simpa using ew) fin hs
  · have hj : (i + (its.toArray.size : Int)).toNat = j := by
      rw [seqIndex_neg (by omega) h4] at h1
      rw [List.size_toArray, ← hl]
      exact Option.some.inj h1
    exact subscriptTail_builtinR (x := w) pl.isList.typeIs slot_list_getitem.lookup
      (wpAny_getItem_list_neg (Q := fun r s' => r = w ∧ EP X pins σ Q r s') pl.isList (by omega) (by rw [List.size_toArray] <;> omega) (by omega) (by rw [hj]; simpa using ew) ⟨rfl, fin⟩) hs
theorem ix_tup : IxR X (rIxT X.K) := by
  intro value slice pins s σ H x y v u Q I rx ry h hs
  obtain ⟨p, xs, i, z, rfl, rfl, hq, he, q⟩ := h
  cases rx
  obtain ⟨t, rfl⟩ := ry
  obtain ⟨its, r, pl, hz⟩ := I.tuple hq
  obtain ⟨j, h1, h2, h3, h4, h5⟩ := atI_get he
  obtain ⟨w, ew, rw'⟩ := r.get h2
  have hl := r.length
  have hn := line63
  have fin : EP X pins σ Q w s := ⟨z, H, I, rw', q⟩
  exact subscriptTail_builtinR (x := w) pl.typeIs slot_tuple_getitem.lookup
    (getItem_tuple (j := j) (Q := fun r s' => r = w ∧ EP X pins σ Q r s') pl (by omega) (by omega) (by rw [List.size_toArray, ← hl]; exact h1) (by simpa using ew) ⟨rfl, fin⟩) hs
theorem ix_str : IxR X rIxS := by
  intro value slice pins s σ H x y v u Q I rx ry h hs
  obtain ⟨z, i, c, rfl, rfl, hz, he, q⟩ := h
  obtain ⟨t, rfl⟩ := rx
  obtain ⟨t', rfl⟩ := ry
  obtain ⟨j, h1, h2, h3, h4, h5⟩ := atI_get he
  have hl : z.cps.toList.length = z.length := by simp [Str.length]
  rw [hl] at h1 h4 h5
  have hn := line63
  exact tail_any (typeIs_str s z t) slot_str_getitem.lookup (getItem_str (c := c) (by
    have e1 : decide (i < -(2 ^ 63 : Int)) = false := decide_eq_false (by omega)
    have e2 : decide (i ≥ 2 ^ 63) = false := decide_eq_false (by omega)
    rw [e1, e2, Bool.or_false]) (by rw [h1]; simpa using h2) ⟨.str ⟨#[c]⟩, H, I.tok _, ⟨_, rfl⟩, q⟩) hs
/-- list, tuple or str -/
def rIx (K : PySem.W.Frag) : R2 := fun x y H Q => rIxL K x y H Q ∨ rIxT K x y H Q ∨ rIxS x y H Q
theorem ix_seq : IxR X (rIx X.K) := ix_list.or (ix_tup.or ix_str)

/-! ### xs[i] = v, any sign -/
/-- the list's object behind a store -/
theorem mapSeq_set (its : List Value) (n j : Nat) (u : Value) : Obj.mapSeq (·.setIfInBounds j u) { cls := .type "list", data := .seq its.toArray n } = { cls := .type "list", data := .seq (its.set j u).toArray n } := by
  simp [Obj.mapSeq]
theorem Inv.lst {pins : List (Addr × Obj)} {σ : St} {H : Hp} {s : Shared} {p : Addr} {xs : List V} (I : Inv X pins σ H s) (h : H p = some (.lst xs)) :
    ∃ (its : List Value) (n : Nat), Vals xs its ∧ s.heap.get? p = some { cls := .type "list", data := .seq its.toArray n } ∧ xs.length ≤ sizeLine := by
  obtain ⟨z, its, n, r, e⟩ := I.hok p _ h
  exact ⟨its, n, r, e, z⟩
/-- the list at p is written by an update of its object -/
theorem Inv.lstUpd {pins : List (Addr × Obj)} {σ : St} {H : Hp} {s : Shared} {p : Addr} {xs ys : List V} {its its' : List Value} {n n' : Nat} {f : Obj → Obj} (I : Inv X pins σ H s) (h : H p = some (.lst xs))
    (ho : s.heap.get? p = some { cls := .type "list", data := .seq its.toArray n }) (hf : f { cls := .type "list", data := .seq its.toArray n } = { cls := .type "list", data := .seq its'.toArray n' }) (r : Vals ys its') (hz : ys.length ≤ sizeLine) (t : Nat) :
    Inv X pins σ (upd H p (.lst ys)) { s with heap := s.heap.update p f, toks := t } := by
  have e : (s.heap.update p f).get? p = some { cls := .type "list", data := .seq its'.toArray n' } := by
    rw [Heap.get?_update_self f ho (by rw [hf] <;> rfl), hf]
  refine I.write (x := p) (e := p) (by rw [h]; trivial) (.inl rfl) (fun b u hb q => (Heap.get?_update_other _ _ (Ne.symm hb)).trans q) ⟨_, e⟩ ?_
  exact ⟨hz, its', n', r, e⟩
def rSetL : V → V → V → Hp → (Hp → Prop) → Prop := fun o i v H Q => ∃ p xs k j, o = .ref p ∧ i = .int k ∧ H p = some (.lst xs) ∧ ixN xs.length k = some j ∧ Q (upd H p (.lst (xs.set j v)))
theorem set_list : PSet X rSetL := by
  intro pins s σ H o i v ov iv u Q I ro ri rv h
  obtain ⟨p, xs, k, j, rfl, rfl, hp, hj, q⟩ := h
  cases ro
  obtain ⟨t, rfl⟩ := ri
  obtain ⟨its, n, r, ho, hz⟩ := I.lst hp
  obtain ⟨h1, h2, h3, h4⟩ := ixN_seq hj
  have hl := r.length
  have hn := line63
  have I' : Inv X pins σ (upd H p (.lst (xs.set j v))) { s with heap := s.heap.update p (Obj.mapSeq (·.setIfInBounds j u)) } :=
    I.lstUpd hp ho (mapSeq_set its n j u) (r.set rv j) (by rw [List.length_set]; exact hz) s.toks
  by_cases h0 : 0 ≤ k
  · have hk : k.toNat = j := by
      rw [seqIndex_of h0 h4] at h1
      exact Option.some.inj h1
    exact PySem.W.ki_setAt ho h0 (by omega) (by rw [List.size_toArray, ← hl]; exact h4) (by rw [hk]; exact ⟨_, I', q⟩)
  · have hk : (k + (its.toArray.size : Int)).toNat = j := by
      rw [seqIndex_neg (by omega) h3] at h1
      rw [List.size_toArray, ← hl]
      exact Option.some.inj h1
    exact PySem.W.ki_setBack ho (by omega) (by rw [List.size_toArray, ← hl]; exact h3) (by omega) (by rw [hk]; exact ⟨_, I', q⟩)

/-! ### slices -/
/-! ### in, not in: flat items -/
/-! ### len, list(x), tuple(x) of any list or tuple that is read -/
theorem call_len_seq : CallR X (.builtin "len") (fun xs H Q => ∃ p ys, xs = [.ref p] ∧ (SqL X.K H p ys ∨ SqT X.K H p ys) ∧ Q (.int ys.length) H) := by
  intro pins s σ H xs us Q I r h
  obtain ⟨p, ys, rfl, hq, q⟩ := h
  obtain ⟨u, rfl, rx⟩ := vals1 r
  cases rx
  have hn := line63
  rcases hq with hq | hq
  · obtain ⟨its, r', pl, hz⟩ := I.list hq
    have hlen := r'.length
    exact Calls.call_len_list pl.isList (by simp only [List.size_toArray] <;> omega) ⟨.int ys.length, H, I.tok _, ⟨s.toks + 1, by rw [List.size_toArray, hlen]⟩, q⟩
  · obtain ⟨its, r', pl, hz⟩ := I.tuple hq
    have hlen := r'.length
    exact len_tuple pl (by simp only [List.size_toArray] <;> omega) ⟨.int ys.length, H, I.tok _, ⟨s.toks + 1, by rw [List.size_toArray, hlen]⟩, q⟩
theorem call_len_str : CallR X (.builtin "len") (fun xs H Q => ∃ z, xs = [.str z] ∧ z.length ≤ sizeLine ∧ Q (.int z.length) H) := by
  intro pins s σ H xs us Q I r h
  obtain ⟨z, rfl, hz, q⟩ := h
  obtain ⟨u, rfl, t, rfl⟩ := vals1 r
  have hn := line63
  exact len_str (by omega) ⟨.int z.length, H, I.tok _, ⟨_, rfl⟩, q⟩
theorem CallR.or {f : Value} {r r' : List V → Hp → VK → Prop} (h : CallR X f r) (h' : CallR X f r') : CallR X f (fun xs H Q => r xs H Q ∨ r' xs H Q) := by
  intro pins s σ H xs us Q I rs q
  rcases q with q | q
  · exact h pins s σ H xs us Q I rs q
  · exact h' pins s σ H xs us Q I rs q
/-! ### the call of a builtin's method: o.m(..) -/
variable {o e : Expr} {es : List Expr} {to : TE} {t : TA} {name : Str} {apos cpos : Pos} {T id : String} {r : V → List V → Hp → VK → Prop}
/- xs.append(e), list.index on a module's tuple .. are MtR facts of 06m -/
end
end L2

namespace L2
open PySem PySem.Spec PyProof.Rows

/-! ### lists of values -/
theorem Vals.two : ∀ {x y : V} {us : List Value}, Vals [x, y] us → ∃ u v, us = [u, v] ∧ RelV x u ∧ RelV y v
  | _, _, _, .cons r (.cons q .nil) => ⟨_, _, rfl, r, q⟩
section
variable {X : Cx} {pins : List (Addr × Obj)} {σ : St} {H : Hp} {s : Shared} {l b : Addr} {xs ys zs : List V}

/-! ### the two steps: a tracked list is rewritten, a new list is laid -/
end

section
variable {X : Cx}

/-! ### methods -/
/-! ### list + list, list += list, list * int -/
/-! ### del xs[i] -/
end

/-! ### xs[a:b] = ys -/
section
variable {prog : Program} {w : World} {A : Around} {E : Value → Shared → Prop} {s : Shared}
end

section
variable {X : Cx}
end
end L2

namespace Att
open PySem PySem.W PySem.Calls PyProof.Rows

/-! ### the script -/
theorem ints_of_wellAll {P : Params} {h : Heap} : ∀ (ns : List Int) (vs : List Value), WellAll P h vs (ns.map WData.int) → IntsAre vs ns := by
  intro ns
  induction ns with
  | nil =>
    intro vs w
    rw [List.map_nil] at w
    cases w
    exact .nil
  | cons n ns ih =>
    intro vs w
    rw [List.map_cons] at w
    cases w with
    | cons a b =>
      cases a
      exact .cons _ _ (ih _ b)

theorem script_of {l : OpenLaw} {n : Nat} (hn : l.most = some n) {P : Params} {h : Heap} {args : List WData} {vals : List Value}
    (hpre : l.row.toRowW.claim.pre args = true) (hwl : WellAll P h vals args) :
    ∃ a vs ns, vals = [Value.ref a] ∧ args = [WData.list (ns.map WData.int)] ∧ h.get? a = some { cls := .type "list", data := .seq vs.toArray } ∧ IntsAre vs ns ∧ ns.length ≤ n := by
  have hsh : WShape.hasAll [] args [.list .int] = true := (pre_splitW hpre).1
  have hc : l.pre.holds [] { args := args } = true := (pre_splitW hpre).2
  obtain ⟨d, r, rfl, h1, h2⟩ := hasAllW_cons hsh
  obtain rfl := hasAllW_nil h2
  obtain ⟨xs, rfl, h3⟩ := hasW_list h1
  obtain ⟨ns, rfl⟩ := items_int h3
  have hlen : ns.length ≤ n := by
    unfold OpenLaw.pre at hc
    have h4 : (WTm.not (.lt (.lit (.int (n : Int))) (.len (.arg 0)))).holds [] { args := [.list (ns.map .int)] } = true := by
      have h4 := (holds_andW hc).1
      rw [hn] at h4
      exact h4
    have h5 := condW_of h4 (w_not (w_lt w_lit (w_len_list (w_arg rfl))))
    rw [List.length_map] at h5
    refine Nat.le_of_not_lt fun q => ?_
    have q' : (n : Int) < ((ns.length : Nat) : Int) := by omega
    first
      | (rw [decide_eq_true q'] at h5; exact absurd h5 (by decide))
      | (simp at h5; omega)
  cases hwl with
  | cons w1 w2 =>
    cases w2
    cases w1 with
    | list ho hall => exact ⟨_, _, ns, rfl, rfl, ho, ints_of_wellAll ns _ hall, hlen⟩

theorem post_true (l : OpenLaw) (args : List WData) : l.row.toRowW.claim.post args (.bool true) args = true :=
  postW_of (r := l.row.toRowW) (X := (true == true))
    (show WShape.has [] (.bool true) .bool = true by first | rfl | decide | simp [WShape.has, WShape.arms, WShape.armsAll])
    (show (WTm.eq .res (.lit (.bool true))).value [] { args := args, res := some (.bool true), after := args } = some (.bool (true == true)) from w_eq_bool (w_res rfl) w_lit) rfl

/-! ### the attachment: holds_open's last premise (the goal 'hc' behind k_head) from a wpAny of the law's body -/
/-- the same from a codeAny of the CALL (for a layer whose function contracts speak of calls) -/
theorem attach_call {l : OpenLaw} {n : Nat} {q : Program} {loose : List Str} {XP : (Str → Option Value) → Heap → Prop} {YP : World → Heap → Prop} {d : DefRec}
    (hn : l.most = some n) (hdf : d.params.defaults = [])
    (call : ∀ (w : World) (s₀ s₁ : Shared) (mg mb : Str → Option Value) (fa : Addr) (o : Obj) (pm cd doc : Value) (a : Addr) (vs : List Value) (ns : List Int),
      Ground q loose [] XP w s₀ mg mb s₁.heap → YP w s₁.heap →
      s₁.heap.get? fa = some o → o.data = .func (docDef d.name d.params d.body d.scope pm cd doc) → s₁.heap.CodeRec cd d.name → mg d.name = some (.ref fa) →
      s₁.heap.get? a = some { cls := .type "list", data := .seq vs.toArray } → IntsAre vs ns → ns.length ≤ n → s₁.gens = #[] →
      codeAny (model l.prog w) callerA (.call (.ref fa) ⟨[.ref a], []⟩) (fun r s' => r = .ok (.ret (.bool true)) ∧ OldK s₁.heap s'.heap ∧ s'.os = s₁.os ∧ AllBare s'.gens) s₁) :
    WalkO q loose XP YP l.row.toRowW d [] (fun f vs => PySem.call f vs) := by
  intro w s₀ s₁ mg mb G Y fa o pm cd doc dV kV ho hd hcd hD hmg hg args vals as hpre hlay hrd hwl hlo
  obtain rfl : dV = .none := Dflts.none hD hdf
  obtain rfl : kV = .none := Dflts.noKw hD
  obtain ⟨a, vs, ns, rfl, rfl, hobj, hints, hlen⟩ := script_of hn hpre hwl
  refine enter_call (codeAny_mono (call w s₀ s₁ mg mb fa o pm cd doc a vs ns G Y ho (fd_plain hd) hcd hmg hobj hints hlen hg) fun r s' hq => ?_)
  obtain ⟨rfl, h2, h3, h4⟩ := hq
  exact ⟨.inl ⟨.bool true, .bool true, [], rfl, fun _ => rfl, .bool true, post_true l _, fun _ => ⟨List.Pairwise.nil, fun _ hm => (nomatch hm)⟩⟩, h2, h3, h4⟩

/-! ### rules over ANY heap (no ledger) from facts about the written part K: the library's own take a ledger (News) for what they write -/
section
variable {prog : Program} {w : World} {A : Around} {E : Value → Shared → Prop} {s : Shared} {K : Frag}

/-! the whole heap as the ledger: makes every rule that writes through a ledger a rule over any heap -/
def ledger (h : Heap) (L d : Addr) : List (Addr × Obj) := (List.range h.objs.size).filterMap fun a => if a = L ∨ a = d then none else (h.get? a).map fun o => (a, o)
end
end Att

namespace L2
open PySem PySem.Spec PyProof.Rows

theorem vals_ints : ∀ {vs : List Value} {ns : List Int}, IntsAre vs ns → Vals (ns.map V.int) vs
  | _, _, .nil => .nil
  | _, _, .cons n t h => .cons ⟨t, rfl⟩ (vals_ints h)

/-- nothing is tracked but the script, known to the object (or it is an object of the module) -/
def Only (H : Hp) : Prop := ∀ b, H b = none ∨ ∃ o xs, H b = some (.frz o (.lst xs))

/-- THE HEAD: the law's promise, at the heap behind the top. F, the promise of the law's def, may use that base is part of the heap (so K.In base, base.Ns mainGlobals mg stand in Mod) -/
theorem law_call {P : Program} {w : World} {K : PySem.W.Frag} {mg mb : Str → Option Value} {CX : CXT} {k : Nat} {fa a : Addr} {fd : FuncData} {x : Str} {sp : Sp} {s₁ : Shared} {vs : List Value} {ns : List Int}
    (KX : K.In s₁.heap) (hns : s₁.heap.Ns mainGlobals mg) (hb : s₁.heap.Ns builtinsNs mb) (hbb : ∀ x : Str, x ≠ "__name__" → mb x = bootBuiltins x) (hlim : s₁.heap.NoLimit) (hg : s₁.gens = #[])
    (ha : s₁.heap.get? a = some { cls := .type "list", data := .seq vs.toArray }) (hi : IntsAre vs ns) (hl : ns.length ≤ sizeLine) (hr : Room k callerA)
    (F : ∀ base : Heap, K.In base → base.Ns mainGlobals mg → FnOk P w K mg base CX k fa fd [x] sp) (hbind : ∀ (s : Shared) (u : Value), BindsTo s fd ⟨[u], []⟩ [(x, u)])
    (hsp : ∀ H : Hp, Only H → SqL K H a (ns.map V.int) → sp [.ref a] H (fun v _ => v = .bl true) fun _ _ _ => False)
    (hCX : ∀ H e s', CX [] H s₁ (fun _ _ _ => False) e s' → False) :
    codeAny (model P w) callerA (.call (.ref fa) ⟨[.ref a], []⟩) (fun r s' => r = .ok (.ret (.bool true)) ∧ OldK s₁.heap s'.heap ∧ s'.os = s₁.os ∧ AllBare s'.gens) s₁ := by
  have rv := vals_ints hi
  have lenV := hi.length
  -- from an abstract heap in which nothing but the script may be tracked
  have core : ∀ H : Hp, Only H → SqL K H a (ns.map V.int) → HOk P w H s₁.heap → (∀ b, H b ≠ none → b = a) → (H a ≠ none → K.lookup a = none) →
      codeAny (model P w) callerA (.call (.ref fa) ⟨[.ref a], []⟩) (fun r s' => r = .ok (.ret (.bool true)) ∧ OldK s₁.heap s'.heap ∧ s'.os = s₁.os ∧ AllBare s'.gens) s₁ := by
    intro H hO hS hok hA hK
    have base_of : ∀ {b : Addr} {o : Obj}, s₁.heap.get? b = some o → H b = none → (hidT s₁.heap H).get? b = some o := fun e n => hidT_get e n
    have noA : ∀ {b : Addr} {o : Obj} {es : Array DictEntry} {ep : Nat}, s₁.heap.get? b = some o → o.data = .dict es ep → H b = none := fun {b o es ep} e d => by
      cases q : H b with
      | none => rfl
      | some u =>
        have e' : b = a := hA b (by rw [q]; simp)
        subst e'
        rw [ha] at e; cases e
        have d' : Data.seq vs.toArray _ = Data.dict es ep := d
        cases d'
    have nsK : ∀ {b : Addr} {m : Str → Option Value}, s₁.heap.Ns b m → (hidT s₁.heap H).Ns b m := fun {b m} ⟨o, es, ep, e, d, r⟩ => ⟨o, es, ep, base_of e (noA e d), d, r⟩
    have hKb : K.In (hidT s₁.heap H) := fun b o e => base_of (KX b o e) (by
      cases q : H b with
      | none => rfl
      | some u =>
        have e' : b = a := hA b (by rw [q]; simp)
        subst e'
        rw [hK (by rw [q]; simp)] at e; cases e)
    have hM : Mod K mg (hidT s₁.heap H) := ⟨hKb, nsK hns, ⟨mb, nsK hb, hbb⟩, let ⟨mc, h1, h2⟩ := hlim; ⟨mc, nsK h1, h2⟩⟩
    have e0 : Env0 P w K mg (hidT s₁.heap H) callerA [] s₁ H := ⟨rfl, hM, fun b o e => of_hidT e, Nat.le_of_eq (hidT_size _ _), trivial, fun b hb => absurd (show b ∈ ([] : List Addr) from hb) (by simp), hok, .of_eq hg⟩
    refine codeAny_mono ((F _ hKb (nsK hns)).run callerA [] s₁ H ⟨[.ref a], []⟩ [.ref a] [.ref a] _ _ hr e0 (hbind s₁ (.ref a)) (.cons rfl .nil) (hsp H hO hS)) fun r s' h => ?_
    cases r with
    | error e => exact (hCX H e s' h).elim
    | ok fl =>
      cases fl with
      | next => exact False.elim h
      | brk => exact False.elim h
      | cont => exact False.elim h
      | ret u =>
        obtain ⟨v, H', os, bare, un, hok', r', q⟩ := h
        have q' : v = .bl true := q
        subst q'
        obtain rfl : u = Value.bool true := r'
        refine ⟨rfl, OldK.of_keep fun b o e => ?_, os, bare⟩
        cases q : H b with
        | none => exact un.keep b o e q (by intro z; exact absurd (show b ∈ ([] : List Addr) from z) (by simp)) (by simp)
        | some u =>
          rcases hO b with z | ⟨ob, xs, z⟩
          · rw [q] at z; cases z
          · have z2 := un.frzs b ob _ z
            obtain ⟨e1, _⟩ := hok b _ z
            obtain ⟨e2, _⟩ := hok' b _ z2
            rw [e] at e1; cases e1
            exact e2
  cases hk : K.lookup a with
  | some o =>
    -- the script is one of the module's own objects
    have e := KX a o hk
    rw [ha] at e
    cases e
    refine core (fun _ => none) (fun _ => .inl rfl) (.inr ⟨_, vs.toArray, _, hk, rfl, rfl, rfl, by rw [List.size_toArray, lenV]; exact hl, by simpa using rv⟩) (fun b u z => by have z' : (none : Option HO) = some u := z; cases z') (fun b z => absurd rfl z) fun z => absurd rfl z
  | none =>
    refine core (fun b => if b = a then some (.frz { cls := .type "list", data := .seq vs.toArray } (.lst (ns.map V.int))) else none) (fun b => ?_) (.inl (.inr ⟨{ cls := .type "list", data := .seq vs.toArray }, if_pos rfl⟩)) (fun b u z => ?_) (fun b z => ?_) fun _ => hk
    · by_cases hb : b = a
      · exact .inr ⟨_, _, if_pos hb⟩
      · exact .inl (if_neg hb)
    · by_cases hb : b = a
      · have z' := (if_pos hb).symm.trans z
        cases z'
        subst hb
        exact ⟨ha, by rw [List.length_map]; exact hl, vs, _, rv, ha⟩
      · have z' := (if_neg hb).symm.trans z
        cases z'
    · by_cases hb : b = a
      · exact hb
      · exact absurd (if_neg hb) z
end L2

namespace L2
open PySem PySem.Spec PyProof.Rows

abbrev KOf {K : PySem.W.Frag} {h : Heap} (_ : K.In h) : PySem.W.Frag := K

/-- the goal that k_head leaves (case hc), from the law's promise. F gives the function object fd (K's own) once, then the promise over every base -/
theorem walk_of {l : PySem.W.OpenLaw} {n k : Nat} {q : Program} {loose : List Str} {XP : (Str → Option Value) → Heap → Prop} {YP : World → Heap → Prop} {d : DefRec} {K : Params → PySem.W.Frag} {CX : World → CXT} {sp : World → Sp} {x : Str}
    (hn : l.most = some n) (hn2 : n ≤ sizeLine) (hdf : d.params.defaults = []) (hr : Room k callerA)
    (hY : ∀ (w : World) (h : Heap), YP w h → (K w.params).In h)
    (F : ∀ (w : World) (mg : Str → Option Value) (fa : Addr) (h : Heap), (K w.params).In h → h.Ns mainGlobals mg → mg d.name = some (.ref fa) →
      ∃ fd : FuncData, (∀ (s : Shared) (u : Value), BindsTo s fd ⟨[u], []⟩ [(x, u)]) ∧
        ∀ base : Heap, (K w.params).In base → base.Ns mainGlobals mg → FnOk l.prog w (K w.params) mg base (CX w) k fa fd [x] (sp w))
    (hsp : ∀ (w : World) (H : Hp) (a : Addr) (ns : List Int), ns.length ≤ n → Only H → SqL (K w.params) H a (ns.map V.int) → sp w [.ref a] H (fun v _ => v = .bl true) fun _ _ _ => False)
    (hCX : ∀ (w : World) (H : Hp) (s : Shared) (e : Value) (s' : Shared), CX w [] H s (fun _ _ _ => False) e s' → False) :
    PySem.W.WalkO q loose XP YP l.row.toRowW d [] (fun f vs => PySem.call f vs) := by
  refine Att.attach_call hn hdf fun w s₀ s₁ mg mb fa o pm cd doc a vs ns G Y ho hd hcd hmg hobj hints hlen hg => ?_
  have KX := hY w _ Y
  obtain ⟨fd, hb, hF⟩ := F w mg fa _ KX G.T.g hmg
  exact law_call KX G.T.g G.T.b G.T.builtins G.T.nolimit hg hobj hints (Nat.le_trans hlen hn2) hr hF hb (fun H hO hS => hsp w H a ns hlen hO hS) fun H e s' => hCX w H s₁ e s'
end L2

/- THE LAST THEOREM (shape; LID, My.* are yours):
   My.Adr: a structure of the addresses that your layer names (classes, functions); My.Txt K t: a structure (Prop) of the equations over K;
   My.txt_mk : {K} {implicit addresses ..} (e1 : nsIn K mainGlobals "law" = some (some (.ref f))) (e2 : K.lookup f = some ⟨oc, od, .func (fnOf "law" "law" params body scope dV kV doc pm an cdv ct), sl⟩) (e3 : codeIn K cdv "law" = true) .. : ∃ t, My.Txt K t

set_option maxRecDepth 100000 in
set_option maxHeartbeats 0 in
theorem PySem.Challenge.cw_LID_holds : PySem.Challenge.rw_LID.Holds := by
  w_on; o_law; k_head; (case hw => w_witness2)
  k_fill
  refine L2.walk_of (l := PySem.Challenge.rw_LID) (n := 63) (k := 40) (x := "script") (CX := fun w => ..) (sp := fun _ => My.sp_law) rfl (by decide) rfl ⟨rfl, by decide, by decide⟩ (fun w h Y => PySem.W.kIn_of Y) ?F ?S ?C
  case F =>
    intro w mg fa h KX G hmg
    have T : ∃ t, My.Txt (L2.KOf KX) t := by
      dsimp only [L2.KOf]                          -- K must stand as «<heap const> w.params» for k_is
      refine' My.txt_mk ?e1 ?e2 ?e3 ..
      (case e1 => PySem.W.k_is)                    -- in the order: a name -> its address -> its object -> its parts
      (case e2 => PySem.W.k_is)
      ..
    obtain ⟨t, T⟩ := T
    have e0 := hmg.symm.trans (PySem.W.mg_of KX G T.law)
    cases e0                                       -- fa is the law's own address
    exact ⟨_, fun s u => .of_eq rfl, fun base kb nb => My.law_fn T kb nb⟩     -- if «.of_eq rfl» comes too early: refine' ⟨_, ?b, fun base kb nb => My.law_fn T kb nb⟩; exact fun s u => .of_eq rfl
  case S => exact fun w H a ns hl hO hS => ..
  case C => exact ..
(the tactic k_is has no namespace: write k_is) -/

/-! SHORT WORDS over the layer: a def of the text, its body, what a loop and a test want. -/
namespace L2
open PySem PySem.Spec PyProof.Rows

/-! ### the text by places -/
def defArgs (s : Stmt) : Arguments := match s with
  | .FunctionDef _ a _ _ _ _ _ _ _ _ => a
  | _ => { posonlyargs := [], args := [], vararg := none, kwonlyargs := [], kw_defaults := [], kwarg := none, defaults := [] }
def defBody (s : Stmt) : List Stmt := match s with
  | .FunctionDef _ _ b _ _ _ _ _ _ _ => b
  | _ => []
def defScope (s : Stmt) : Scope := match s with
  | .FunctionDef _ _ _ _ _ _ sc _ _ _ => sc
  | _ => { kind := .function, names := [], isGenerator := false, isCoroutine := false }

/-! ### no exception leaves a def -/
abbrev CX0 : CXT := fun _ _ _ _ _ _ => False
abbrev E0 : XK := fun _ _ _ => False
theorem pass0 {X : Cx} : Passes CX0 X E0 := fun _ _ _ _ _ _ _ h => h.elim

/-! ### a def (or method) of the text as it stands behind the top -/
structure Fun (K : PySem.W.Frag) (x qual : Str) (st : Stmt) (f : Addr) (fd : FuncData) : Prop where
  ex : ∃ (oc : Value) (od : Option Addr) (kV doc pm : Value) (an : Option Addr) (cdv ct : Value) (osl : Array (Option Value)),
    fd = PySem.W.fnOf x qual (defArgs st) (defBody st) (defScope st) .none kV doc pm an cdv ct ∧ K.lookup f = some ⟨oc, od, .func fd, osl⟩ ∧ PySem.W.codeIn K cdv qual = true
  kp : PySem.W.keepIn K (.ref f) = true
section
variable {P : Program} {w : World} {K : PySem.W.Frag} {mg : Str → Option Value} {base : Heap}
/-- THE RULE for a def: its body as a term of rules, and the reading of that term -/
theorem Fun.ok {x qual : Str} {st : Stmt} {f : Addr} {fd : FuncData} {N ps : List Str} {k : Nat} {sp : Sp} (F : Fun K x qual st f fd) (S : FnScope N ps (defScope st)) (len : ∀ vs H Q E, sp vs H Q E → vs.length = ps.length)
    (hbody : ∀ (cdv : Value) (A : Around) (outer : List Env) (s : Shared) (H : Hp) (vs : List V) (Q : VK) (E : XK), Room k (A.deeper (envOfC qual (defScope st) s.heap.objs.size f cdv)) → sp vs H Q E →
      ∃ t, PSs (cxOf CX0 P w K mg base N qual (defScope st) f cdv A outer s H E).nox (defBody st) t ∧ t { nx := fun _ H' => Q .non H', rt := Q } (start N vs) H) : FnOk P w K mg base CX0 (k + 1) f fd ps sp := by
  obtain ⟨oc, od, kV, doc, pm, an, cdv, ct, osl, rfl, lk, hcd⟩ := F.ex
  refine fn_of lk hcd S len fun A outer s H vs Q E hr hsp => ?_
  obtain ⟨t, h, q⟩ := hbody cdv A outer s H vs Q E hr hsp
  exact ⟨t, h.nox, q⟩
/-- how its arguments bind (no defaults): h is «fun _ _ _ _ _ _ us hl => match us, hl with | [_, _], _ => rfl», one _ a parameter -/
theorem Fun.binds {x qual : Str} {st : Stmt} {f : Addr} {fd : FuncData} {ps : List Str} (F : Fun K x qual st f fd)
    (h : ∀ (kV doc pm : Value) (an : Option Addr) (cdv ct : Value) (us : List Value), us.length = ps.length → bindArgs (PySem.W.fnOf x qual (defArgs st) (defBody st) (defScope st) .none kV doc pm an cdv ct) ⟨us, []⟩ = pure (ps.zip us)) : Binds K fd ps [] := by
  obtain ⟨oc, od, kV, doc, pm, an, cdv, ct, osl, rfl, lk, hcd⟩ := F.ex
  exact .all (h kV doc pm an cdv ct)
theorem fun_mk {x qual : Str} {st : Stmt} {f : Addr} {oc : Value} {od an : Option Addr} {osl : Array (Option Value)} {kV doc pm cdv ct : Value} (l : K.lookup f = some ⟨oc, od, .func (PySem.W.fnOf x qual (defArgs st) (defBody st) (defScope st) .none kV doc pm an cdv ct), osl⟩)
    (c : PySem.W.codeIn K cdv qual = true) (k : PySem.W.keepIn K (.ref f) = true) : Fun K x qual st f (PySem.W.fnOf x qual (defArgs st) (defBody st) (defScope st) .none kV doc pm an cdv ct) := ⟨⟨oc, od, kV, doc, pm, an, cdv, ct, osl, rfl, l, c⟩, k⟩
end
theorem small1000 {n : Nat} (h : n ≤ 1000) : n < sizeLine := Nat.lt_of_le_of_lt h (by decide)

/-! ### expressions in short: the name that stands in the i-th slot -/
section
variable {X : Cx}
theorem pv (i : Nat) {x : Str} {pos : Pos} (hN : X.N[i]? = some x := by rfl) (hv : Vis X.env.scope x := by first | exact Or.inl rfl | exact Or.inr (Or.inl rfl) | exact Or.inr (Or.inr rfl)) (hd : (x == ("__debug__" : Str)) = false := by decide)
    (hcd : (x == ("__classdict__" : Str)) = false := by decide) : PE X (.Name x pos) (tVar i) := pe_var hN hv hd hcd
end

/-! ### tests -/
theorem iteF {A B : Prop} (h : B) : if false = true then A else B := by
  rw [if_neg Bool.false_ne_true]
  exact h
theorem iteT {A B : Prop} (h : A) : if true = true then A else B := by
  rw [if_pos rfl]
  exact h
theorem ite2 {c A B : Prop} [Decidable c] (h1 : c → A) (h2 : ¬ c → B) : if c then A else B := by
  by_cases h : c
  · rw [if_pos h]
    exact h1 h
  · rw [if_neg h]
    exact h2 h
/-! ### heaps -/
/-- all that was tracked is as it was -/
def Same (H H' : Hp) : Prop := ∀ b o, H b = some o → H' b = some o
theorem Same.refl (H : Hp) : Same H H := fun _ _ h => h
theorem Same.trans {H H1 H2 : Hp} (a : Same H H1) (b : Same H1 H2) : Same H H2 := fun c o h => b c o (a c o h)
theorem Same.seq {K : PySem.W.Frag} {H H' : Hp} {a : Addr} {xs : List V} (e : Same H H') (h : SqL K H a xs) : SqL K H' a xs := by
  rcases h with (h | ⟨o, h⟩) | h
  · exact .inl (.inl (e _ _ h))
  · exact .inl (.inr ⟨o, e _ _ h⟩)
  · exact .inr h

end L2

namespace My
/-! whole numbers of at most k bits -/
def Sm (k : Nat) (x : Int) : Prop := x.natAbs < 2 ^ k
theorem Sm.mono {k l : Nat} {x : Int} (h : Sm k x) (e : k ≤ l) : Sm l x := Nat.lt_of_lt_of_le h (Nat.pow_le_pow_right (by decide) e)
theorem Sm.mul {k l : Nat} {x y : Int} (h : Sm k x) (g : Sm l y) : Sm (k + l) (x * y) := by
  unfold Sm at *
  rw [Int.natAbs_mul, Nat.pow_add]
  rcases Nat.eq_zero_or_pos y.natAbs with e | e
  · rw [e, Nat.mul_zero]; exact Nat.mul_pos (Nat.two_pow_pos _) (Nat.two_pow_pos _)
  · exact Nat.lt_of_lt_of_le (Nat.mul_lt_mul_of_pos_right h e) (Nat.mul_le_mul_left _ (Nat.le_of_lt g))
theorem Sm.add {k : Nat} {x y : Int} (h : Sm k x) (g : Sm k y) : Sm (k + 1) (x + y) := by
  unfold Sm at *
  rw [Nat.pow_succ]
  have := Int.natAbs_add_le x y
  omega
theorem Sm.neg {k : Nat} {x : Int} (h : Sm k x) : Sm k (-x) := by
  unfold Sm at *
  rw [Int.natAbs_neg]; exact h
theorem Sm.sub {k : Nat} {x y : Int} (h : Sm k x) (g : Sm k y) : Sm (k + 1) (x - y) := by
  rw [Int.sub_eq_add_neg]; exact h.add g.neg
theorem Sm.le {k : Nat} {x y : Int} (h : Sm k x) (g : y.natAbs ≤ x.natAbs) : Sm k y := Nat.lt_of_le_of_lt g h
theorem Sm.log {k : Nat} {x : Int} (h : Sm k x) (hk : 0 < k) : x.natAbs.log2 < k := by
  by_cases h0 : x.natAbs = 0
  · rw [h0]; exact hk
  · exact (Nat.log2_lt h0).mpr h
/-! the greatest common divisor, gone down by rests -/
theorem gcd_mod (a b : Int) : Int.gcd b (a % b) = Int.gcd a b := by
  have h : a % b = a + b * (-(a / b)) := by
    have := Int.emod_def a b
    rw [this, Int.mul_neg]; omega
  rw [h, Int.gcd_add_mul_left_right, Int.gcd_comm]
theorem gcd_abs (a b : Int) : Int.gcd (if a < 0 then -a else a) (if b < 0 then -b else b) = Int.gcd a b := by
  unfold Int.gcd
  congr 1
  · split <;> omega
  · split <;> omega
theorem gcd_zero (a : Int) (h : 0 ≤ a) : ((Int.gcd a 0 : Nat) : Int) = a := by
  rw [Int.gcd_zero_right]; omega
/-! fractions -/
def sh (t b : Int) : Int := if b < 0 then -((Int.gcd t b : Nat) : Int) else ((Int.gcd t b : Nat) : Int)
theorem sh_ne {t b : Int} (h : b ≠ 0) : sh t b ≠ 0 := by
  have : Int.gcd t b ≠ 0 := fun e => h (Int.gcd_eq_zero_iff.mp e).2
  unfold sh; split <;> omega
theorem sh_abs (t b : Int) : (sh t b).natAbs = Int.gcd t b := by
  unfold sh; split <;> omega
theorem sh_dvd_t (t b : Int) : sh t b ∣ t := by
  unfold sh; split
  · exact Int.neg_dvd.mpr (Int.gcd_dvd_left ..)
  · exact Int.gcd_dvd_left ..
theorem sh_dvd_b (t b : Int) : sh t b ∣ b := by
  unfold sh; split
  · exact Int.neg_dvd.mpr (Int.gcd_dvd_right ..)
  · exact Int.gcd_dvd_right ..
theorem low_num {t b : Int} (h : b ≠ 0) : t.fdiv (sh t b) = (Rat.divInt t b).num := by
  rw [Int.fdiv_eq_ediv_of_dvd (sh_dvd_t t b), Rat.num_divInt, Int.gcd_comm b t]
  unfold sh
  split
  · rename_i h1
    rw [Int.sign_eq_neg_one_of_neg h1, Int.ediv_neg, Int.neg_one_mul, Int.neg_ediv_of_dvd (Int.gcd_dvd_left ..)]
  · rename_i h1
    rw [Int.sign_eq_one_of_pos (by omega), Int.one_mul]
theorem low_den {t b : Int} (h : b ≠ 0) : b.fdiv (sh t b) = ((Rat.divInt t b).den : Int) := by
  rw [Int.fdiv_eq_ediv_of_dvd (sh_dvd_b t b), Rat.den_divInt, if_neg h, Int.gcd_comm b t]
  unfold sh
  split
  · rename_i h1
    rw [Int.ediv_neg, Int.natCast_ediv]
    have e : (b.natAbs : Int) = -b := by omega
    rw [e, Int.neg_ediv_of_dvd (Int.gcd_dvd_right ..)]
  · rename_i h1
    rw [Int.natCast_ediv]
    have e : (b.natAbs : Int) = b := by omega
    rw [e]
theorem num_le (t b : Int) : (Rat.divInt t b).num.natAbs ≤ t.natAbs := by
  by_cases h : b = 0
  · subst h; simp [Rat.divInt_zero]
  · rw [← low_num h, Int.fdiv_eq_ediv_of_dvd (sh_dvd_t t b)]
    have := Int.natAbs_ediv_le_natAbs t (sh t b)
    exact this
theorem den_le {t b : Int} (h : b ≠ 0) : (Rat.divInt t b).den ≤ b.natAbs := by
  rw [Rat.den_divInt, if_neg h]
  exact Nat.div_le_self _ _
def SmQ (k : Nat) (q : Rat) : Prop := Sm k q.num ∧ Sm k (q.den : Int)
theorem den0 (q : Rat) : (q.den : Int) ≠ 0 := by have := q.den_nz; omega
theorem denp (q : Rat) : 0 < (q.den : Int) := by have := q.den_nz; omega
theorem q_add (p q : Rat) : Rat.divInt (p.num * q.den + q.num * p.den) ((p.den : Int) * q.den) = p + q := by
  rw [← Rat.divInt_add_divInt _ _ (den0 p) (den0 q), Rat.num_divInt_den, Rat.num_divInt_den]
theorem q_sub (p q : Rat) : Rat.divInt (p.num * q.den - q.num * p.den) ((p.den : Int) * q.den) = p - q := by
  rw [← Rat.divInt_sub_divInt _ _ (den0 p) (den0 q), Rat.num_divInt_den, Rat.num_divInt_den]
theorem q_mul (p q : Rat) : Rat.divInt (p.num * q.num) ((p.den : Int) * q.den) = p * q := by
  rw [← Rat.divInt_mul_divInt, Rat.num_divInt_den, Rat.num_divInt_den]
theorem q_div (p q : Rat) : Rat.divInt (p.num * q.den) ((p.den : Int) * q.num) = p / q := by
  rw [Rat.div_def, Rat.inv_def, ← Rat.divInt_mul_divInt, Rat.num_divInt_den]
/-! sums of many -/
def W : List Rat → Nat
  | [] => 1
  | q :: r => q.den * W r
def S : List Rat → Rat
  | [] => 0
  | q :: r => q + S r
end My

namespace My
/-- numerator and denominator of so many bits -/
def SmR (n d : Nat) (q : Rat) : Prop := Sm n q.num ∧ Sm d (q.den : Int)
theorem SmR.low {n d : Nat} {t b : Int} (h : Sm n t) (g : Sm d b) (hb : b ≠ 0) : SmR n d (Rat.divInt t b) :=
  ⟨h.le (num_le t b), g.le (by simpa using den_le hb)⟩
theorem num_ne {q : Rat} (h : q ≠ 0) : q.num ≠ 0 := fun e => h (Rat.num_eq_zero.mp e)
theorem less_iff (p q : Rat) : decide (p.num * q.den < q.num * p.den) = decide (p < q) := by
  rw [Bool.eq_iff_iff, decide_eq_true_iff, decide_eq_true_iff, Rat.lt_iff]
end My

/-! ### rules of my own over the layer -/
namespace L2
open PySem PySem.Spec PyProof.Rows
section
variable {X : Cx}
theorem bits_of_sm {x : Int} (h : My.Sm 8000 x) : Builtin.Int.intBits x ≤ 2 ^ 20 := by
  have e : (2 : Nat) ^ 20 = 1048576 := by decide
  have h2 := h.log (by decide)
  unfold Builtin.Int.intBits
  split <;> omega
def CMulB (i j : Int) : Prop := My.Sm 8000 i ∧ My.Sm 8000 j
def CDivB (_ j : Int) : Prop := j ≠ 0 ∧ My.Sm 8000 j
theorem op_mulB : OpR X (binaryOp .Mult) (rI CMulB fun i j => .int (i * j)) := opI fun _ _ _ _ _ _ _ hc q => mul_int q (.of_bits (bits_of_sm hc.1) (bits_of_sm hc.2))
theorem op_fdivB : OpR X (binaryOp .FloorDiv) (rI CDivB fun i j => .int (i.fdiv j)) := opI fun _ _ _ _ _ _ _ hc q =>
  floordiv_int hc.1 q (.inl (PyProof.noPylong_of_log2 (Nat.lt_of_lt_of_le (hc.2.log (by decide)) (by decide))))
/-! isinstance of built-in kinds -/
def kitB (T c : String) : Option Bool := if (Value.type T == Value.type c) = true then some true else if PySem.W.kitMeta c = true then (fastBuiltinMro T).map (·.contains (Value.type c)) else none
theorem kitB_kit (K : PySem.W.Frag) {T c : String} {b : Bool} (h : kitB T c = some b) : PySem.W.kitOne K (.type T) (.type c) = some b := h
def TyV (K : PySem.W.Frag) (H : Hp) (x : V) (T : String) : Prop := match x with
  | .non => T = "NoneType"
  | .bl _ => T = "bool"
  | .int _ => T = "int"
  | .str _ => T = "str"
  | .ref a => (T = "list" ∧ ∃ xs, SqL K H a xs) ∨ (T = "tuple" ∧ ∃ xs, SqT K H a xs) ∨ (T = "dict" ∧ ∃ kvs, H a = some (.dK kvs))
  | _ => False
theorem call_isinst : CallR X (.builtin "isinstance") (fun xs H Q => ∃ x c T b, xs = [x, .ty c] ∧ TyV X.K H x T ∧ kitB T c = some b ∧ Q (.bl b) H) := by
  intro pins s σ H xs us Q I r h
  obtain ⟨x, c, T, b, rfl, ty, e, q⟩ := h
  obtain ⟨u, v, rfl, ru, rv⟩ := Vals.two r
  cases (show v = Value.type c from rv)
  have fin : ∀ tk, EP X pins σ Q (.bool b) { s with toks := tk } := fun tk => ⟨.bl b, H, I.tok tk, rfl, q⟩
  have e' := kitB_kit X.K e
  cases x with
  | non => cases (show T = _ from ty); cases (show u = Value.none from ru); exact PySem.W.kia_one PySem.W.kitx_none I.kIn True.intro e' (fun z => nomatch z) fin
  | bl y => cases (show T = _ from ty); cases (show u = Value.bool y from ru); exact PySem.W.kia_one PySem.W.kitx_bool I.kIn True.intro e' (fun z => nomatch z) fin
  | int i => cases (show T = _ from ty); obtain ⟨t, q'⟩ := (show ∃ t, u = Value.int i t from ru); cases q'; exact PySem.W.kia_one PySem.W.kitx_int I.kIn True.intro e' (fun z => nomatch z) fin
  | str y => cases (show T = _ from ty); obtain ⟨t, q'⟩ := (show ∃ t, u = Value.str y t from ru); cases q'; exact PySem.W.kia_one PySem.W.kitx_str I.kIn True.intro e' (fun z => nomatch z) fin
  | ref a =>
    cases (show u = Value.ref a from ru)
    rcases (show _ ∨ _ ∨ _ from ty) with ⟨rfl, xs, h⟩ | ⟨rfl, xs, h⟩ | ⟨rfl, kvs, h⟩
    · obtain ⟨its, _, ⟨o, n, h1, h2, _⟩, _⟩ := I.list h
      exact PySem.W.kia_one PySem.W.kitx_list I.kIn ⟨o, h1, h2⟩ e' (fun z => nomatch z) fin
    · obtain ⟨its, _, ⟨o, h1, h2, _⟩, _⟩ := I.tuple h
      exact PySem.W.kia_one PySem.W.kitx_tuple I.kIn ⟨o, h1, h2⟩ e' (fun z => nomatch z) fin
    · obtain ⟨_, _, vs, _, p⟩ := (show ObjOk X.prog X.w H s.heap a (.dK kvs) from I.hok a _ h)
      obtain ⟨o, es, ep, h1, h2, _⟩ := p
      exact PySem.W.kia_one PySem.W.kitx_dict I.kIn ⟨o, h1, h2.1⟩ e' (fun z => nomatch z) fin
  | byt _ => exact (show False from ty).elim
  | flt _ => exact (show False from ty).elim
  | ty _ => exact (show False from ty).elim
end
/-! data by the abstract heap; == and != of data -/
mutual
inductive Den (K : PySem.W.Frag) (H : Hp) : V → PyData → Prop
  | non : Den K H .non .none
  | bl (b : Bool) : Den K H (.bl b) (.bool b)
  | int (i : Int) : Den K H (.int i) (.int i)
  | str (x : Str) : Den K H (.str x) (.str x)
  | lst {a : Addr} {xs : List V} {ds : List PyData} : SqL K H a xs → DenAll K H xs ds → Den K H (.ref a) (.list ds)
  | tup {a : Addr} {xs : List V} {ds : List PyData} : SqT K H a xs → DenAll K H xs ds → Den K H (.ref a) (.tuple ds)
  | dct {a : Addr} {kvs : List (Key × V)} : H a = some (.dK kvs) → Den K H (.ref a) (.dict [])
inductive DenAll (K : PySem.W.Frag) (H : Hp) : List V → List PyData → Prop
  | nil : DenAll K H [] []
  | cons {x : V} {xs : List V} {d : PyData} {ds : List PyData} : Den K H x d → DenAll K H xs ds → DenAll K H (x :: xs) (d :: ds)
end
section
variable {X : Cx} {pins : List (Addr × Obj)} {σ : St} {H : Hp} {s : Shared}
mutual
theorem Den.reads (I : Inv X pins σ H s) : ∀ {x : V} {d : PyData} {u : Value}, Den X.K H x d → RelV x u → d.canLay0 = true → ∃ as, Reads s.heap u d as
  | _, _, u, .non, r, _ => by cases (show u = Value.none from r); exact ⟨_, .none⟩
  | _, _, u, .bl b, r, _ => by cases (show u = Value.bool b from r); exact ⟨_, .bool b⟩
  | _, _, u, .int i, r, _ => by obtain ⟨t, q⟩ := (show ∃ t, u = Value.int i t from r); cases q; exact ⟨_, .int i t⟩
  | _, _, u, .str x, r, _ => by obtain ⟨t, q⟩ := (show ∃ t, u = Value.str x t from r); cases q; exact ⟨_, .str x t⟩
  | _, _, u, .lst (a := a) h ds, r, cl => by
    cases (show u = Value.ref a from r)
    obtain ⟨its, rv, ⟨o, n, h1, h2, _, h3⟩, _⟩ := I.list h
    obtain ⟨as, q⟩ := DenAll.reads I ds rv cl
    exact ⟨_, .list h1 h2 h3 (by simpa using q)⟩
  | _, _, u, .tup (a := a) h ds, r, cl => by
    cases (show u = Value.ref a from r)
    obtain ⟨its, rv, ⟨o, h1, h2, n, h3⟩, _⟩ := I.tuple h
    obtain ⟨as, q⟩ := DenAll.reads I ds rv cl
    exact ⟨_, .tuple h1 h2 h3 (by simpa using q)⟩
  | _, _, _, .dct _, _, cl => absurd (show false = true from cl) Bool.false_ne_true
theorem DenAll.reads (I : Inv X pins σ H s) : ∀ {xs : List V} {ds : List PyData} {us : List Value}, DenAll X.K H xs ds → Vals xs us → PyData.canLayAll0 ds = true → ∃ as, ReadsAll s.heap us ds as
  | _, _, _, .nil, .nil, _ => ⟨_, .nil⟩
  | _, d :: ds, _, .cons h t, .cons r rs, cl => by
    have cl' : (d.canLay0 && PyData.canLayAll0 ds) = true := cl
    rw [Bool.and_eq_true] at cl'
    obtain ⟨as, q⟩ := Den.reads I h r cl'.1
    obtain ⟨bs, q'⟩ := DenAll.reads I t rs cl'.2
    exact ⟨_, .cons q q'⟩
end
end
section
variable {X : Cx}
def rEqD (K : PySem.W.Frag) : R2 := fun x y H Q => ∃ dx dy, Den K H x dx ∧ Den K H y dy ∧ dx.canLay0 = true ∧ dy.canLay0 = true ∧ dx.depth ≤ 60 ∧ Q (.bl (PyData.eqv dx dy)) H
def rNeD (K : PySem.W.Frag) : R2 := fun x y H Q => ∃ dx dy, Den K H x dx ∧ Den K H y dy ∧ dx.canLay0 = true ∧ dy.canLay0 = true ∧ dx.depth ≤ 60 ∧ Q (.bl (!PyData.eqv dx dy)) H
theorem op_eqD (hu : X.A.units + 64 < cLine) : OpR X (compareOp .Eq) (rEqD X.K) := by
  intro pins s σ H x y v u Q I rx ry h
  obtain ⟨dx, dy, h1, h2, c1, c2, hd, q⟩ := h
  obtain ⟨as, r1⟩ := h1.reads I rx c1
  obtain ⟨bs, r2⟩ := h2.reads I ry c2
  exact PySem.SeqAt.compareEq_reads r1 r2 c1 c2 (by omega) ⟨.bl _, H, I, rfl, q⟩
theorem op_neD (hu : X.A.units + 64 < cLine) : OpR X (compareOp .NotEq) (rNeD X.K) := by
  intro pins s σ H x y v u Q I rx ry h
  obtain ⟨dx, dy, h1, h2, c1, c2, hd, q⟩ := h
  obtain ⟨as, r1⟩ := h1.reads I rx c1
  obtain ⟨bs, r2⟩ := h2.reads I ry c2
  exact PySem.SeqAt.compareNe_reads r1 r2 c1 c2 (by omega) ⟨.bl _, H, I, rfl, q⟩
/-! xs[::-1] -/
end
/-! what stays when one object is written, or new ones are laid -/
def Kp (p : Addr) (H H' : Hp) : Prop := ∀ b o, b ≠ p → H b = some o → H' b = some o
theorem Kp.upd {p : Addr} {H : Hp} {o : HO} : Kp p H (upd H p o) := fun b u n e => by rw [upd_ne n]; exact e
theorem Kp.trans {p : Addr} {H H1 H2 : Hp} (a : Kp p H H1) (b : Kp p H1 H2) : Kp p H H2 := fun c o n e => b c o n (a c o n e)
theorem Kp.refl {p : Addr} {H : Hp} : Kp p H H := fun _ _ _ e => e
theorem Same.kp {p : Addr} {H H' : Hp} (a : Same H H') : Kp p H H' := fun b o _ e => a b o e
theorem Same.upd {p : Addr} {H : Hp} {o : HO} (h : H p = none) : Same H (upd H p o) := fun b u e => by rw [upd_ne (ne_of_none e h)]; exact e
theorem SqT.same {K : PySem.W.Frag} {H H' : Hp} {a : Addr} {xs : List V} (e : Same H H') (h : SqT K H a xs) : SqT K H' a xs := by
  rcases h with (h | ⟨o, h⟩) | h
  · exact .inl (.inl (e _ _ h))
  · exact .inl (.inr ⟨o, e _ _ h⟩)
  · exact .inr h
theorem at0 {α : Type} {x : α} {xs : List α} : atI (x :: xs) 0 = some x := atI_nat (j := 0) rfl
theorem at1 {α : Type} {x y : α} {xs : List α} : atI (x :: y :: xs) 1 = some y := atI_nat (j := 1) rfl
theorem at2 {α : Type} {x y z : α} {xs : List α} : atI (x :: y :: z :: xs) 2 = some z := atI_nat (j := 2) rfl
end L2

/-! ### list comprehensions of one clause -/
namespace L2
open PySem PySem.Spec PyProof.Rows
/-- the context of a comprehension's block -/
def Cx.block (X : Cx) (scope : Scope) (cl : List (Str × Addr)) (N' : List Str) (s2 : Shared) (H2 : Hp) (fp : List Addr) : Cx where
  prog := X.prog
  w := X.w
  K := X.K
  mg := X.mg
  base := X.base
  A := X.A
  N := N'
  s₀ := s2
  H₀ := H2
  env := compEnvC scope cl s2.heap.objs.size X.env
  outer := X.stack
  stack := X.stack
  ex := fp
  fn := fun _ => false
  calm := X.calm
  pn := []
  xe := fun _ _ => False
section
variable {X : Cx} {pins : List (Addr × Obj)} {σ : St} {H : Hp} {s : Shared} {scope : Scope} {cl : List (Str × Addr)} {N' : List Str} {cap : List (Option Nat)} {fp : List Addr}
end
section
variable {X : Cx} {scope : Scope} {cl : List (Str × Addr)} {N' : List Str} {cap : List (Option Nat)} {elt tg iter : Expr} {ifs : List Expr} {wi : TI} {g : TG} {tt : TT} {te : TE} {pos : Pos}
end
end L2

namespace L2
open PySem PySem.Spec PyProof.Rows
/-! the closure of a comprehension's scope, reckoned -/
/-! name = [.. for ..] -/
section
variable {X : Cx} {scope : Scope} {cl : List (Str × Addr)} {N' : List Str} {cap : List (Option Nat)} {elt tg iter : Expr} {ifs : List Expr} {wi : TI} {g : TG} {tt : TT} {te : TE} {pos spos py : Pos} {y : Str} {i : Nat}
end
/-! the same rules, the part of the top named (within a block) -/
section
variable {X : Cx} {K : PySem.W.Frag}
theorem pg_tupK {pos : Pos} {es : List Expr} {k : Nat} {t : TGs} {n : Nat} (h : X.K = K) (hc : X.calm = true) (hg : PGs X es t)
    (hn : (assignEach es X.env).length = n := by rfl) (hst : (assignEach es X.env).findIdx? (·.1) = none := by rfl) : PG X (.Tuple es k pos) (gTup K n t) := by subst h; exact pg_tup hc hg hn hst
end
end L2

/-! ### what all my laws share: fractions on the heap, the drawing of numbers -/
namespace Prf
open PySem L2 My
abbrev Hpp := L2.Hp
theorem ifD {p : Prop} [Decidable p] {A B : Prop} (h1 : p → A) (h2 : ¬ p → B) : if decide p = true then A else B := by
  by_cases h : p
  · rw [decide_eq_true h]; exact h1 h
  · rw [decide_eq_false h]; exact h2 h
/-! the draw -/
structure StAt (H : Hpp) (p : Addr) : Prop where
  ex : ∃ (c m : Int) (f : Bool), H p = some (.lst [.int c, .int m, .bl f]) ∧ 0 ≤ m ∧ m < 2147483648
theorem StAt.same {H H' : Hpp} {p : Addr} (h : StAt H p) (e : Same H H') : StAt H' p := by
  obtain ⟨c, m, f, h, r⟩ := h.ex; exact ⟨c, m, f, e _ _ h, r⟩
theorem StAt.kp {H H' : Hpp} {p l : Addr} (h : StAt H p) (n : p ≠ l) (e : Kp l H H') : StAt H' p := by
  obtain ⟨c, m, f, h, r⟩ := h.ex; exact ⟨c, m, f, e _ _ n h, r⟩
def sp_begun (K : PySem.W.Frag) : Sp := fun vs H Q _ => ∃ (a : Addr) (ns : List Int) (k : Int), vs = [.ref a, .int k] ∧ SqL K H a (ns.map V.int) ∧ 0 ≤ k ∧ k ≤ 63 ∧ ∀ p H', H p = none → StAt H' p → Kp p H H' → Q (.ref p) H'
def sp_take : Sp := fun vs H Q _ => ∃ (p : Addr) (n : Int), vs = [.ref p, .int n] ∧ StAt H p ∧ 0 < n ∧ Sm 4000 n ∧ ∀ d H', 0 ≤ d → d < n → StAt H' p → Kp p H H' → Q (.int d) H'
def spLaw (K : PySem.W.Frag) : Sp := fun vs H Q _ => ∃ (a : Addr) (ns : List Int), vs = [.ref a] ∧ SqL K H a (ns.map V.int) ∧ ns.length ≤ 63 ∧ ∀ H', Q (.bl true) H'
theorem sm32 {m : Int} (h0 : 0 ≤ m) (h1 : m < 2147483648) : Sm 8000 m := Sm.mono (k := 32) (by unfold Sm; omega) (by decide)
theorem sm_lit {m : Int} (n : Nat) (h : m.natAbs < 2 ^ 64 := by decide) : Sm 8000 m := Sm.mono (k := 64) h (by decide)
theorem sm_gcd {k : Nat} {t b : Int} (h : Sm k b) (hb : b ≠ 0) : Sm k ((Int.gcd t b : Nat) : Int) := by
  have h1 : Int.gcd t b ∣ b.natAbs := Nat.gcd_dvd_right _ _
  have h2 := Nat.le_of_dvd (by omega) h1
  exact h.le (by simpa using h2)
theorem sm_sh {k : Nat} {t b : Int} (h : Sm k b) (hb : b ≠ 0) : Sm k (sh t b) := by
  have h1 : Int.gcd t b ∣ b.natAbs := Nat.gcd_dvd_right _ _
  have h2 := Nat.le_of_dvd (by omega) h1
  exact h.le (by rw [sh_abs]; exact h2)
end Prf

namespace Prf
open PySem L2 My
theorem cpow10 (n : Nat) (h : (n : Int) ≤ 1000000 := by decide) : CPow 10 (n : Int) := ⟨by omega, h, by decide⟩
theorem sm4 (n : Int) (h : n.natAbs < 2 ^ 64 := by decide) : Sm 4000 n := Sm.mono (k := 64) h (by decide)
theorem sm_small {k : Int} (h0 : 0 ≤ k) (h1 : k ≤ 63) : Sm 8000 k := sm32 h0 (by omega)
theorem sm_s20 {k : Int} (h0 : 0 ≤ k) (h1 : k ≤ 63) : Sm 20 k := by unfold Sm; omega
theorem sm_bit (b : Bool) : Sm 8000 (if b = true then (1 : Int) else 0) := by cases b <;> exact sm_lit 0
theorem kit_tt : kitB "tuple" "tuple" = some true := by decide +kernel
theorem kit_ib : kitB "int" "bool" = some false := by decide +kernel
end Prf

/-! ### what the laws of offers share -/
namespace Prf
open PySem L2 My
section
variable {α : Type} {P P' : Addr → α → Prop}
end
def dq (q : Rat) : PyData := .tuple [.int q.num, .int q.den]
theorem sm_of {k : Nat} {z : Int} {B : Nat} (h0 : -(B : Int) ≤ z) (h1 : z ≤ B) (hB : B < 2 ^ k) : Sm k z := by
  unfold Sm; omega
/-! comprehensions by a word -/
end Prf

set_option maxHeartbeats 4000000
/-! ### a layer of plain data over the hand layer: no heaps in the readings -/
namespace L2
open PySem
mutual
theorem Den.same {K : PySem.W.Frag} {F F' : Hp} (e : Same F F') : ∀ {v : V} {x : PyData}, Den K F v x → Den K F' v x
  | _, _, .non => .non
  | _, _, .bl b => .bl b
  | _, _, .int i => .int i
  | _, _, .str x => .str x
  | _, _, .lst h t => .lst (e.seq h) (DenAll.same e t)
  | _, _, .tup h t => .tup (SqT.same e h) (DenAll.same e t)
  | _, _, .dct h => .dct (e _ _ h)
theorem DenAll.same {K : PySem.W.Frag} {F F' : Hp} (e : Same F F') : ∀ {vs : List V} {xs : List PyData}, DenAll K F vs xs → DenAll K F' vs xs
  | _, _, .nil => .nil
  | _, _, .cons h t => .cons (Den.same e h) (DenAll.same e t)
end
section
variable {K : PySem.W.Frag} {F : Hp}
theorem Den.intE {v : V} {i : Int} (h : Den K F v (.int i)) : v = .int i := by cases h; rfl
theorem Den.blE {v : V} {b : Bool} (h : Den K F v (.bool b)) : v = .bl b := by cases h; rfl
theorem Den.tupE {v : V} {xs : List PyData} (h : Den K F v (.tuple xs)) : ∃ a vs, v = .ref a ∧ SqT K F a vs ∧ DenAll K F vs xs := by cases h; exact ⟨_, _, rfl, ‹_›, ‹_›⟩
theorem Den.lstE {v : V} {xs : List PyData} (h : Den K F v (.list xs)) : ∃ a vs, v = .ref a ∧ SqL K F a vs ∧ DenAll K F vs xs := by cases h; exact ⟨_, _, rfl, ‹_›, ‹_›⟩
theorem DenAll.len : ∀ {vs : List V} {xs : List PyData}, DenAll K F vs xs → vs.length = xs.length
  | _, _, .nil => rfl
  | _, _, .cons _ t => congrArg (· + 1) (DenAll.len t)
theorem DenAll.get : ∀ {vs : List V} {xs : List PyData} {i : Nat} {v : V}, DenAll K F vs xs → vs[i]? = some v → ∃ x, xs[i]? = some x ∧ Den K F v x
  | _, _, _, _, .nil, e => by simp at e
  | _, _, 0, _, .cons h _, e => by simp at e; subst e; exact ⟨_, rfl, h⟩
  | _, _, i + 1, v, .cons _ t, e => by
    obtain ⟨x, h1, h2⟩ := DenAll.get (i := i) (v := v) t (by simpa using e)
    exact ⟨x, by simpa using h1, h2⟩
theorem DenAll.at : ∀ {vs : List V} {xs : List PyData} {i : Nat} {x : PyData}, DenAll K F vs xs → xs[i]? = some x → ∃ v, vs[i]? = some v ∧ Den K F v x
  | _, _, _, _, .nil, e => by simp at e
  | _, _, 0, _, .cons h _, e => by simp at e; subst e; exact ⟨_, rfl, h⟩
  | _, _, i + 1, x, .cons _ t, e => by
    obtain ⟨v, h1, h2⟩ := DenAll.at (i := i) (x := x) t (by simpa using e)
    exact ⟨v, by simpa using h1, h2⟩
theorem DenAll.app : ∀ {vs us : List V} {xs ys : List PyData}, DenAll K F vs xs → DenAll K F us ys → DenAll K F (vs ++ us) (xs ++ ys)
  | _, _, _, _, .nil, h => h
  | _, _, _, _, .cons h t, h' => .cons h (DenAll.app t h')
theorem DenAll.atIE {vs : List V} {xs : List PyData} {i : Int} {x : PyData} (h : DenAll K F vs xs) (e : L2.atI xs i = some x) : ∃ v, L2.atI vs i = some v ∧ Den K F v x := by
  unfold L2.atI at *
  rw [h.len]
  cases q : ixN xs.length i with
  | none => rw [q] at e; cases e
  | some j => rw [q] at e; exact DenAll.at h e
end
end L2
namespace Pu
open PySem L2 My Prf
abbrev Frag := PySem.W.Frag
/-- a thing of one's own of several lists and tuples, with their places -/
inductive OT where
  | leaf (x : PyData) | nd (b : Bool) (a : Addr) (k : OT) | nil | cons (h t : OT)
def OT.fp : OT → List Addr
  | .leaf _ => []
  | .nd _ a k => a :: k.fp
  | .nil => []
  | .cons h t => h.fp ++ t.fp
def OT.dat : OT → List PyData
  | .leaf x => [x]
  | .nd true _ k => [.list k.dat]
  | .nd false _ k => [.tuple k.dat]
  | .nil => []
  | .cons h t => h.dat ++ t.dat
inductive SV where
  | d (x : PyData) | own (xs : List PyData) | bor (xs : List PyData) | st | tr (t : OT) | bt (t : OT)
def SV.foot (v : V) : SV → Addr → Prop
  | .own _, a => v = .ref a
  | .tr t, a => a ∈ t.fp
  | _, _ => False
def SV.isRes : SV → Bool
  | .bor _ => false
  | .bt _ => false
  | _ => true
abbrev PEnv := List (Option SV)
/-! worlds -/
structure Wd where
  M : Addr → Prop
  H : Hpp
  F : Hpp
structure Wd.Ok (w : Wd) : Prop where
  sub : Same w.F w.H
  st : ∀ p, w.M p → StAt w.H p
  nf : ∀ p, w.M p → w.F p = none
structure Lw (w w' : Wd) : Prop where
  f : Same w.F w'.F
  h : ∀ b o, w.H b = some o → ¬ w.M b → w'.H b = some o
  m : ∀ b, w.M b → w'.M b
  mn : ∀ b, w'.M b → w.M b ∨ w.H b = none
  dom : ∀ b, w'.H b = none → w.H b = none
structure Le (w w' : Wd) : Prop extends Lw w w' where
  n : ∀ a o, w'.F a = some o → w.F a = some o ∨ w.H a = none
theorem Lw.refl (w : Wd) : Lw w w := ⟨Same.refl _, fun _ _ h _ => h, fun _ h => h, fun _ h => .inl h, fun _ h => h⟩
theorem Le.refl (w : Wd) : Le w w := ⟨Lw.refl w, fun _ _ h => .inl h⟩
theorem Lw.nm {w w' : Wd} (a : Lw w w') {b : Addr} (h : w.H b ≠ none) (n : ¬ w.M b) : ¬ w'.M b := fun z => (a.mn b z).elim n h
theorem Lw.trans {w w1 w2 : Wd} (a : Lw w w1) (b : Lw w1 w2) : Lw w w2 :=
  ⟨a.f.trans b.f, fun c o h n => b.h c o (a.h c o h n) (a.nm (by rw [h]; simp) n), fun c h => b.m c (a.m c h),
   fun c h => (b.mn c h).elim (a.mn c) fun z => .inr (a.dom c z), fun c h => a.dom c (b.dom c h)⟩
theorem Le.trans {w w1 w2 : Wd} (a : Le w w1) (b : Le w1 w2) : Le w w2 :=
  ⟨a.toLw.trans b.toLw, fun c o h => (b.n c o h).elim (a.n c o) fun z => .inr (a.dom c z)⟩
theorem Le.fnone {w w' : Wd} (a : Le w w') {l : Addr} (h : w.F l = none) (h' : w.H l ≠ none) : w'.F l = none := by
  cases q : w'.F l with
  | none => rfl
  | some o => rcases a.n l o q with z | z
              · rw [h] at z; cases z
              · exact absurd z h'
structure Ct where
  K : Frag
  w0 : Wd
  Z : Addr → Prop
def VV (K : Frag) (w : Wd) (v : V) (x : PyData) : Prop := Den K w.F v x ∨ ∃ l vs xs, v = .ref l ∧ x = .list xs ∧ w.H l = some (.lst vs) ∧ ¬ w.M l ∧ DenAll K w.F vs xs
def ho : Bool → List V → HO
  | true, vs => .lst vs
  | false, vs => .tup vs
def Tre (K : Frag) (w : Wd) : OT → List V → Prop
  | .leaf x, vs => ∃ v, vs = [v] ∧ Den K w.F v x
  | .nd b a k, vs => vs = [.ref a] ∧ ∃ us, w.H a = some (ho b us) ∧ Tre K w k us
  | .nil, vs => vs = []
  | .cons h t, vs => ∃ v r, vs = v :: r ∧ Tre K w h [v] ∧ Tre K w t r
theorem Tre.mono {K : Frag} {w w' : Wd} (a : Lw w w') : ∀ {t : OT} {vs : List V}, Tre K w t vs → (∀ a ∈ t.fp, ¬ w.M a) → Tre K w' t vs
  | .leaf _, _, ⟨v, e, h⟩, _ => ⟨v, e, Den.same a.f h⟩
  | .nd _ p _, _, ⟨e, us, h, k⟩, n => ⟨e, us, a.h _ _ h (n p (by simp [OT.fp])), Tre.mono a k fun q hq => n q (by simp [OT.fp, hq])⟩
  | .nil, _, e, _ => e
  | .cons _ _, _, ⟨v, r, e, h, t⟩, n => ⟨v, r, e, Tre.mono a h fun q hq => n q (by simp [OT.fp, hq]), Tre.mono a t fun q hq => n q (by simp [OT.fp, hq])⟩
theorem Tre.sameF {K : Frag} {M : Addr → Prop} {H F F' : Hpp} (e : Same F F') : ∀ {t : OT} {vs : List V}, Tre K ⟨M, H, F⟩ t vs → Tre K ⟨M, H, F'⟩ t vs
  | .leaf _, _, ⟨v, q, h⟩ => ⟨v, q, Den.same e h⟩
  | .nd _ _ _, _, ⟨q, us, h, k⟩ => ⟨q, us, h, Tre.sameF e k⟩
  | .nil, _, q => q
  | .cons _ _, _, ⟨v, r, q, h, t⟩ => ⟨v, r, q, Tre.sameF e h, Tre.sameF e t⟩
def VR (c : Ct) (w : Wd) (v : V) : SV → Prop
  | .d x => Den c.K w.F v x
  | .own xs => ∃ l vs, v = .ref l ∧ w.H l = some (.lst vs) ∧ w.F l = none ∧ ¬ w.M l ∧ c.w0.H l = none ∧ DenAll c.K w.F vs xs
  | .bor xs => Den c.K w.F v (.list xs) ∨ ∃ l vs, v = .ref l ∧ c.w0.H l = some (.lst vs) ∧ ¬ c.w0.M l ∧ DenAll c.K w.F vs xs
  | .st => ∃ p, v = .ref p ∧ w.M p
  | .tr t => Tre c.K w t [v] ∧ ∀ a ∈ t.fp, w.H a ≠ none ∧ w.F a = none ∧ ¬ w.M a ∧ c.w0.H a = none
  | .bt t => Tre c.K ⟨c.w0.M, c.w0.H, w.F⟩ t [v] ∧ ∀ a ∈ t.fp, ¬ c.w0.M a
theorem VR.foot {c : Ct} {w : Wd} {v : V} {a : Addr} : ∀ {s : SV}, VR c w v s → s.foot v a → w.H a ≠ none ∧ w.F a = none ∧ ¬ w.M a ∧ c.w0.H a = none
  | .own _, ⟨l, vs, e, h1, h2, h3, h4, _⟩, f => by
    have : V.ref l = .ref a := e.symm.trans f
    cases this
    exact ⟨by rw [h1]; simp, h2, h3, h4⟩
  | .tr _, h, f => h.2 a f
theorem VV.mono {K : Frag} {w w' : Wd} {v : V} {x : PyData} (a : Lw w w') (h : VV K w v x) : VV K w' v x := by
  rcases h with h | ⟨l, vs, xs, e, e', h1, h2, h3⟩
  · exact .inl (Den.same a.f h)
  · exact .inr ⟨l, vs, xs, e, e', a.h _ _ h1 h2, a.nm (by rw [h1]; simp) h2, DenAll.same a.f h3⟩
theorem VV.den {K : Frag} {w : Wd} {v : V} {x : PyData} (o : w.Ok) (h : VV K w v x) : Den K w.H v x := by
  rcases h with h | ⟨l, vs, xs, e, e', h1, h2, h3⟩
  · exact Den.same o.sub h
  · rw [e, e']; exact .lst (SqL.of h1) (DenAll.same o.sub h3)
theorem VR.mono {c : Ct} {w w' : Wd} {v : V} (a : Le w w') : ∀ {s : SV}, VR c w v s → VR c w' v s
  | .d _, h => Den.same a.f h
  | .own xs, ⟨l, vs, e, h1, h2, h3, h4, h5⟩ => ⟨l, vs, e, a.h _ _ h1 h3, a.fnone h2 (by rw [h1]; simp), a.nm (by rw [h1]; simp) h3, h4, DenAll.same a.f h5⟩
  | .bor xs, .inl h => .inl (Den.same a.f h)
  | .bor xs, .inr ⟨l, vs, e, h1, h2, h3⟩ => .inr ⟨l, vs, e, h1, h2, DenAll.same a.f h3⟩
  | .st, ⟨p, e, h⟩ => ⟨p, e, a.m p h⟩
  | .bt t, ⟨h, o⟩ => ⟨h.sameF a.f, o⟩
  | .tr t, ⟨h, o⟩ => ⟨h.mono a.toLw fun q hq => (o q hq).2.2.1, fun q hq => let ⟨h1, h2, h3, h4⟩ := o q hq; ⟨fun z => h1 (a.dom q z), a.fnone h2 h1, a.nm h1 h3, h4⟩⟩
structure EnvOk (c : Ct) (w : Wd) (env : PEnv) (σ : St) : Prop where
  wok : w.Ok
  le0 : Le c.w0 w
  len : env.length = σ.length
  at' : ∀ (i : Nat) s, env[i]? = some (some s) → ∃ v, σ[i]? = some (some v) ∧ VR c w v s
  own : ∀ (i j : Nat) s t v u a, env[i]? = some (some s) → env[j]? = some (some t) → σ[i]? = some (some v) → σ[j]? = some (some u) → s.foot v a → t.foot u a → i = j
  zf : ∀ a, c.Z a → w.F a = none ∧ w.H a ≠ none ∧ ¬ w.M a
  zo : ∀ a (j : Nat) t u, c.Z a → env[j]? = some (some t) → σ[j]? = some (some u) → ¬ t.foot u a
/-- what is new -/
def New (c : Ct) (env : PEnv) (σ : St) (v : V) (s : SV) : Prop := ∀ a, s.foot v a → (∀ (j : Nat) t u, env[j]? = some (some t) → σ[j]? = some (some u) → ¬ t.foot u a) ∧ ¬ c.Z a
theorem EnvOk.look {c : Ct} {w : Wd} {env : PEnv} {σ : St} (E : EnvOk c w env σ) {j : Nat} {t : SV} {u : V} (h : env[j]? = some (some t)) (hu : σ[j]? = some (some u)) : VR c w u t := by
  obtain ⟨v, h1, h2⟩ := E.at' j t h
  rw [hu] at h1; cases h1; exact h2
theorem EnvOk.fresh {c : Ct} {w : Wd} {env : PEnv} {σ : St} (E : EnvOk c w env σ) {p : Addr} (hp : w.H p = none) : (∀ (j : Nat) t u, env[j]? = some (some t) → σ[j]? = some (some u) → ¬ t.foot u p) ∧ ¬ c.Z p :=
  ⟨fun _ _ _ h hu f => ((E.look h hu).foot f).1 hp, fun z => (E.zf p z).2.1 hp⟩
theorem Lw.hsome {w w' : Wd} (a : Lw w w') {l : Addr} (h : w.H l ≠ none) : w'.H l ≠ none := fun z => h (a.dom l z)
theorem EnvOk.mono {c : Ct} {w w' : Wd} {env : PEnv} {σ : St} (E : EnvOk c w env σ) (ok : w'.Ok) (a : Le w w') : EnvOk c w' env σ :=
  ⟨ok, E.le0.trans a, E.len, fun i s e => let ⟨v, h1, h2⟩ := E.at' i s e; ⟨v, h1, h2.mono a⟩, E.own, fun b z => let ⟨h1, h2, h3⟩ := E.zf b z; ⟨a.fnone h1 h2, a.hsome h2, a.nm h2 h3⟩, E.zo⟩
/-- what an expression comes to -/
structure Res (c : Ct) (w : Wd) (env : PEnv) (σ : St) (w' : Wd) (v : V) (s : SV) : Prop where
  ev : EnvOk c w' env σ
  lw : Lw w w'
  val : VR c w' v s
  new : New c env σ v s
  res : s.isRes = true
theorem Res.data {c : Ct} {w : Wd} {env : PEnv} {σ : St} {v : V} {x : PyData} (E : EnvOk c w env σ) (h : Den c.K w.F v x) : Res c w env σ w v (.d x) :=
  ⟨E, Lw.refl w, h, fun _ e => (nomatch e), rfl⟩
/-- a new tuple -/
def Wd.tup (w : Wd) (p : Addr) (o : HO) : Wd := ⟨w.M, upd w.H p o, upd w.F p o⟩
def Wd.lay (w : Wd) (p : Addr) (o : HO) : Wd := ⟨w.M, upd w.H p o, w.F⟩
theorem Wd.Ok.fnone {w : Wd} (o : w.Ok) {p : Addr} (h : w.H p = none) : w.F p = none := by
  cases q : w.F p with
  | none => rfl
  | some u => have := o.sub p u q; rw [h] at this; cases this
theorem Wd.Ok.mne {w : Wd} (o : w.Ok) {p q : Addr} (h : w.H p = none) (hq : w.M q) : q ≠ p := by
  obtain ⟨c, m, f, e, _⟩ := (o.st q hq).ex
  exact ne_of_none e h
theorem updNone {H : Hpp} {p b : Addr} {o : HO} (h : upd H p o b = none) : H b = none := by
  unfold upd at h; split at h
  · cases h
  · exact h
theorem Wd.tup_ok {w : Wd} {p : Addr} {o : HO} (ok : w.Ok) (h : w.H p = none) : (w.tup p o).Ok :=
  ⟨fun b u e => by
    show upd w.H p o b = some u
    have e' : upd w.F p o b = some u := e
    unfold upd at e' ⊢
    split at e'
    · rename_i z; rw [if_pos z]; exact e'
    · rename_i z; rw [if_neg z]; exact ok.sub b u e',
   fun q hq => (ok.st q hq).same (Same.upd h), fun q hq => by
    show upd w.F p o q = none
    rw [upd_ne (ok.mne h hq)]; exact ok.nf q hq⟩
theorem Wd.lay_ok {w : Wd} {p : Addr} {o : HO} (ok : w.Ok) (h : w.H p = none) : (w.lay p o).Ok :=
  ⟨ok.sub.trans (Same.upd h), fun q hq => (ok.st q hq).same (Same.upd h), ok.nf⟩
theorem Wd.tup_le {w : Wd} {p : Addr} {o : HO} (ok : w.Ok) (h : w.H p = none) : Le w (w.tup p o) :=
  ⟨⟨Same.upd (ok.fnone h), fun b u e _ => Same.upd h b u e, fun _ z => z, fun _ z => .inl z, fun b z => updNone z⟩, fun a u e => by
    have e' : upd w.F p o a = some u := e
    unfold upd at e'
    split at e'
    · rename_i z; rw [z]; exact .inr h
    · exact .inl e'⟩
theorem Wd.lay_le {w : Wd} {p : Addr} {o : HO} (h : w.H p = none) : Le w (w.lay p o) :=
  ⟨⟨Same.refl _, fun b u e _ => Same.upd h b u e, fun _ z => z, fun _ z => .inl z, fun b z => updNone z⟩, fun a u e => .inl e⟩
theorem Res.tup {c : Ct} {w : Wd} {env : PEnv} {σ : St} {p : Addr} {vs : List V} {xs : List PyData} (E : EnvOk c w env σ) (h : w.H p = none) (hd : DenAll c.K w.F vs xs) : Res c w env σ (w.tup p (.tup vs)) (.ref p) (.d (.tuple xs)) :=
  ⟨E.mono (Wd.tup_ok E.wok h) (Wd.tup_le E.wok h), (Wd.tup_le E.wok h).toLw, .tup (SqT.of upd_same) (DenAll.same (Wd.tup_le E.wok h).f hd), fun _ e => (nomatch e), rfl⟩
theorem Res.lst {c : Ct} {w : Wd} {env : PEnv} {σ : St} {p : Addr} {vs : List V} {xs : List PyData} (E : EnvOk c w env σ) (h : w.H p = none) (hd : DenAll c.K w.F vs xs) : Res c w env σ (w.lay p (.lst vs)) (.ref p) (.own xs) :=
  ⟨E.mono (Wd.lay_ok E.wok h) (Wd.lay_le h), (Wd.lay_le h).toLw, ⟨p, vs, rfl, upd_same, E.wok.fnone h, fun z => E.wok.mne h z rfl, E.le0.dom p h, hd⟩,
   fun a f => (by
    have : V.ref p = .ref a := f
    cases this
    exact E.fresh h), rfl⟩
/-- a thing comes to stay -/
theorem Res.frz {c : Ct} {w w1 : Wd} {env : PEnv} {σ : St} {v : V} {xs : List PyData} (R : Res c w env σ w1 v (.own xs)) : ∃ w', w'.H = w1.H ∧ EnvOk c w' env σ ∧ Lw w w' ∧ Den c.K w'.F v (.list xs) := by
  obtain ⟨E, lw, ⟨l, vs, e, h1, h2, h3, h4, h5⟩, new, _⟩ := R
  subst e
  obtain ⟨n1, n2⟩ := new l rfl
  have up : Same w1.F (upd w1.F l (.lst vs)) := Same.upd h2
  have lw' : Lw w1 ⟨w1.M, w1.H, upd w1.F l (.lst vs)⟩ := ⟨up, fun _ _ h _ => h, fun _ h => h, fun _ h => .inl h, fun _ h => h⟩
  refine ⟨⟨w1.M, w1.H, upd w1.F l (.lst vs)⟩, rfl, ⟨⟨fun b u q => ?_, E.wok.st, fun p hp => ?_⟩, ⟨E.le0.toLw.trans lw', fun a u q => ?_⟩, E.len, fun i s q => ?_, E.own, fun a za => ?_, E.zo⟩, lw.trans lw', .lst (SqL.of upd_same) (DenAll.same up h5)⟩
  · have q' : upd w1.F l (.lst vs) b = some u := q
    unfold upd at q'
    split at q'
    · rename_i z; rw [z]; exact h1.trans q'
    · exact E.wok.sub b u q'
  · show upd w1.F l (.lst vs) p = none
    rw [upd_ne (fun z => h3 (by rw [← z]; exact hp))]; exact E.wok.nf p hp
  · have q' : upd w1.F l (.lst vs) a = some u := q
    unfold upd at q'
    split at q'
    · rename_i z; rw [z]; exact .inr h4
    · exact E.le0.n a u q'
  · obtain ⟨v, g1, g2⟩ := E.at' i s q
    refine ⟨v, g1, ?_⟩
    cases s with
    | d x => exact Den.same up g2
    | own ys =>
      obtain ⟨l', us, e', k1, k2, k3, k4, k5⟩ := g2
      subst e'
      refine ⟨l', us, rfl, k1, ?_, k3, k4, DenAll.same up k5⟩
      show upd w1.F l (.lst vs) l' = none
      rw [upd_ne (fun z => n1 i _ _ q g1 (by subst z; rfl))]; exact k2
    | bor ys =>
      rcases g2 with g | ⟨l', us, e', k1, k2, k3⟩
      · exact .inl (Den.same up g)
      · exact .inr ⟨l', us, e', k1, k2, DenAll.same up k3⟩
    | st => exact g2
    | bt t => exact ⟨g2.1.sameF up, g2.2⟩
    | tr t =>
      obtain ⟨k1, k2⟩ := g2
      refine ⟨k1.mono lw' fun p hp => (k2 p hp).2.2.1, fun p hp => ⟨(k2 p hp).1, ?_, (k2 p hp).2.2⟩⟩
      show upd w1.F l (.lst vs) p = none
      rw [upd_ne (fun z => n1 i _ _ q g1 (by subst z; exact hp))]; exact (k2 p hp).2.1
  · obtain ⟨z1, z2, z3⟩ := E.zf a za
    refine ⟨?_, z2, z3⟩
    show upd w1.F l (.lst vs) a = none
    rw [upd_ne (fun z => n2 (by subst z; exact za))]; exact z1
theorem EnvOk.set {c : Ct} {w : Wd} {env : PEnv} {σ : St} {v : V} {s : SV} {i : Nat} (E : EnvOk c w env σ) (h : VR c w v s) (new : New c env σ v s) :
    EnvOk c w (env.set i (some s)) (σ.set i (some v)) := by
  have hl := E.len
  have hd : ∀ {j : Nat} {t : SV} {u : V}, (env.set i (some s))[j]? = some (some t) → (σ.set i (some v))[j]? = some (some u) → (i = j ∧ t = s ∧ u = v) ∨ (i ≠ j ∧ env[j]? = some (some t) ∧ σ[j]? = some (some u)) := by
    intro j t u q q'
    rw [List.getElem?_set] at q q'
    by_cases e : i = j
    · subst e
      rw [if_pos rfl] at q q'
      split at q
      · rename_i z
        rw [if_pos (by omega)] at q'
        cases q; cases q'; exact .inl ⟨rfl, rfl, rfl⟩
      · cases q
    · rw [if_neg e] at q q'
      exact .inr ⟨e, q, q'⟩
  refine ⟨E.wok, E.le0, by simpa using hl, fun j t q => ?_, fun j k s1 t1 v1 u1 a q1 q2 q3 q4 f1 f2 => ?_, E.zf, fun a j t u za q q' => ?_⟩
  · rw [List.getElem?_set] at q ⊢
    by_cases e : i = j
    · subst e
      rw [if_pos rfl] at q ⊢
      split at q
      · rename_i z
        rw [if_pos (by omega)]
        cases q
        exact ⟨v, rfl, h⟩
      · cases q
    · rw [if_neg e] at q ⊢
      exact E.at' j t q
  · rcases hd q1 q3 with ⟨e1, rfl, rfl⟩ | ⟨e1, p1, p3⟩
    · rcases hd q2 q4 with ⟨e2, rfl, rfl⟩ | ⟨e2, q2, q4⟩
      · exact e1.symm.trans e2
      · exact absurd f2 ((new a f1).1 k _ _ q2 q4)
    · rcases hd q2 q4 with ⟨e2, rfl, rfl⟩ | ⟨e2, p2, p4⟩
      · exact absurd f1 ((new a f2).1 j _ _ p1 p3)
      · exact E.own j k _ _ _ _ a p1 p2 p3 p4 f1 f2
  · rcases hd q q' with ⟨_, rfl, rfl⟩ | ⟨_, q, q'⟩
    · exact fun f => (new a f).2 za
    · exact E.zo a j t u za q q'
end Pu

namespace Pu
open PySem L2 My Prf
abbrev PX := PEnv → (SV → PEnv → Prop) → Prop
abbrev PDt := PEnv → (PyData → PEnv → Prop) → Prop
abbrev PTt := PEnv → (Bool → PEnv → Prop) → Prop
abbrev PAr := PEnv → (List PyData → PEnv → Prop) → Prop
abbrev PAs := PEnv → (List SV → PEnv → Prop) → Prop
theorem Res.pre {c : Ct} {w w1 w2 : Wd} {env : PEnv} {σ : St} {v : V} {s : SV} (a : Lw w w1) (R : Res c w1 env σ w2 v s) : Res c w env σ w2 v s := ⟨R.ev, a.trans R.lw, R.val, R.new, R.res⟩
/-- an expression; one that is used as data; one that is looked at -/
class RE (K : Frag) (te : TE) (pe : outParam PX) : Prop where
  ok : ∀ (c : Ct) (w : Wd) (env : PEnv) (σ : St) (Qp : SV → PEnv → Prop) (Q : VK), c.K = K → EnvOk c w env σ → pe env Qp → (∀ v s env' w', Res c w env' σ w' v s → Qp s env' → Q v w'.H) → te σ w.H Q
class RD (K : Frag) (te : TE) (pd : outParam PDt) : Prop where
  ok : ∀ (c : Ct) (w : Wd) (env : PEnv) (σ : St) (Qp : PyData → PEnv → Prop) (Q : VK), c.K = K → EnvOk c w env σ → pd env Qp → (∀ v x env' w', EnvOk c w' env' σ → Lw w w' → Den K w'.F v x → Qp x env' → Q v w'.H) → te σ w.H Q
class RW (K : Frag) (te : TE) (pd : outParam PDt) : Prop where
  ok : ∀ (c : Ct) (w : Wd) (env : PEnv) (σ : St) (Qp : PyData → PEnv → Prop) (Q : VK), c.K = K → EnvOk c w env σ → pd env Qp → (∀ v x env' w', EnvOk c w' env' σ → Lw w w' → VV K w' v x → Qp x env' → Q v w'.H) → te σ w.H Q
def SV.asD (s : SV) (k : PyData → Prop) : Prop := match s with
  | .d x => k x
  | .own xs => k (.list xs)
  | _ => False
def pdat (pe : PX) (env : PEnv) (Q : PyData → PEnv → Prop) : Prop := pe env fun s e => s.asD fun x => Q x e
instance rd_of {K : Frag} {te : TE} {pe : PX} [h : RE K te pe] : RD K te (pdat pe) where
  ok := by
    rintro c w env σ Qp Q rfl E p k
    refine h.ok c w env σ _ Q rfl E p fun v s env' w' R q => ?_
    cases s with
    | d x => exact k v x env' w' R.ev R.lw R.val q
    | own xs =>
      obtain ⟨w2, e, E2, l2, d2⟩ := R.frz
      rw [← e]
      exact k v _ env' w2 E2 l2 d2 q
    | bor xs => exact (show False from q).elim
    | st => exact (show False from q).elim
    | tr t => exact (show False from q).elim
    | bt t => exact (show False from q).elim
instance (priority := low) rw_of {K : Frag} {te : TE} {pd : PDt} [h : RD K te pd] : RW K te pd where
  ok := fun c w env σ Qp Q e E p k => h.ok c w env σ Qp Q e E p fun v x env' w' E' l d q => k v x env' w' E' l (.inl d) q
/-! names, constants -/
def pVar (i : Nat) (env : PEnv) (Q : SV → PEnv → Prop) : Prop := match env[i]? with
  | some (some (.d x)) => Q (.d x) env
  | some (some (.own xs)) => Q (.d (.list xs)) (env.set i (some (.d (.list xs))))
  | some (some .st) => Q .st env
  | _ => False
def pVarV (i : Nat) (env : PEnv) (Q : PyData → PEnv → Prop) : Prop := match env[i]? with
  | some (some (.d x)) => Q x env
  | some (some (.own xs)) => Q (.list xs) env
  | some (some (.bor xs)) => Q (.list xs) env
  | _ => False
theorem EnvOk.frz {c : Ct} {w : Wd} {env : PEnv} {σ : St} {i : Nat} {xs : List PyData} (E : EnvOk c w env σ) (h : env[i]? = some (some (.own xs))) :
    ∃ w' v, w'.H = w.H ∧ σ[i]? = some (some v) ∧ EnvOk c w' (env.set i (some (.d (.list xs)))) σ ∧ Lw w w' ∧ Den c.K w'.F v (.list xs) := by
  obtain ⟨v, hv, hV⟩ := E.at' i _ h
  have hV' := hV
  obtain ⟨l, vs, e, h1, h2, h3, h4, h5⟩ := hV'
  have up : ∀ {j : Nat} {t : SV}, (env.set i none)[j]? = some (some t) → i ≠ j ∧ env[j]? = some (some t) := by
    intro j t q
    rw [List.getElem?_set] at q
    split at q
    · split at q <;> cases q
    · rename_i z; exact ⟨z, q⟩
  have E' : EnvOk c w (env.set i none) σ := ⟨E.wok, E.le0, by simpa using E.len, fun j s q => E.at' j s (up q).2, fun j k s t v u a q1 q2 => E.own j k s t v u a (up q1).2 (up q2).2, E.zf, fun a j t u za q => E.zo a j t u za (up q).2⟩
  have R : Res c w (env.set i none) σ w v (.own xs) := ⟨E', Lw.refl w, hV, fun a f => ⟨fun j t u q z g => (up q).1 (E.own i j _ _ _ _ a h (up q).2 hv z f g), fun za => E.zo a i _ _ za h hv f⟩, rfl⟩
  obtain ⟨w', e', E2, l2, d2⟩ := R.frz
  refine ⟨w', v, e', hv, ?_, l2, d2⟩
  have E3 := E2.set (i := i) (v := v) (s := .d (.list xs)) d2 (fun _ z => nomatch z)
  rw [List.set_set] at E3
  have hi : i < σ.length := (List.getElem?_eq_some_iff.mp hv).1
  rwa [show σ.set i (some v) = σ by
    refine List.ext_getElem? fun j => ?_
    rw [List.getElem?_set]
    split
    · rename_i z; subst z; simp [hv]
    · rfl] at E3
instance re_var {K : Frag} {i : Nat} : RE K (tVar i) (pVar i) where
  ok := by
    rintro c w env σ Qp Q rfl E p k
    unfold pVar at p
    split at p
    · rename_i x e
      obtain ⟨v, h1, h2⟩ := E.at' i _ e
      exact ⟨v, h1, k v _ env w (Res.data E h2) p⟩
    · rename_i xs e
      obtain ⟨w', v, e', hv, E', l, d⟩ := E.frz e
      refine ⟨v, hv, ?_⟩
      rw [← e']
      exact k v (.d (.list xs)) _ w' ⟨E', l, d, fun _ z => (nomatch z), rfl⟩ p
    · rename_i e
      obtain ⟨v, h1, h2⟩ := E.at' i _ e
      exact ⟨v, h1, k v _ env w ⟨E, Lw.refl w, h2, fun _ z => (nomatch z), rfl⟩ p⟩
    · exact p.elim
theorem VR.vv {c : Ct} {w : Wd} {v : V} {xs : List PyData} (l : Le c.w0 w) (h : VR c w v (.bor xs)) : VV c.K w v (.list xs) := by
  rcases h with h | ⟨l', vs, e, h1, h2, h3⟩
  · exact .inl h
  · exact .inr ⟨l', vs, xs, e, rfl, l.h _ _ h1 h2, l.nm (by rw [h1]; simp) h2, h3⟩
instance rw_var {K : Frag} {i : Nat} : RW K (tVar i) (pVarV i) where
  ok := by
    rintro c w env σ Qp Q rfl E p k
    unfold pVarV at p
    split at p
    · rename_i x e
      obtain ⟨v, h1, h2⟩ := E.at' i _ e
      exact ⟨v, h1, k v _ env w E (Lw.refl w) (.inl h2) p⟩
    · rename_i xs e
      obtain ⟨v, h1, l, vs, e', g1, g2, g3, g4, g5⟩ := E.at' i _ e
      exact ⟨v, h1, k v _ env w E (Lw.refl w) (.inr ⟨l, vs, xs, e', rfl, g1, g3, g5⟩) p⟩
    · rename_i xs e
      obtain ⟨v, h1, h2⟩ := E.at' i _ e
      exact ⟨v, h1, k v _ env w E (Lw.refl w) (h2.vv E.le0) p⟩
    · exact p.elim
def pC (x : PyData) (env : PEnv) (Q : SV → PEnv → Prop) : Prop := Q (.d x) env
theorem re_const {K : Frag} {v : V} {x : PyData} (h : ∀ F, Den K F v x) : RE K (tC v) (pC x) where
  ok := by
    rintro c w env σ Qp Q rfl E p k
    exact k _ _ env w (Res.data E (h _)) p
instance re_int {K : Frag} {i : Int} : RE K (tC (.int i)) (pC (.int i)) := re_const fun _ => .int i
instance re_bl {K : Frag} {b : Bool} : RE K (tC (.bl b)) (pC (.bool b)) := re_const fun _ => .bl b
/-! operations of two -/
class RO (K : Frag) (r : R2) (pr : outParam (PyData → PyData → (SV → Prop) → Prop)) : Prop where
  ok : ∀ (c : Ct) (w : Wd) (env : PEnv) (σ : St) (x y : V) (dx dy : PyData) (Qp : SV → Prop) (Q : VK), c.K = K → EnvOk c w env σ → VV K w x dx → VV K w y dy → pr dx dy Qp → (∀ v s w', Res c w env σ w' v s → Qp s → Q v w'.H) → r x y w.H Q
def pOp (pr : PyData → PyData → (SV → Prop) → Prop) (pa pb : PDt) (env : PEnv) (Q : SV → PEnv → Prop) : Prop := pa env fun x e1 => pb e1 fun y e2 => pr x y fun s => Q s e2
instance re_op {K : Frag} {r : R2} {ta tb : TE} {pr : PyData → PyData → (SV → Prop) → Prop} {pa pb : PDt} [h : RO K r pr] [ha : RW K ta pa] [hb : RW K tb pb] : RE K (tOp r ta tb) (pOp pr pa pb) where
  ok := by
    rintro c w env σ Qp Q rfl E p k
    refine ha.ok c w env σ _ _ rfl E p fun x dx e1 w1 E1 l1 v1 q1 => ?_
    refine hb.ok c w1 e1 σ _ _ rfl E1 q1 fun y dy e2 w2 E2 l2 v2 q2 => ?_
    exact h.ok c w2 e2 σ x y dx dy _ _ rfl E2 (v1.mono l2) v2 q2 fun v s w' R q => k v s e2 w' (R.pre (l1.trans l2)) q
class SG (g : Int → Int → V) (gd : outParam (Int → Int → PyData)) : Prop where
  ok : ∀ i j K F, Den K F (g i j) (gd i j)
instance sg_int {f : Int → Int → Int} : SG (fun i j => .int (f i j)) (fun i j => .int (f i j)) := ⟨fun _ _ _ _ => .int _⟩
instance sg_bl {f : Int → Int → Bool} : SG (fun i j => .bl (f i j)) (fun i j => .bool (f i j)) := ⟨fun _ _ _ _ => .bl _⟩
def pI (C : Int → Int → Prop) (gd : Int → Int → PyData) (x y : PyData) (Q : SV → Prop) : Prop := match x, y with
  | .int i, .int j => C i j ∧ Q (.d (gd i j))
  | _, _ => False
def pI0 (gd : Int → Int → PyData) (x y : PyData) (Q : SV → Prop) : Prop := match x, y with
  | .int i, .int j => Q (.d (gd i j))
  | _, _ => False
theorem VV.intE {K : Frag} {w : Wd} {v : V} {i : Int} (h : VV K w v (.int i)) : v = .int i := by
  rcases h with h | ⟨l, vs, xs, e, e', _⟩
  · exact h.intE
  · cases e'
theorem VV.blE {K : Frag} {w : Wd} {v : V} {b : Bool} (h : VV K w v (.bool b)) : v = .bl b := by
  rcases h with h | ⟨l, vs, xs, e, e', _⟩
  · exact h.blE
  · cases e'
instance ro_I {K : Frag} {C : Int → Int → Prop} {g : Int → Int → V} {gd : Int → Int → PyData} [s : SG g gd] : RO K (rI C g) (pI C gd) where
  ok := by
    rintro c w env σ x y dx dy Qp Q rfl E vx vy p k
    unfold pI at p
    split at p
    · rename_i i j
      exact ⟨i, j, vx.intE, vy.intE, p.1, k _ _ w (Res.data E (s.ok i j _ _)) p.2⟩
    · exact p.elim
instance ro_I0 {K : Frag} {g : Int → Int → V} {gd : Int → Int → PyData} [s : SG g gd] : RO K (rI0 g) (pI0 gd) where
  ok := by
    rintro c w env σ x y dx dy Qp Q rfl E vx vy p k
    unfold pI0 at p
    split at p
    · rename_i i j
      exact ⟨i, j, vx.intE, vy.intE, k _ _ w (Res.data E (s.ok i j _ _)) p⟩
    · exact p.elim
def pEqD (x y : PyData) (Q : SV → Prop) : Prop := x.canLay0 = true ∧ y.canLay0 = true ∧ x.depth ≤ 60 ∧ Q (.d (.bool (PyData.eqv x y)))
def pNeD (x y : PyData) (Q : SV → Prop) : Prop := x.canLay0 = true ∧ y.canLay0 = true ∧ x.depth ≤ 60 ∧ Q (.d (.bool (!PyData.eqv x y)))
/-! xs[i] -/
def pGet (xs : List PyData) (i : Int) (Q : SV → Prop) : Prop := match atI xs i with
  | some z => Q (.d z)
  | none => False
def pIx (x y : PyData) (Q : SV → Prop) : Prop := match x, y with
  | .list xs, .int i => pGet xs i Q
  | .tuple xs, .int i => pGet xs i Q
  | _, _ => False
theorem VV.lst {K : Frag} {w : Wd} {v : V} {xs : List PyData} (o : w.Ok) (h : VV K w v (.list xs)) : ∃ a vs, v = .ref a ∧ SqL K w.H a vs ∧ DenAll K w.F vs xs := by
  rcases h with h | ⟨l, vs, ys, e, e', h1, h2, h3⟩
  · obtain ⟨a, vs, e, h1, h2⟩ := h.lstE
    exact ⟨a, vs, e, o.sub.seq h1, h2⟩
  · cases e'; exact ⟨l, vs, e, SqL.of h1, h3⟩
theorem VV.tup {K : Frag} {w : Wd} {v : V} {xs : List PyData} (o : w.Ok) (h : VV K w v (.tuple xs)) : ∃ a vs, v = .ref a ∧ SqT K w.H a vs ∧ DenAll K w.F vs xs := by
  rcases h with h | ⟨l, vs, ys, e, e', h1, h2, h3⟩
  · obtain ⟨a, vs, e, h1, h2⟩ := h.tupE
    exact ⟨a, vs, e, SqT.same o.sub h1, h2⟩
  · cases e'
instance ro_ix {K : Frag} : RO K (rIx K) pIx where
  ok := by
    rintro c w env σ x y dx dy Qp Q rfl E vx vy p k
    unfold pIx at p
    split at p
    · rename_i xs i
      unfold pGet at p
      split at p
      · rename_i z hz
        obtain ⟨a, vs, e, h1, h2⟩ := vx.lst E.wok
        obtain ⟨v, g1, g2⟩ := h2.atIE hz
        exact .inl ⟨a, vs, i, v, e, vy.intE, h1, g1, k _ _ w (Res.data E g2) p⟩
      · exact p.elim
    · rename_i xs i
      unfold pGet at p
      split at p
      · rename_i z hz
        obtain ⟨a, vs, e, h1, h2⟩ := vx.tup E.wok
        obtain ⟨v, g1, g2⟩ := h2.atIE hz
        exact .inr (.inl ⟨a, vs, i, v, e, vy.intE, h1, g1, k _ _ w (Res.data E g2) p⟩)
      · exact p.elim
    · exact p.elim
theorem ix_seqK {X : Cx} {K : Frag} (h : X.K = K) : IxR X (rIx K) := by subst h; exact ix_seq
/-! one thing -/
def pU (gd : Int → PyData) (x : PyData) (Q : SV → Prop) : Prop := match x with
  | .int i => Q (.d (gd i))
  | _ => False
def pUn (f : PyData → (SV → Prop) → Prop) (pa : PDt) (env : PEnv) (Q : SV → PEnv → Prop) : Prop := pa env fun x e => f x fun s => Q s e
instance re_neg {K : Frag} {ta : TE} {pa : PDt} {f : Int → Int} [ha : RW K ta pa] : RE K (tUn (rU fun i => .int (f i)) ta) (pUn (pU fun i => .int (f i)) pa) where
  ok := by
    rintro c w env σ Qp Q rfl E p k
    refine ha.ok c w env σ _ _ rfl E p fun x dx e1 w1 E1 l1 v1 q1 => ?_
    unfold pU at q1
    split at q1
    · rename_i i
      exact ⟨i, v1.intE, k _ _ e1 w1 ((Res.data E1 (.int _)).pre l1) q1⟩
    · exact q1.elim
/-! argument lists -/
inductive VVs (K : Frag) (w : Wd) : List V → List PyData → Prop
  | nil : VVs K w [] []
  | cons {v : V} {x : PyData} {vs : List V} {xs : List PyData} : VV K w v x → VVs K w vs xs → VVs K w (v :: vs) (x :: xs)
class RAv (K : Frag) (ta : TA) (pa : outParam PAr) : Prop where
  ok : ∀ (c : Ct) (w : Wd) (env : PEnv) (σ : St) (Qp : List PyData → PEnv → Prop) (Q : List V → Hpp → Prop), c.K = K → EnvOk c w env σ → pa env Qp → (∀ vs xs env' w', EnvOk c w' env' σ → Lw w w' → VVs K w' vs xs → Qp xs env' → Q vs w'.H) → ta σ w.H Q
class RAd (K : Frag) (ta : TA) (pa : outParam PAr) : Prop where
  ok : ∀ (c : Ct) (w : Wd) (env : PEnv) (σ : St) (Qp : List PyData → PEnv → Prop) (Q : List V → Hpp → Prop), c.K = K → EnvOk c w env σ → pa env Qp → (∀ vs xs env' w', EnvOk c w' env' σ → Lw w w' → DenAll K w'.F vs xs → Qp xs env' → Q vs w'.H) → ta σ w.H Q
def pNil (env : PEnv) (Q : List PyData → PEnv → Prop) : Prop := Q [] env
def pCons (pa : PDt) (pr : PAr) (env : PEnv) (Q : List PyData → PEnv → Prop) : Prop := pa env fun x e1 => pr e1 fun xs e2 => Q (x :: xs) e2
instance rav_nil {K : Frag} : RAv K tNil pNil := ⟨fun c w env σ Qp Q _ E p k => k [] [] env w E (Lw.refl w) .nil p⟩
instance rad_nil {K : Frag} : RAd K tNil pNil := ⟨fun c w env σ Qp Q _ E p k => k [] [] env w E (Lw.refl w) .nil p⟩
instance rav_cons {K : Frag} {ta : TE} {tr : TA} {pa : PDt} {pr : PAr} [ha : RW K ta pa] [hr : RAv K tr pr] : RAv K (tCons ta tr) (pCons pa pr) where
  ok := by
    rintro c w env σ Qp Q rfl E p k
    refine ha.ok c w env σ _ _ rfl E p fun x dx e1 w1 E1 l1 v1 q1 => ?_
    refine hr.ok c w1 e1 σ _ _ rfl E1 q1 fun vs xs e2 w2 E2 l2 v2 q2 => ?_
    exact k _ _ e2 w2 E2 (l1.trans l2) (.cons (v1.mono l2) v2) q2
instance rad_cons {K : Frag} {ta : TE} {tr : TA} {pa : PDt} {pr : PAr} [ha : RD K ta pa] [hr : RAd K tr pr] : RAd K (tCons ta tr) (pCons pa pr) where
  ok := by
    rintro c w env σ Qp Q rfl E p k
    refine ha.ok c w env σ _ _ rfl E p fun x dx e1 w1 E1 l1 v1 q1 => ?_
    refine hr.ok c w1 e1 σ _ _ rfl E1 q1 fun vs xs e2 w2 E2 l2 v2 q2 => ?_
    exact k _ _ e2 w2 E2 (l1.trans l2) (.cons (Den.same l2.f v1) v2) q2
def pTup (pa : PAr) (env : PEnv) (Q : SV → PEnv → Prop) : Prop := pa env fun xs e => xs.length ≤ 1000 ∧ Q (.d (.tuple xs)) e
def pLst (pa : PAr) (env : PEnv) (Q : SV → PEnv → Prop) : Prop := pa env fun xs e => xs.length ≤ 1000 ∧ Q (.own xs) e
instance re_tup {K : Frag} {ta : TA} {pa : PAr} [ha : RAd K ta pa] : RE K (tTup ta) (pTup pa) where
  ok := by
    rintro c w env σ Qp Q rfl E p k
    refine ha.ok c w env σ _ _ rfl E p fun vs xs e1 w1 E1 l1 v1 q1 => ⟨?_, fun p hp => ?_⟩
    · rw [v1.len]; exact Nat.le_of_lt (small1000 q1.1)
    · exact k _ _ e1 _ ((Res.tup E1 hp v1).pre l1) q1.2
instance re_lst {K : Frag} {ta : TA} {pa : PAr} [ha : RAd K ta pa] : RE K (tLst ta) (pLst pa) where
  ok := by
    rintro c w env σ Qp Q rfl E p k
    refine ha.ok c w env σ _ _ rfl E p fun vs xs e1 w1 E1 l1 v1 q1 => ⟨?_, fun p hp => ?_⟩
    · rw [v1.len]; exact Nat.le_of_lt (small1000 q1.1)
    · exact k _ _ e1 _ ((Res.lst E1 hp v1).pre l1) q1.2
/-! built-in calls -/
class RB (K : Frag) (r : List V → Hpp → VK → Prop) (pr : outParam (List PyData → (SV → Prop) → Prop)) : Prop where
  ok : ∀ (c : Ct) (w : Wd) (env : PEnv) (σ : St) (vs : List V) (xs : List PyData) (Qp : SV → Prop) (Q : VK), c.K = K → EnvOk c w env σ → VVs K w vs xs → pr xs Qp → (∀ v s w', Res c w env σ w' v s → Qp s → Q v w'.H) → r vs w.H Q
def pCB (pr : List PyData → (SV → Prop) → Prop) (pa : PAr) (env : PEnv) (Q : SV → PEnv → Prop) : Prop := pa env fun xs e => pr xs fun s => Q s e
instance re_cb {K : Frag} {r : List V → Hpp → VK → Prop} {ta : TA} {pr : List PyData → (SV → Prop) → Prop} {pa : PAr} [h : RB K r pr] [ha : RAv K ta pa] : RE K (tCB r ta) (pCB pr pa) where
  ok := by
    rintro c w env σ Qp Q rfl E p k
    refine ha.ok c w env σ _ _ rfl E p fun vs xs e1 w1 E1 l1 v1 q1 => ?_
    exact h.ok c w1 e1 σ vs xs _ _ rfl E1 v1 q1 fun v s w' R q => k v s e1 w' (R.pre l1) q
def rAbs : List V → Hpp → VK → Prop := fun xs H Q => ∃ i, xs = [.int i] ∧ Q (.int (if i < 0 then -i else i)) H
def rMax : List V → Hpp → VK → Prop := fun xs H Q => ∃ i j, xs = [.int i, .int j] ∧ Q (.int (if j > i then j else i)) H
def rMin : List V → Hpp → VK → Prop := fun xs H Q => ∃ i j, xs = [.int i, .int j] ∧ Q (.int (if j < i then j else i)) H
def rIsi (K : Frag) : List V → Hpp → VK → Prop := fun xs H Q => ∃ x c T b, xs = [x, .ty c] ∧ TyV K H x T ∧ kitB T c = some b ∧ Q (.bl b) H
section
variable {X : Cx}
theorem call_absN : CallR X (.builtin "abs") rAbs := call_abs
theorem call_maxN (hc : X.calm = true) : CallR X (.builtin "max") rMax := call_max2 hc
theorem call_minN (hc : X.calm = true) : CallR X (.builtin "min") rMin := call_min2 hc
theorem call_isiK {K : Frag} (h : X.K = K) : CallR X (.builtin "isinstance") (rIsi K) := by subst h; exact call_isinst
end
def pLen (xs : List PyData) (Q : SV → Prop) : Prop := match xs with
  | [.list ys] => Q (.d (.int ys.length))
  | [.tuple ys] => Q (.d (.int ys.length))
  | _ => False
def pAbs (xs : List PyData) (Q : SV → Prop) : Prop := match xs with
  | [.int i] => Q (.d (.int (if i < 0 then -i else i)))
  | _ => False
def pMax (xs : List PyData) (Q : SV → Prop) : Prop := match xs with
  | [.int i, .int j] => Q (.d (.int (if j > i then j else i)))
  | _ => False
def pMin (xs : List PyData) (Q : SV → Prop) : Prop := match xs with
  | [.int i, .int j] => Q (.d (.int (if j < i then j else i)))
  | _ => False
instance rb_abs {K : Frag} : RB K rAbs pAbs where
  ok := by
    rintro c w env σ vs xs Qp Q rfl E vv p k
    unfold pAbs at p
    split at p
    · cases vv with | cons h t => cases t; exact ⟨_, by rw [h.intE], k _ _ w (Res.data E (.int _)) p⟩
    · exact p.elim
instance rb_max {K : Frag} : RB K rMax pMax where
  ok := by
    rintro c w env σ vs xs Qp Q rfl E vv p k
    unfold pMax at p
    split at p
    · cases vv with | cons h t => cases t with | cons h' t => cases t; exact ⟨_, _, by rw [h.intE, h'.intE], k _ _ w (Res.data E (.int _)) p⟩
    · exact p.elim
instance rb_min {K : Frag} : RB K rMin pMin where
  ok := by
    rintro c w env σ vs xs Qp Q rfl E vv p k
    unfold pMin at p
    split at p
    · cases vv with | cons h t => cases t with | cons h' t => cases t; exact ⟨_, _, by rw [h.intE, h'.intE], k _ _ w (Res.data E (.int _)) p⟩
    · exact p.elim
def tyD : PyData → String
  | .none => "NoneType"
  | .bool _ => "bool"
  | .int _ => "int"
  | .str _ => "str"
  | .list _ => "list"
  | .tuple _ => "tuple"
  | .dict _ => "dict"
theorem Den.ty {K : Frag} {H : Hpp} {v : V} {x : PyData} (h : Den K H v x) : TyV K H v (tyD x) := by
  cases h with
  | non => rfl
  | bl => rfl
  | int => rfl
  | str => rfl
  | lst h _ => exact .inl ⟨rfl, _, h⟩
  | tup h _ => exact .inr (.inl ⟨rfl, _, h⟩)
  | dct h => exact .inr (.inr ⟨rfl, _, h⟩)
def pIsi (c : String) (pa : PDt) (env : PEnv) (Q : SV → PEnv → Prop) : Prop := pa env fun x e => match kitB (tyD x) c with
  | some b => Q (.d (.bool b)) e
  | none => False
instance (priority := high) re_isi {K : Frag} {ta : TE} {pa : PDt} {c : String} [ha : RW K ta pa] : RE K (tCB (rIsi K) (tCons ta (tCons (tC (.ty c)) tNil))) (pIsi c pa) where
  ok := by
    rintro ct w env σ Qp Q rfl E p k
    refine ha.ok ct w env σ _ _ rfl E p fun x dx e1 w1 E1 l1 v1 q1 => ?_
    split at q1
    · rename_i b hb
      exact ⟨x, c, _, b, rfl, Den.ty (v1.den E1.wok), hb, k _ _ e1 w1 ((Res.data E1 (.bl _)).pre l1) q1⟩
    · exact q1.elim
end Pu

namespace Pu
open PySem L2 My Prf
/-! tests -/
class RT (K : Frag) (tt : TT) (pt : outParam PTt) : Prop where
  ok : ∀ (c : Ct) (w : Wd) (env : PEnv) (σ : St) (Qp : Bool → PEnv → Prop) (Q : Bool → Hpp → Prop), c.K = K → EnvOk c w env σ → pt env Qp → (∀ b env' w', EnvOk c w' env' σ → Lw w w' → Qp b env' → Q b w'.H) → tt σ w.H Q
def asB (x : PyData) (k : Bool → Prop) : Prop := match x with
  | .bool b => k b
  | _ => False
def pTest (pa : PDt) (env : PEnv) (Q : Bool → PEnv → Prop) : Prop := pa env fun x e => asB x fun b => Q b e
instance rt_test {K : Frag} {ta : TE} {pa : PDt} [ha : RW K ta pa] : RT K (tTest ta) (pTest pa) where
  ok := by
    rintro c w env σ Qp Q rfl E p k
    refine ha.ok c w env σ _ _ rfl E p fun x dx e1 w1 E1 l1 v1 q1 => ?_
    unfold asB at q1
    split at q1
    · exact ⟨_, v1.blE, k _ e1 w1 E1 l1 q1⟩
    · exact q1.elim
instance rt_B {K : Frag} {ta : TE} {pa : PDt} [ha : RW K ta pa] : RT K (tB ta) (pTest pa) where
  ok := by
    rintro c w env σ Qp Q rfl E p k
    refine ha.ok c w env σ _ _ rfl E p fun x dx e1 w1 E1 l1 v1 q1 => ?_
    unfold asB at q1
    split at q1
    · exact ⟨_, v1.blE, k _ e1 w1 E1 l1 q1⟩
    · exact q1.elim
def pNot (pa : PTt) (env : PEnv) (Q : Bool → PEnv → Prop) : Prop := pa env fun b e => Q (!b) e
def pOr (pa pb : PTt) (env : PEnv) (Q : Bool → PEnv → Prop) : Prop := pa env fun b e => if b = true then Q true e else pb e Q
instance rt_not {K : Frag} {ta : TT} {pa : PTt} [ha : RT K ta pa] : RT K (tNot ta) (pNot pa) where
  ok := by
    rintro c w env σ Qp Q rfl E p k
    exact ha.ok c w env σ _ _ rfl E p fun b e1 w1 E1 l1 q1 => k _ e1 w1 E1 l1 q1
instance rt_or {K : Frag} {ta tb : TT} {pa pb : PTt} [ha : RT K ta pa] [hb : RT K tb pb] : RT K (tOr ta tb) (pOr pa pb) where
  ok := by
    rintro c w env σ Qp Q rfl E p k
    refine ha.ok c w env σ _ _ rfl E p fun b e1 w1 E1 l1 q1 => ?_
    cases b with
    | false => exact hb.ok c w1 e1 σ _ _ rfl E1 q1 fun b e2 w2 E2 l2 q2 => k _ e2 w2 E2 (l1.trans l2) q2
    | true => exact k _ e1 w1 E1 l1 q1
def pAndV (pa : PDt) (pb : PX) (env : PEnv) (Q : SV → PEnv → Prop) : Prop := pa env fun x e => asB x fun b => if b = true then pb e Q else Q (.d (.bool false)) e
instance re_andV {K : Frag} {ta tb : TE} {pa : PDt} {pb : PX} [ha : RW K ta pa] [hb : RE K tb pb] : RE K (tAndV ta tb) (pAndV pa pb) where
  ok := by
    rintro c w env σ Qp Q rfl E p k
    refine ha.ok c w env σ _ _ rfl E p fun x dx e1 w1 E1 l1 v1 q1 => ?_
    unfold asB at q1
    split at q1
    · rename_i b
      refine ⟨_, v1.blE, ?_⟩
      cases b with
      | true => exact hb.ok c w1 e1 σ _ _ rfl E1 q1 fun v s e2 w2 R q2 => k _ _ e2 w2 (R.pre l1) q2
      | false => exact k _ _ e1 w1 ((Res.data E1 (.bl _)).pre l1) q1
    · exact q1.elim
def pIfE (pt : PTt) (pa pb : PX) (env : PEnv) (Q : SV → PEnv → Prop) : Prop := pt env fun b e => if b = true then pa e Q else pb e Q
instance re_if {K : Frag} {tt : TT} {ta tb : TE} {pt : PTt} {pa pb : PX} [ht : RT K tt pt] [ha : RE K ta pa] [hb : RE K tb pb] : RE K (tIf tt ta tb) (pIfE pt pa pb) where
  ok := by
    rintro c w env σ Qp Q rfl E p k
    refine ht.ok c w env σ _ _ rfl E p fun b e1 w1 E1 l1 q1 => ?_
    cases b with
    | true => exact ha.ok c w1 e1 σ _ _ rfl E1 q1 fun v s e2 w2 R q2 => k _ _ e2 w2 (R.pre l1) q2
    | false => exact hb.ok c w1 e1 σ _ _ rfl E1 q1 fun v s e2 w2 R q2 => k _ _ e2 w2 (R.pre l1) q2
/-! calls of defs -/
inductive Md where
  | dat | vw | st | bt
/-- a thing of several lists, as it stands -/
def TV (K : Frag) (w : Wd) (v : V) (t : OT) : Prop := Tre K w t [v] ∧ ∀ a ∈ t.fp, ¬ w.M a
theorem Tre.has {K : Frag} {w : Wd} : ∀ {t : OT} {vs : List V}, Tre K w t vs → ∀ a ∈ t.fp, w.H a ≠ none
  | .leaf _, _, _, _, z => nomatch z
  | .nd _ p _, _, ⟨_, _, h, k⟩, a, z => (List.mem_cons.mp z).elim (fun e => by rw [e, h]; simp) (Tre.has k a)
  | .nil, _, _, _, z => nomatch z
  | .cons _ _, _, ⟨_, _, _, h, t⟩, a, z => (List.mem_append.mp z).elim (Tre.has h a) (Tre.has t a)
inductive Args (K : Frag) (w : Wd) : List Md → List V → List SV → Prop
  | nil : Args K w [] [] []
  | dat {v : V} {x : PyData} {md : List Md} {vs : List V} {as : List SV} : Den K w.F v x → Args K w md vs as → Args K w (.dat :: md) (v :: vs) (.d x :: as)
  | vw {v : V} {xs : List PyData} {md : List Md} {vs : List V} {as : List SV} : VV K w v (.list xs) → Args K w md vs as → Args K w (.vw :: md) (v :: vs) (.bor xs :: as)
  | bt {v : V} {t : OT} {md : List Md} {vs : List V} {as : List SV} : TV K w v t → Args K w md vs as → Args K w (.bt :: md) (v :: vs) (.bt t :: as)
  | st {v : V} {md : List Md} {vs : List V} {as : List SV} : (∃ p, v = .ref p ∧ w.M p) → Args K w md vs as → Args K w (.st :: md) (v :: vs) (.st :: as)
theorem Args.len {K : Frag} {w : Wd} : ∀ {md vs as}, Args K w md vs as → vs.length = md.length
  | _, _, _, .nil => rfl
  | _, _, _, .dat _ t => congrArg (· + 1) (Args.len t)
  | _, _, _, .vw _ t => congrArg (· + 1) (Args.len t)
  | _, _, _, .st _ t => congrArg (· + 1) (Args.len t)
  | _, _, _, .bt _ t => congrArg (· + 1) (Args.len t)
abbrev PSp := List SV → (SV → Prop) → Prop
def noZ : Addr → Prop := fun _ => False
def spOf (K : Frag) (md : List Md) (psp : PSp) : Sp := fun vs H Q _ => ∃ (w : Wd) (as : List SV) (Qp : SV → Prop), w.H = H ∧ w.Ok ∧ Args K w md vs as ∧ psp as Qp ∧
  ∀ v s w', w'.Ok → Le w w' → VR ⟨K, w, noZ⟩ w' v s → s.isRes = true → Qp s → Q v w'.H
theorem spOf.len {K : Frag} {md : List Md} {psp : PSp} {n : Nat} (h : md.length = n) : ∀ vs H Q E, spOf K md psp vs H Q E → vs.length = n := by
  rintro vs H Q E ⟨w, as, Qp, _, _, a, _⟩
  exact a.len.trans h
class RAm (K : Frag) (md : List Md) (ta : TA) (pa : outParam PAs) : Prop where
  ok : ∀ (c : Ct) (w : Wd) (env : PEnv) (σ : St) (Qp : List SV → PEnv → Prop) (Q : List V → Hpp → Prop), c.K = K → EnvOk c w env σ → pa env Qp → (∀ vs as env' w', EnvOk c w' env' σ → Lw w w' → Args K w' md vs as → Qp as env' → Q vs w'.H) → ta σ w.H Q
def pNilA (env : PEnv) (Q : List SV → PEnv → Prop) : Prop := Q [] env
def pConsD (pa : PDt) (pr : PAs) (env : PEnv) (Q : List SV → PEnv → Prop) : Prop := pa env fun x e1 => pr e1 fun as e2 => Q (.d x :: as) e2
def asL (x : PyData) (k : List PyData → Prop) : Prop := match x with
  | .list xs => k xs
  | _ => False
def pConsV (pa : PDt) (pr : PAs) (env : PEnv) (Q : List SV → PEnv → Prop) : Prop := pa env fun x e1 => asL x fun xs => pr e1 fun as e2 => Q (.bor xs :: as) e2
def isSt (o : Option (Option SV)) (k : Prop) : Prop := match o with
  | some (some .st) => k
  | _ => False
def pConsS (i : Nat) (pr : PAs) (env : PEnv) (Q : List SV → PEnv → Prop) : Prop := isSt env[i]? (pr env fun as e2 => Q (.st :: as) e2)
instance ram_nil {K : Frag} : RAm K [] tNil pNilA := ⟨fun c w env σ Qp Q _ E p k => k [] [] env w E (Lw.refl w) .nil p⟩
instance ram_dat {K : Frag} {md : List Md} {ta : TE} {tr : TA} {pa : PDt} {pr : PAs} [ha : RD K ta pa] [hr : RAm K md tr pr] : RAm K (.dat :: md) (tCons ta tr) (pConsD pa pr) where
  ok := by
    rintro c w env σ Qp Q rfl E p k
    refine ha.ok c w env σ _ _ rfl E p fun x dx e1 w1 E1 l1 v1 q1 => ?_
    refine hr.ok c w1 e1 σ _ _ rfl E1 q1 fun vs xs e2 w2 E2 l2 v2 q2 => ?_
    exact k _ _ e2 w2 E2 (l1.trans l2) (.dat (Den.same l2.f v1) v2) q2
instance ram_vw {K : Frag} {md : List Md} {ta : TE} {tr : TA} {pa : PDt} {pr : PAs} [ha : RW K ta pa] [hr : RAm K md tr pr] : RAm K (.vw :: md) (tCons ta tr) (pConsV pa pr) where
  ok := by
    rintro c w env σ Qp Q rfl E p k
    refine ha.ok c w env σ _ _ rfl E p fun x dx e1 w1 E1 l1 v1 q1 => ?_
    unfold asL at q1
    split at q1
    · refine hr.ok c w1 e1 σ _ _ rfl E1 q1 fun vs xs e2 w2 E2 l2 v2 q2 => ?_
      exact k _ _ e2 w2 E2 (l1.trans l2) (.vw (v1.mono l2) v2) q2
    · exact q1.elim
instance ram_st {K : Frag} {md : List Md} {i : Nat} {tr : TA} {pr : PAs} [hr : RAm K md tr pr] : RAm K (.st :: md) (tCons (tVar i) tr) (pConsS i pr) where
  ok := by
    rintro c w env σ Qp Q rfl E p k
    unfold pConsS isSt at p
    split at p
    · rename_i e
      obtain ⟨v, h1, h2⟩ := E.at' i _ e
      refine ⟨v, h1, ?_⟩
      refine hr.ok c w env σ _ _ rfl E p fun vs xs e2 w2 E2 l2 v2 q2 => ?_
      obtain ⟨q, e', hm⟩ := h2
      exact k _ _ e2 w2 E2 l2 (.st ⟨q, e', l2.m _ hm⟩ v2) q2
    · exact p.elim
def pCall (psp : PSp) (pa : PAs) (env : PEnv) (Q : SV → PEnv → Prop) : Prop := pa env fun as e => psp as fun s => Q s e
theorem Res.called {c : Ct} {w w' : Wd} {env : PEnv} {σ : St} {v : V} {s : SV} (E : EnvOk c w env σ) (ok : w'.Ok) (l : Le w w') (h : VR ⟨c.K, w, noZ⟩ w' v s) (r : s.isRes = true) : Res c w env σ w' v s := by
  refine ⟨E.mono ok l, l.toLw, ?_, fun a f => E.fresh (h.foot f).2.2.2, r⟩
  cases s with
  | d x => exact h
  | own xs => obtain ⟨a, vs, e, h1, h2, h3, h4, h5⟩ := h; exact ⟨a, vs, e, h1, h2, h3, E.le0.dom _ h4, h5⟩
  | bor xs => cases r
  | bt t => cases r
  | st => exact h
  | tr t => exact ⟨h.1, fun a f => ⟨(h.2 a f).1, (h.2 a f).2.1, (h.2 a f).2.2.1, E.le0.dom _ (h.2 a f).2.2.2⟩⟩
instance re_call {K : Frag} {md : List Md} {psp : PSp} {E0' : XK} {ta : TA} {pa : PAs} [ha : RAm K md ta pa] : RE K (tCall (spOf K md psp) [] E0' ta) (pCall psp pa) where
  ok := by
    rintro c w env σ Qp Q rfl E p k
    refine ha.ok c w env σ _ _ rfl E p fun vs as e1 w1 E1 l1 a1 q1 => ?_
    rw [List.append_nil]
    exact ⟨w1, as, _, rfl, E1.wok, a1, q1, fun v s w' ok l h r q => k v s e1 w' ((Res.called E1 ok l h r).pre l1) q⟩
/-! statements -/
structure PEnds where
  nx : PEnv → Prop
  rt : SV → Prop
  bk : PEnv → Prop
  ct : PEnv → Prop
abbrev PSt := PEnds → PEnv → Prop
structure EndsOk (c : Ct) (w : Wd) (Dp : PEnds) (D : Ends) : Prop where
  nx : ∀ env σ w', EnvOk c w' env σ → Same w.F w'.F → Dp.nx env → D.nx σ w'.H
  rt : ∀ v s w', w'.Ok → Le c.w0 w' → VR c w' v s → s.isRes = true → Dp.rt s → D.rt v w'.H
  bk : ∀ env σ w', EnvOk c w' env σ → Same w.F w'.F → Dp.bk env → D.bk σ w'.H
  ct : ∀ env σ w', EnvOk c w' env σ → Same w.F w'.F → Dp.ct env → D.ct σ w'.H
theorem EndsOk.on {c : Ct} {w w1 : Wd} {Dp : PEnds} {D : Ends} (h : EndsOk c w Dp D) (s : Same w.F w1.F) : EndsOk c w1 Dp D :=
  ⟨fun e σ w' E s' => h.nx e σ w' E (s.trans s'), h.rt, fun e σ w' E s' => h.bk e σ w' E (s.trans s'), fun e σ w' E s' => h.ct e σ w' E (s.trans s')⟩
class RS (K : Frag) (ts : TS) (ps : outParam PSt) : Prop where
  ok : ∀ (c : Ct) (w : Wd) (env : PEnv) (σ : St) (Dp : PEnds) (D : Ends), c.K = K → EnvOk c w env σ → EndsOk c w Dp D → ps Dp env → ts D σ w.H
def pNext (D : PEnds) (env : PEnv) : Prop := D.nx env
def pNever (_ : PEnds) (_ : PEnv) : Prop := False
def pSeq (p q : PSt) (D : PEnds) (env : PEnv) : Prop := p { D with nx := q D } env
instance rs_next {K : Frag} : RS K tNext pNext := ⟨fun c w env σ Dp D _ E h p => h.nx env σ w E (Same.refl _) p⟩
instance rs_never {K : Frag} : RS K tNever pNever := ⟨fun c w env σ Dp D _ E h p => p.elim⟩
instance rs_seq {K : Frag} {t u : TS} {p q : PSt} [ht : RS K t p] [hu : RS K u q] : RS K (tSeq t u) (pSeq p q) where
  ok := by
    rintro c w env σ Dp D rfl E h pr
    refine ht.ok c w env σ { Dp with nx := q Dp } _ rfl E ⟨fun e1 σ1 w1 E1 s1 n1 => ?_, h.rt, h.bk, h.ct⟩ pr
    exact hu.ok c w1 e1 σ1 Dp D rfl E1 (h.on s1) n1
def pRet (pe : PX) (D : PEnds) (env : PEnv) : Prop := pe env fun s _ => D.rt s
instance (priority := low) rs_ret {K : Frag} {te : TE} {pe : PX} [he : RE K te pe] : RS K (tRet te) (pRet pe) where
  ok := by
    rintro c w env σ Dp D rfl E h p
    exact he.ok c w env σ _ _ rfl E p fun v s e1 w1 R q => h.rt v s w1 R.ev.wok R.ev.le0 R.val R.res q
def pRetV (i : Nat) (D : PEnds) (env : PEnv) : Prop := match env[i]? with
  | some (some (.bor _)) => False
  | some (some (.bt _)) => False
  | some (some s) => D.rt s
  | _ => False
instance rs_retV {K : Frag} {i : Nat} : RS K (tRet (tVar i)) (pRetV i) where
  ok := by
    rintro c w env σ Dp D rfl E h p
    unfold pRetV at p
    split at p
    · exact p.elim
    · exact p.elim
    · rename_i s hn hn2 e
      obtain ⟨v, h1, h2⟩ := E.at' i _ e
      refine ⟨v, h1, h.rt v s w E.wok E.le0 h2 ?_ p⟩
      cases s with
      | bor xs => exact absurd rfl (hn xs)
      | bt t => exact absurd rfl (hn2 t)
      | _ => rfl
    · exact p.elim
def pIf (pt : PTt) (p q : PSt) (D : PEnds) (env : PEnv) : Prop := pt env fun b e => if b = true then p D e else q D e
instance rs_if {K : Frag} {tt : TT} {t u : TS} {pt : PTt} {p q : PSt} [hc : RT K tt pt] [ht : RS K t p] [hu : RS K u q] : RS K (tIfS tt t u) (pIf pt p q) where
  ok := by
    rintro c w env σ Dp D rfl E h pr
    refine hc.ok c w env σ _ _ rfl E pr fun b e1 w1 E1 l1 q1 => ?_
    cases b with
    | true => exact ht.ok c w1 e1 σ Dp D rfl E1 (h.on l1.f) q1
    | false => exact hu.ok c w1 e1 σ Dp D rfl E1 (h.on l1.f) q1
def pAsg (pe : PX) (i : Nat) (D : PEnds) (env : PEnv) : Prop := pe env fun s e => D.nx (e.set i (some s))
instance rs_asg {K : Frag} {te : TE} {pe : PX} {i : Nat} [he : RE K te pe] : RS K (tAsg te (gName i)) (pAsg pe i) where
  ok := by
    rintro c w env σ Dp D rfl E h p
    exact he.ok c w env σ _ _ rfl E p fun v s e1 w1 R q => h.nx _ _ w1 (R.ev.set R.val R.new) R.lw.f q
/-- targets -/
class RG (K : Frag) (g : TG) (pg : outParam (PyData → PEnv → (PEnv → Prop) → Prop)) : Prop where
  ok : ∀ (c : Ct) (w : Wd) (env : PEnv) (σ : St) (v : V) (x : PyData) (Qp : PEnv → Prop) (Q : St → Hpp → Prop), c.K = K → EnvOk c w env σ → Den K w.F v x → pg x env Qp → (∀ env' σ', EnvOk c w env' σ' → Qp env' → Q σ' w.H) → g v σ w.H Q
class RGs (K : Frag) (g : TGs) (pg : outParam (List PyData → PEnv → (PEnv → Prop) → Prop)) : Prop where
  ok : ∀ (c : Ct) (w : Wd) (env : PEnv) (σ : St) (vs : List V) (xs : List PyData) (Qp : PEnv → Prop) (Q : St → Hpp → Prop), c.K = K → EnvOk c w env σ → DenAll K w.F vs xs → pg xs env Qp → (∀ env' σ', EnvOk c w env' σ' → Qp env' → Q σ' w.H) → g vs σ w.H Q
def qName (i : Nat) (x : PyData) (env : PEnv) (Q : PEnv → Prop) : Prop := Q (env.set i (some (.d x)))
instance rg_name {K : Frag} {i : Nat} : RG K (gName i) (qName i) where
  ok := by
    rintro c w env σ v x Qp Q rfl E d p k
    exact k _ _ (E.set (s := .d x) d (fun _ z => nomatch z)) p
def qNil (xs : List PyData) (env : PEnv) (Q : PEnv → Prop) : Prop := match xs with
  | [] => Q env
  | _ => False
def qCons (pg : PyData → PEnv → (PEnv → Prop) → Prop) (pr : List PyData → PEnv → (PEnv → Prop) → Prop) (xs : List PyData) (env : PEnv) (Q : PEnv → Prop) : Prop := match xs with
  | x :: r => pg x env fun e => pr r e Q
  | [] => False
def qTup (n : Nat) (pr : List PyData → PEnv → (PEnv → Prop) → Prop) (x : PyData) (env : PEnv) (Q : PEnv → Prop) : Prop := match x with
  | .tuple xs => xs.length = n ∧ pr xs env Q
  | _ => False
instance rgs_nil {K : Frag} : RGs K gNil qNil where
  ok := by
    rintro c w env σ vs xs Qp Q rfl E d p k
    unfold qNil at p
    split at p
    · cases d; exact ⟨rfl, k env σ E p⟩
    · exact p.elim
instance rgs_cons {K : Frag} {g : TG} {gs : TGs} {pg : PyData → PEnv → (PEnv → Prop) → Prop} {pr : List PyData → PEnv → (PEnv → Prop) → Prop} [hg : RG K g pg] [hr : RGs K gs pr] : RGs K (gCons g gs) (qCons pg pr) where
  ok := by
    rintro c w env σ vs xs Qp Q rfl E d p k
    unfold qCons at p
    split at p
    · cases d with
      | cons h t =>
        refine ⟨_, _, rfl, hg.ok c w env σ _ _ _ _ rfl E h p fun e1 σ1 E1 q1 => ?_⟩
        exact hr.ok c w e1 σ1 _ _ _ _ rfl E1 t q1 k
    · exact p.elim
instance rg_tup {K : Frag} {n : Nat} {gs : TGs} {pr : List PyData → PEnv → (PEnv → Prop) → Prop} [hr : RGs K gs pr] : RG K (gTup K n gs) (qTup n pr) where
  ok := by
    rintro c w env σ v x Qp Q rfl E d p k
    unfold qTup at p
    split at p
    · obtain ⟨a, vs, e, h1, h2⟩ := d.tupE
      exact ⟨a, vs, e, SqT.same E.wok.sub h1, h2.len.trans p.1, hr.ok c w env σ _ _ _ _ rfl E h2 p.2 k⟩
    · exact p.elim
def pPar (i j : Nat) (pa : PAr) (D : PEnds) (env : PEnv) : Prop := pa env fun xs e => match xs with
  | [x, y] => D.nx ((e.set i (some (.d x))).set j (some (.d y)))
  | _ => False
instance rs_par {K : Frag} {ta : TA} {pa : PAr} {i j : Nat} [ha : RAd K ta pa] : RS K (tPar i j ta) (pPar i j pa) where
  ok := by
    rintro c w env σ Dp D rfl E h p
    refine ha.ok c w env σ _ _ rfl E p fun vs xs e1 w1 E1 l1 d1 q1 => ?_
    split at q1
    · cases d1 with
      | cons a t => cases t with
        | cons b t =>
          cases t
          exact ⟨_, _, rfl, h.nx _ _ w1 ((E1.set (s := .d _) a (fun _ z => nomatch z)).set (s := .d _) b (fun _ z => nomatch z)) l1.f q1⟩
    · exact q1.elim
/-! lists of one's own -/
end Pu

namespace L2
open PySem PySem.Spec PyProof.Rows
section
variable {X : Cx} {tg : Expr}
/-- a list or a tuple, as it comes -/
def iSq (K : PySem.W.Frag) (tl : TE) : TI := fun σ H R => tl σ H fun x H1 => (∃ a, x = .ref a ∧ (∃ xs, SqL K H1 a xs) ∧ R (Itl K a) H1) ∨ ∃ a, x = .ref a ∧ (∃ xs, SqT K H1 a xs) ∧ R (Itt K a) H1
theorem pi_sq {l : Expr} {tl : TE} (hl : PE X l tl) : PI X tg l (iSq X.K tl) := by
  intro pins s σ H R I h
  refine thn (hl pins s σ H _ I h) fun v s1 ⟨x, H1, I1, r1, q1⟩ => ?_
  rcases q1 with ⟨a, e, ⟨xs, hq⟩, q⟩ | ⟨a, e, ⟨xs, hq⟩, q⟩
  · subst e
    cases r1
    obtain ⟨its, rv, p, hz⟩ := I1.list hq
    refine wpAny_pyIter_list p.isList ?_
    refine ⟨s1.heap.objs.size, [s1.heap.objs.size], _, _, H1, rfl, I1.kept (t' := s1.toks) fun b o e => Heap.get?_push_of_some _ e, turn_list a _, ⟨_, Heap.get?_push_size _ rfl, rfl, rfl⟩, fun b hb => ?_, q⟩
    have e : b = s1.heap.objs.size := by simpa using hb
    subst e
    exact I1.fpOk (Nat.le_refl _) (I1.hok.fresh (Nat.le_refl _))
  · subst e
    cases r1
    obtain ⟨its, rv, p, hz⟩ := I1.tuple hq
    refine wpAny_pyIter_tuple (show s1.heap.IsTuple a its.toArray from p) ?_
    refine ⟨s1.heap.objs.size, [s1.heap.objs.size], _, _, H1, rfl, I1.kept (t' := s1.toks) fun b o e => Heap.get?_push_of_some _ e, turn_tuple a _, ⟨_, Heap.get?_push_size _ rfl, rfl, rfl⟩, fun b hb => ?_, q⟩
    have e : b = s1.heap.objs.size := by simpa using hb
    subst e
    exact I1.fpOk (Nat.le_refl _) (I1.hok.fresh (Nat.le_refl _))
theorem pi_sqK {K : PySem.W.Frag} {l : Expr} {tl : TE} (h : X.K = K) (hl : PE X l tl) : PI X tg l (iSq K tl) := by subst h; exact pi_sq hl
theorem op_eqDK {K : PySem.W.Frag} (h : X.K = K) (hu : X.A.units + 64 < cLine) : OpR X (compareOp .Eq) (rEqD K) := by subst h; exact op_eqD hu
theorem op_neDK {K : PySem.W.Frag} (h : X.K = K) (hu : X.A.units + 64 < cLine) : OpR X (compareOp .NotEq) (rNeD K) := by subst h; exact op_neD hu
end
end L2
namespace Pu
open PySem L2 My Prf
/-! while -/
def pWhile (pt : PTt) (pb : PSt) (D : PEnds) (env : PEnv) : Prop := ∃ Inv : Nat → PEnv → Prop, (∃ m, Inv m env) ∧ ∀ m e, Inv m e → pt e fun b e2 => if b = true then pb ⟨fun e3 => ∃ m', m' < m ∧ Inv m' e3, D.rt, D.nx, fun e3 => ∃ m', m' < m ∧ Inv m' e3⟩ e2 else D.nx e2
instance rs_while {K : Frag} {tt : TT} {tb : TS} {pt : PTt} {pb : PSt} [ht : RT K tt pt] [hb : RS K tb pb] : RS K (tWhile tt tb) (pWhile pt pb) where
  ok := by
    rintro c w env σ Dp D rfl E h ⟨Inv, ⟨m0, i0⟩, step⟩
    refine ⟨fun m σ' H' => ∃ e w', w'.H = H' ∧ EnvOk c w' e σ' ∧ Same w.F w'.F ∧ Inv m e, ⟨m0, env, w, rfl, E, Same.refl _, i0⟩, ?_⟩
    rintro m σ1 _ ⟨e1, w1, rfl, E1, s1, i1⟩
    refine ht.ok c w1 e1 σ1 _ _ rfl E1 (step m e1 i1) fun b e2 w2 E2 l2 q2 => ?_
    cases b with
    | true =>
      refine ⟨fun σ' H' => ∃ e w', w'.H = H' ∧ EnvOk c w' e σ' ∧ Same w.F w'.F ∧ ∃ m', m' < m ∧ Inv m' e, fun σ' H' ⟨e, w', e1, E', s', m', hm, i'⟩ => ⟨m', hm, e, w', e1, E', s', i'⟩, ?_⟩
      refine hb.ok c w2 e2 σ1 ⟨fun e3 => ∃ m', m' < m ∧ Inv m' e3, Dp.rt, Dp.nx, fun e3 => ∃ m', m' < m ∧ Inv m' e3⟩ _ rfl E2 ⟨fun e3 σ3 w3 E3 s3 n3 => ⟨e3, w3, rfl, E3, s1.trans (l2.f.trans s3), n3⟩, h.rt, fun e3 σ3 w3 E3 s3 n3 => h.nx e3 σ3 w3 E3 (s1.trans (l2.f.trans s3)) n3, fun e3 σ3 w3 E3 s3 n3 => ⟨e3, w3, rfl, E3, s1.trans (l2.f.trans s3), n3⟩⟩ q2
    | false => exact h.nx e2 σ1 w2 E2 (s1.trans l2.f) q2
/-! what is walked -/
def Walk (c : Ct) (w1 : Wd) (J : It) (xs : List PyData) : Prop :=
  ∀ w', w'.Ok → Le c.w0 w' → Same w1.F w'.F → (∀ i, i < xs.length → J.go i w'.H) ∧ J.stop xs.length w'.H ∧ ∀ i v H', J.yld i w'.H v H' → i < xs.length → ∃ w2 x, w2.H = H' ∧ w2.Ok ∧ Le w' w2 ∧ xs[i]? = some x ∧ Den c.K w2.F v x
class RI (K : Frag) (wi : TI) (pi : outParam PAr) : Prop where
  ok : ∀ (c : Ct) (w : Wd) (env : PEnv) (σ : St) (Qp : List PyData → PEnv → Prop) (R : It → Hpp → Prop), c.K = K → EnvOk c w env σ → pi env Qp → (∀ J xs env' w', EnvOk c w' env' σ → Lw w w' → Walk c w' J xs → Qp xs env' → R J w'.H) → wi σ w.H R
theorem walk_list {c : Ct} {w1 : Wd} {a : Addr} {vs : List V} {xs : List PyData} (d : DenAll c.K w1.F vs xs) (h : ∀ w', w'.Ok → Le c.w0 w' → Same w1.F w'.F → SqL c.K w'.H a vs) : Walk c w1 (Itl c.K a) xs := by
  intro w' ok l s
  have q := h w' ok l s
  have hl := d.len
  refine ⟨fun i hi => ⟨vs, vs[i]'(by omega), q, List.getElem?_eq_getElem _⟩, ⟨vs, q, by omega⟩, fun i v H' y hi => ?_⟩
  obtain ⟨e, y⟩ := y
  obtain ⟨x, g1, g2⟩ := d.get (y vs q)
  exact ⟨w', x, e.symm, ok, Le.refl w', g1, Den.same s g2⟩
theorem walk_tup {c : Ct} {w1 : Wd} {a : Addr} {vs : List V} {xs : List PyData} (d : DenAll c.K w1.F vs xs) (h : ∀ w', w'.Ok → Le c.w0 w' → Same w1.F w'.F → SqT c.K w'.H a vs) : Walk c w1 (Itt c.K a) xs := by
  intro w' ok l s
  have q := h w' ok l s
  have hl := d.len
  refine ⟨fun i hi => ⟨vs, vs[i]'(by omega), q, List.getElem?_eq_getElem _⟩, ⟨vs, q, by omega⟩, fun i v H' y hi => ?_⟩
  obtain ⟨e, y⟩ := y
  obtain ⟨x, g1, g2⟩ := d.get (y vs q)
  exact ⟨w', x, e.symm, ok, Le.refl w', g1, Den.same s g2⟩
def asSeq (x : PyData) (k : List PyData → Prop) : Prop := match x with
  | .list xs => k xs
  | .tuple xs => k xs
  | _ => False
def pIterV (i : Nat) (env : PEnv) (Q : List PyData → PEnv → Prop) : Prop := match env[i]? with
  | some (some (.d x)) => asSeq x fun xs => Q xs env
  | some (some (.own xs)) => Q xs (env.set i (some (.d (.list xs))))
  | some (some (.bor xs)) => Q xs env
  | _ => False
instance ri_var {K : Frag} {i : Nat} : RI K (iSq K (tVar i)) (pIterV i) where
  ok := by
    rintro c w env σ Qp R rfl E p k
    unfold pIterV at p
    split at p
    · rename_i x e
      obtain ⟨v, h1, h2⟩ := E.at' i _ e
      refine ⟨v, h1, ?_⟩
      unfold asSeq at p
      split at p
      · obtain ⟨a, vs, e, g1, g2⟩ := Den.lstE h2
        exact .inl ⟨a, e, ⟨vs, E.wok.sub.seq g1⟩, k _ _ env w E (Lw.refl w) (walk_list g2 fun w' ok l s => (s.trans ok.sub).seq g1) p⟩
      · obtain ⟨a, vs, e, g1, g2⟩ := Den.tupE h2
        exact .inr ⟨a, e, ⟨vs, SqT.same E.wok.sub g1⟩, k _ _ env w E (Lw.refl w) (walk_tup g2 fun w' ok l s => SqT.same (s.trans ok.sub) g1) p⟩
      · exact p.elim
    · rename_i xs e
      obtain ⟨w', v, e', hv, E', l, d⟩ := E.frz e
      refine ⟨v, hv, ?_⟩
      obtain ⟨a, vs, e, g1, g2⟩ := d.lstE
      have := k _ _ _ w' E' l (walk_list g2 fun w' ok l s => (s.trans ok.sub).seq g1) p
      rw [e'] at this
      exact .inl ⟨a, e, ⟨vs, by rw [← e']; exact E'.wok.sub.seq g1⟩, this⟩
    · rename_i xs e
      obtain ⟨v, h1, h2⟩ := E.at' i _ e
      refine ⟨v, h1, ?_⟩
      rcases h2 with h2 | ⟨l, vs, ev, g1, g2, g3⟩
      · obtain ⟨a, vs, e, g1, g2⟩ := Den.lstE h2
        exact .inl ⟨a, e, ⟨vs, E.wok.sub.seq g1⟩, k _ _ env w E (Lw.refl w) (walk_list g2 fun w' ok l s => (s.trans ok.sub).seq g1) p⟩
      · exact .inl ⟨l, ev, ⟨vs, SqL.of (E.le0.h _ _ g1 g2)⟩, k _ _ env w E (Lw.refl w) (walk_list g3 fun w' ok l' s => SqL.of (l'.h _ _ g1 g2)) p⟩
    · exact p.elim
/-- lo, lo + 1, .. -/
def rngD (lo : Int) (n : Nat) : List PyData := (List.range n).map fun k : Nat => PyData.int (lo + (k : Int))
theorem rngD_len (lo : Int) (n : Nat) : (rngD lo n).length = n := by simp [rngD]
theorem rngD_get {lo : Int} {n i : Nat} {x : PyData} (h : (rngD lo n)[i]? = some x) : i < n ∧ x = .int (lo + (i : Int)) := by
  unfold rngD at h
  rw [List.getElem?_map] at h
  by_cases hi : i < n
  · rw [List.getElem?_range hi] at h; cases h; exact ⟨hi, rfl⟩
  · rw [List.getElem?_eq_none (by simpa using hi)] at h; cases h
theorem walk_rng {c : Ct} {w1 : Wd} {lo : Int} {n : Nat} : Walk c w1 (Itr lo n) (rngD lo n) := by
  intro w' ok l s
  refine ⟨fun i hi => by rw [rngD_len] at hi; exact hi, by rw [rngD_len]; exact Nat.le_refl _, fun i v H' y hi => ?_⟩
  obtain ⟨e, y⟩ := y
  subst y
  rw [rngD_len] at hi
  refine ⟨w', .int (lo + i), e.symm, ok, Le.refl w', ?_, .int _⟩
  unfold rngD
  rw [List.getElem?_map, List.getElem?_range hi]; rfl
def pRng1 (pa : PAr) (env : PEnv) (Q : List PyData → PEnv → Prop) : Prop := pa env fun xs e => match xs with
  | [.int j] => (-(2 ^ 62) ≤ j ∧ j < 2 ^ 62) ∧ Q (rngD 0 j.toNat) e
  | _ => False
instance ri_rng1 {K : Frag} {ta : TA} {pa : PAr} [ha : RAv K ta pa] : RI K (iRng1 ta) (pRng1 pa) where
  ok := by
    rintro c w env σ Qp R rfl E p k
    refine ha.ok c w env σ _ _ rfl E p fun vs xs e1 w1 E1 l1 v1 q1 => ?_
    split at q1
    · cases v1 with | cons h t => cases t; exact ⟨_, by rw [h.intE], q1.1.1, q1.1.2, k _ _ e1 w1 E1 l1 walk_rng q1.2⟩
    · exact q1.elim
/-! for -/
def pForGo (xs : List PyData) (pg : PyData → PEnv → (PEnv → Prop) → Prop) (pb : PSt) (D : PEnds) (env : PEnv) : Prop :=
  ∃ Inv : Nat → PEnv → Prop, Inv 0 env ∧ (∀ i x e, xs[i]? = some x → Inv i e → pg x e fun e2 => pb ⟨Inv (i + 1), D.rt, D.nx, Inv (i + 1)⟩ e2) ∧ ∀ e, Inv xs.length e → D.nx e
def pFor (pi : PAr) (pg : PyData → PEnv → (PEnv → Prop) → Prop) (pb : PSt) (D : PEnds) (env : PEnv) : Prop := pi env fun xs e => pForGo xs pg pb D e
instance rs_for {K : Frag} {wi : TI} {g : TG} {tb : TS} {pi : PAr} {pg : PyData → PEnv → (PEnv → Prop) → Prop} {pb : PSt} [hi : RI K wi pi] [hg : RG K g pg] [hb : RS K tb pb] : RS K (tFor wi g tb) (pFor pi pg pb) where
  ok := by
    rintro c w env σ Dp D rfl E h p
    refine hi.ok c w env σ _ _ rfl E p fun J xs e1 w1 E1 l1 wk ⟨Iv, i0, step, fin⟩ => ?_
    refine ⟨fun i m σ' H' => m = xs.length - i ∧ i ≤ xs.length ∧ ∃ e w', w'.H = H' ∧ EnvOk c w' e σ' ∧ Same w1.F w'.F ∧ Iv i e, ⟨xs.length, rfl, Nat.zero_le _, e1, w1, rfl, E1, Same.refl _, i0⟩, ?_⟩
    rintro i m σ2 _ ⟨rfl, hle, e2, w2, rfl, E2, s2, i2⟩
    obtain ⟨go, stop, yld⟩ := wk w2 E2.wok E2.le0 s2
    by_cases hlt : i < xs.length
    · refine .inr ⟨go i hlt, fun σ' H' => i + 1 ≤ xs.length ∧ ∃ e w', w'.H = H' ∧ EnvOk c w' e σ' ∧ Same w1.F w'.F ∧ Iv (i + 1) e, fun σ' H' ⟨q0, q⟩ => ⟨xs.length - (i + 1), by omega, rfl, q0, q⟩, fun v H' y => ?_⟩
      obtain ⟨w2', x, rfl, ok2, le2, hx, dx⟩ := yld i v H' y hlt
      replace E2 := E2.mono ok2 le2
      replace s2 := s2.trans le2.f
      clear yld go stop y le2 ok2
      generalize w2' = w2 at E2 s2 dx
      refine hg.ok c w2 e2 σ2 v x _ _ rfl E2 dx (step i x e2 hx i2) fun e3 σ3 E3 q3 => ?_
      refine hb.ok c w2 e3 σ3 ⟨Iv (i + 1), Dp.rt, Dp.nx, Iv (i + 1)⟩ _ rfl E3 ⟨fun e4 σ4 w4 E4 s4 n4 => ⟨hlt, e4, w4, rfl, E4, s2.trans s4, n4⟩, h.rt, fun e4 σ4 w4 E4 s4 n4 => h.nx e4 σ4 w4 E4 (l1.f.trans (s2.trans s4)) n4, fun e4 σ4 w4 E4 s4 n4 => ⟨hlt, e4, w4, rfl, E4, s2.trans s4, n4⟩⟩ q3
    · have e : i = xs.length := by omega
      subst e
      exact .inl ⟨stop, h.nx e2 σ2 w2 E2 (l1.f.trans s2) (fin e2 i2)⟩
theorem for_rng {lo : Int} {n : Nat} {pg : PyData → PEnv → (PEnv → Prop) → Prop} {pb : PSt} {D : PEnds} {env : PEnv} (Inv : Nat → PEnv → Prop) (h0 : Inv 0 env)
    (hs : ∀ (i : Nat) e, i < n → Inv i e → pg (.int (lo + (i : Int))) e fun e2 => pb ⟨Inv (i + 1), D.rt, D.nx, Inv (i + 1)⟩ e2) (hd : ∀ e, Inv n e → D.nx e) : pForGo (rngD lo n) pg pb D env :=
  ⟨Inv, h0, fun i x e hx hi => by obtain ⟨h1, rfl⟩ := rngD_get hx; exact hs i e h1 hi, fun e h => hd e (by rwa [rngD_len] at h)⟩
theorem for_seq {xs : List PyData} {pg : PyData → PEnv → (PEnv → Prop) → Prop} {pb : PSt} {D : PEnds} {env : PEnv} (Inv : Nat → PEnv → Prop) (h0 : Inv 0 env)
    (hs : ∀ (i : Nat) x e, xs[i]? = some x → Inv i e → pg x e fun e2 => pb ⟨Inv (i + 1), D.rt, D.nx, Inv (i + 1)⟩ e2) (hd : ∀ e, Inv xs.length e → D.nx e) : pForGo xs pg pb D env := ⟨Inv, h0, hs, hd⟩
/-! comprehensions -/
def SV.lent : SV → Option SV
  | .own xs => some (.bor xs)
  | .tr _ => none
  | .bt _ => none
  | s => some s
/-! slices -/
def asI (x : PyData) (k : Int → Prop) : Prop := match x with
  | .int i => k i
  | _ => False
/-! a def -/
theorem args_at {K : Frag} {w : Wd} : ∀ {md : List Md} {vs : List V} {as : List SV}, Args K w md vs as → as.length = vs.length ∧ ∀ (i : Nat) s, as[i]? = some s → (∃ v, vs[i]? = some v ∧ VR ⟨K, w, noZ⟩ w v s) ∧ ∀ u a, ¬ s.foot u a
  | _, _, _, .nil => ⟨rfl, fun i s h => by simp at h⟩
  | _, _, _, .dat h t => ⟨by simp [(args_at t).1], fun i s e => match i, e with
    | 0, e => by simp at e; subst e; exact ⟨⟨_, rfl, h⟩, fun _ _ z => z⟩
    | i + 1, e => by simpa using (args_at t).2 i s (by simpa using e)⟩
  | _, _, _, .vw h t => ⟨by simp [(args_at t).1], fun i s e => match i, e with
    | 0, e => by
      simp at e; subst e
      refine ⟨⟨_, rfl, ?_⟩, fun _ _ z => z⟩
      rcases h with h | ⟨l, vs, ys, e1, e2, h1, h2, h3⟩
      · exact .inl h
      · cases e2; exact .inr ⟨l, vs, e1, h1, h2, h3⟩
    | i + 1, e => by simpa using (args_at t).2 i s (by simpa using e)⟩
  | _, _, _, .bt h t => ⟨by simp [(args_at t).1], fun i s e => match i, e with
    | 0, e => by simp at e; subst e; exact ⟨⟨_, rfl, h⟩, fun _ _ z => z⟩
    | i + 1, e => by simpa using (args_at t).2 i s (by simpa using e)⟩
  | _, _, _, .st h t => ⟨by simp [(args_at t).1], fun i s e => match i, e with
    | 0, e => by simp at e; subst e; exact ⟨⟨_, rfl, h⟩, fun _ _ z => z⟩
    | i + 1, e => by simpa using (args_at t).2 i s (by simpa using e)⟩
theorem enter {K : Frag} {ts : TS} {ps : PSt} [hs : RS K ts ps] {md : List Md} {psp : PSp} {vs : List V} {H : Hpp} {Q : VK} {E : XK} {N : List Str} (h : spOf K md psp vs H Q E)
    (hb : ∀ as Qp, psp as Qp → ps ⟨fun _ => Qp (.d .none), Qp, fun _ => False, fun _ => False⟩ (as.map some ++ List.replicate (N.length - md.length) none)) : ts { nx := fun _ H' => Q .non H', rt := Q } (L2.start N vs) H := by
  obtain ⟨w, as, Qp, rfl, ok, a, p, k⟩ := h
  obtain ⟨hl, hat⟩ := args_at a
  have look : ∀ (i : Nat) s, (as.map some ++ List.replicate (N.length - md.length) none)[i]? = some (some s) → as[i]? = some s := fun i s e => by
    rw [List.getElem?_append] at e
    split at e
    · rw [List.getElem?_map] at e
      cases q : as[i]? with
      | none => rw [q] at e; cases e
      | some t => rw [q] at e; cases e; rfl
    · rw [List.getElem?_replicate] at e
      split at e <;> cases e
  refine hs.ok ⟨K, w, noZ⟩ w (as.map some ++ List.replicate (N.length - md.length) none) (L2.start N vs) _ _ rfl ⟨ok, Le.refl w, by simp [L2.start, hl, a.len], fun i s e => ?_, fun i j s t v u a e _ _ _ f => absurd f ((hat i _ (look i _ e)).2 v a), fun a z => z.elim, fun a j t u z => z.elim⟩ ⟨fun env σ w' E' _ q => ?_, fun v s w' ok' l h r q => k v s w' ok' l h r q, fun _ _ _ _ _ z => z, fun _ _ _ _ _ z => z⟩ (hb as Qp p)
  · obtain ⟨⟨v, h1, h2⟩, _⟩ := hat i s (look i s e)
    refine ⟨v, ?_, h2⟩
    unfold L2.start
    rw [List.getElem?_append_left (by rw [List.length_map]; exact (List.getElem?_eq_some_iff.mp h1).1), List.getElem?_map, h1]; rfl
  · exact k .non (.d .none) w' E'.wok E'.le0 (show Den _ _ _ _ from .non) rfl q
/-- the law itself -/
def pLaw : PSp := fun as Q => ∃ ns : List Int, as = [.bor (ns.map .int)] ∧ ns.length ≤ 63 ∧ Q (.d (.bool true))
theorem denInts {K : Frag} {F : Hpp} : ∀ ns : List Int, DenAll K F (ns.map V.int) (ns.map .int)
  | [] => .nil
  | n :: r => .cons (.int n) (denInts r)
theorem law_in {K : Frag} : ∀ vs H Q E, spLaw K vs H Q E → spOf K [.vw] pLaw vs H Q E := by
  rintro vs H Q E ⟨a, ns, rfl, hS, hl, k⟩
  refine ⟨⟨fun _ => False, H, fun b => if b = a then H a else none⟩, [.bor (ns.map .int)], fun s => s = .d (.bool true), rfl, ⟨fun b o e => ?_, fun _ z => z.elim, fun _ z => z.elim⟩, .vw (.inl (.lst ?_ (denInts ns))) .nil, ⟨ns, rfl, hl, rfl⟩, fun v s w' ok l h r e => ?_⟩
  · dsimp only at e
    split at e
    · rename_i z; rw [z]; exact e
    · cases e
  · rcases hS with (h | ⟨o, h⟩) | h
    · exact .inl (.inl (by dsimp only; rw [if_pos rfl]; exact h))
    · exact .inl (.inr ⟨o, by dsimp only; rw [if_pos rfl]; exact h⟩)
    · exact .inr h
  · subst e
    have : v = .bl true := Den.blE h
    subst this
    exact k _
end Pu

namespace L2
open PySem PySem.Spec PyProof.Rows
end L2
namespace Pu
open PySem L2 My Prf
/-! what the readings come to -/
theorem pIx_dq0 {q : Rat} {Q : SV → Prop} : pIx (dq q) (.int 0) Q = Q (.d (.int q.num)) := rfl
theorem pIx_dq1 {q : Rat} {Q : SV → Prop} : pIx (dq q) (.int 1) Q = Q (.d (.int (q.den : Int))) := rfl
theorem lay_int {i : Int} : (PyData.int i).canLay0 = true := rfl
theorem lay_bool {b : Bool} : (PyData.bool b).canLay0 = true := rfl
theorem dep_int {i : Int} : (PyData.int i).depth = 0 := rfl
theorem dep_bool {b : Bool} : (PyData.bool b).depth = 0 := rfl
theorem lay_dq {q : Rat} : (dq q).canLay0 = true := rfl
theorem dep_dq {q : Rat} : (dq q).depth = 1 := rfl
theorem eqv_int {i j : Int} : PyData.eqv (.int i) (.int j) = decide (i = j) := by
  show (i == j) = _
  by_cases h : i = j <;> simp [h]
theorem rat_ext {p q : Rat} (h1 : p.num = q.num) (h2 : (p.den : Int) = q.den) : p = q := Rat.ext h1 (by omega)
theorem eqv_dq {p q : Rat} : PyData.eqv (dq p) (dq q) = decide (p = q) := by
  show (PyData.eqv (.int p.num) (.int q.num) && (PyData.eqv (.int (p.den : Int)) (.int (q.den : Int)) && true)) = _
  rw [eqv_int, eqv_int, Bool.and_true]
  by_cases h : p = q
  · subst h; simp
  · rw [decide_eq_false h]
    by_cases h1 : p.num = q.num
    · have h2 : ¬ (p.den : Int) = (q.den : Int) := fun z => h (rat_ext h1 z)
      rw [decide_eq_false h2, Bool.and_false]
    · rw [decide_eq_false h1, Bool.false_and]
theorem tyD_dq {q : Rat} : tyD (dq q) = "tuple" := rfl
theorem kit_bb : kitB "bool" "bool" = some true := by decide +kernel
theorem kit_ii : kitB "int" "int" = some true := by decide +kernel
/-! the draws -/
theorem ints_eq {K : Frag} {F : Hpp} : ∀ {vs : List V} {ns : List Int}, DenAll K F vs (ns.map .int) → vs = ns.map V.int
  | _, [], .nil => rfl
  | _, n :: r, .cons h t => by rw [h.intE, ints_eq t]; rfl
def ps_take : PSp := fun as Q => ∃ n : Int, as = [.st, .d (.int n)] ∧ 0 < n ∧ Sm 4000 n ∧ ∀ d : Int, 0 ≤ d → d < n → Q (.d (.int d))
def ps_begun : PSp := fun as Q => ∃ (ns : List Int) (k : Int), as = [.bor (ns.map .int), .d (.int k)] ∧ 0 ≤ k ∧ k ≤ 63 ∧ Q .st
theorem take_in {K : Frag} : ∀ vs H Q E, spOf K [.st, .dat] ps_take vs H Q E → sp_take vs H Q E := by
  rintro vs H Q E ⟨w, as, Qp, rfl, ok, a, ⟨n, rfl, n0, sn, q⟩, k⟩
  cases a with
  | st h t => cases t with
    | dat h' t =>
      cases t
      obtain ⟨p, e, hm⟩ := h
      subst e
      rw [Den.intE h']
      refine ⟨p, n, rfl, ok.st p hm, n0, sn, fun d H' d0 d1 S' kp => ?_⟩
      have out : ∀ b o, w.H b = some o → b ≠ p → H' b = some o := fun b o e ne => kp b o ne e
      have pn := ok.nf p hm
      refine k (.int d) (.d (.int d)) ⟨w.M, H', w.F⟩ ⟨fun b o e => out b o (ok.sub b o e) (fun z => by rw [z, pn] at e; cases e), fun r hr => ?_, ok.nf⟩ ⟨⟨Same.refl _, fun b o e nb => out b o e (fun z => nb (z ▸ hm)), fun _ z => z, fun _ z => .inl z, fun b e => ?_⟩, fun _ _ z => .inl z⟩ (Den.int d) rfl (q d d0 d1)
      · by_cases z : r = p
        · subst z; exact S'
        · exact (ok.st r hr).kp z kp
      · cases hb : w.H b with
        | none => rfl
        | some o =>
          by_cases z : b = p
          · subst z; obtain ⟨_, _, _, hp, _⟩ := S'.ex; rw [show H' b = none from e] at hp; cases hp
          · have := out b o hb z; rw [show H' b = none from e] at this; cases this
theorem begun_in {K : Frag} : ∀ vs H Q E, spOf K [.vw, .dat] ps_begun vs H Q E → sp_begun K vs H Q E := by
  rintro vs H Q E ⟨w, as, Qp, rfl, ok, a, ⟨ns, kk, rfl, k0, k1, q⟩, k⟩
  cases a with
  | vw h t => cases t with
    | dat h' t =>
      cases t
      obtain ⟨a, us, e, hS, hd⟩ := h.lst ok
      subst e
      rw [Den.intE h']
      refine ⟨a, ns, kk, rfl, by rw [← ints_eq hd]; exact hS, k0, k1, fun p H' hp S' kp => ?_⟩
      have out : ∀ b o, w.H b = some o → H' b = some o := fun b o e => kp b o (ne_of_none e hp) e
      refine k (.ref p) .st ⟨fun b => w.M b ∨ b = p, H', w.F⟩ ⟨fun b o e => out b o (ok.sub b o e), fun r hr => ?_, fun r hr => ?_⟩ ⟨⟨Same.refl _, fun b o e _ => out b o e, fun _ z => .inl z, fun b z => ?_, fun b e => ?_⟩, fun _ _ z => .inl z⟩ ⟨p, rfl, .inr rfl⟩ rfl q
      · rcases hr with hr | rfl
        · exact (ok.st r hr).kp (ok.mne hp hr) kp
        · exact S'
      · rcases hr with hr | rfl
        · exact ok.nf r hr
        · exact ok.fnone hp
      · rcases z with z | rfl
        · exact .inl z
        · exact .inr hp
      · cases hb : w.H b with
        | none => rfl
        | some o => have := out b o hb; rw [show H' b = none from e] at this; cases this
/-! fractions -/
def ps_gcd : PSp := fun as Q => ∃ a b : Int, as = [.d (.int a), .d (.int b)] ∧ Q (.d (.int ((Int.gcd a b : Nat) : Int)))
def ps_lowP : PSp := fun as Q => ∃ t b : Int, as = [.d (.int t), .d (.int b)] ∧ 0 < b ∧ Sm 8000 t ∧ Sm 8000 b ∧ Q (.d (dq (Rat.divInt t b)))
def ps_bin (f : Rat → Rat → Rat) : PSp := fun as Q => ∃ p q : Rat, as = [.d (dq p), .d (dq q)] ∧ SmQ 3900 p ∧ SmQ 3900 q ∧ Q (.d (dq (f p q)))
def ps_parted : PSp := fun as Q => ∃ p q : Rat, as = [.d (dq p), .d (dq q)] ∧ SmQ 3900 p ∧ SmQ 3900 q ∧ q ≠ 0 ∧ Q (.d (dq (p / q)))
def ps_less : PSp := fun as Q => ∃ p q : Rat, as = [.d (dq p), .d (dq q)] ∧ SmQ 3900 p ∧ SmQ 3900 q ∧ Q (.d (.bool (decide (p < q))))
end Pu

/-! ### more rules over the hand layer: range down, +, all, any, isinstance by several kinds, zip, enumerate -/
namespace L2
open PySem PySem.Spec PyProof.Rows
section
variable {X : Cx} {tg : Expr}
end
end L2

namespace L2
open PySem PySem.Spec PyProof.Rows
section
variable {X : Cx}
end
end L2
namespace Pu
open PySem L2 My Prf
end Pu
namespace Pu
open PySem L2 My Prf
theorem pGet0 {x : PyData} {xs : List PyData} {Q : SV → Prop} : pGet (x :: xs) 0 Q = Q (.d x) := by unfold pGet; rw [at0]
theorem pGet1 {x y : PyData} {xs : List PyData} {Q : SV → Prop} : pGet (x :: y :: xs) 1 Q = Q (.d y) := by unfold pGet; rw [at1]
theorem pGet_of {xs : List PyData} {i : Int} {z : PyData} {Q : SV → Prop} (h : atI xs i = some z) (q : Q (.d z)) : pGet xs i Q := by unfold pGet; rw [h]; exact q
theorem menuP {xs : List Int} {d : Int} (h0 : 0 ≤ d) (h1 : d < xs.length) : ∃ z, z ∈ xs ∧ atI (xs.map PyData.int) d = some (.int z) := by
  obtain ⟨n, rfl⟩ := Int.eq_ofNat_of_zero_le h0
  have hn : n < xs.length := by omega
  refine ⟨xs[n], List.getElem_mem hn, atI_nat ?_⟩
  rw [List.getElem?_map, List.getElem?_eq_getElem hn]; rfl
end Pu
namespace Pu
open PySem L2 My Prf
end Pu

/-! the rules once more, over judgements that do not unfold -/
namespace L2
open PySem PySem.Spec PyProof.Rows
structure QE (X : Cx) (e : Expr) (t : TE) : Prop where
  out : PE X e  t
structure QT (X : Cx) (e : Expr) (t : TT) : Prop where
  out : PT X e  t
structure QW (X : Cx) (e : Expr) (t : TT) : Prop where
  out : PW X e  t
structure QA (X : Cx) (e : List Expr) (t : TA) : Prop where
  out : PA X e  t
structure QSs (X : Cx) (e : List Stmt) (t : TS) : Prop where
  out : PSs X e  t
structure QS (X : Cx) (e : Stmt) (t : TS) : Prop where
  out : PS X e  t
structure QGs (X : Cx) (e : List Expr) (t : TGs) : Prop where
  out : PGs X e  t
structure QG (X : Cx) (e : Expr) (t : TG) : Prop where
  out : PG X e  t
structure QI (X : Cx) (e e2 : Expr) (t : TI) : Prop where
  out : PI X e e2  t
section
variable {X : Cx}
theorem qpv (i: Nat) {x : Str} {pos : Pos} (hN: X.N[i]? = some x := by rfl) (hv: Vis X.env.scope x := by first | exact Or.inl rfl | exact Or.inr (Or.inl rfl) | exact Or.inr (Or.inr rfl)) (hd: (x == ("__debug__" : Str)) = false := by decide) (hcd: (x == ("__classdict__" : Str)) = false := by decide) : QE X (.Name x pos) (tVar i) := ⟨pv i hN hv hd hcd⟩
theorem qpe_int {i j pos} : QE X (.Constant (.int i) j pos) (tC (.int i)) := ⟨pe_int ⟩
theorem qpe_bl {b j pos} : QE X (.Constant (.bool b) j pos) (tC (.bl b)) := ⟨pe_bl ⟩
theorem qpe_bltn {x : Str} {v : V} {u : Value} {pos : Pos} (hg: Gl X x) (hm: X.mg x = none) (hv: bootBuiltins x = some u) (r: RelV v u) (hn: x ≠ "__name__" := by decide) (hd: (x == ("__debug__" : Str)) = false := by decide) : QE X (.Name x pos) (tC v) := ⟨pe_bltn hg hm hv r hn hd⟩
theorem qpe_op {op : Operator} {r : R2} (ho: OpR X (binaryOp op) r) (ha: QE X a ta) (hb: QE X b tb) : QE X (.BinOp a op b pos) (tOp r ta tb) := ⟨pe_op ho ha.out hb.out⟩
theorem qpe_un {op : UnaryOp} {r : V → Hp → VK → Prop} (ho: UnR X (unaryOp op) r) (ha: QE X a ta) : QE X (.UnaryOp op a pos) (tUn r ta) := ⟨pe_un ho ha.out⟩
theorem qpe_cmpR {op : CmpOp} {r : R2} (ho: OpR X (compareOp op) r) (ha: QE X a ta) (hb: QE X b tb) (hm: behindInMarks op b = false) : QE X (.Compare a [op] [b] pos) (tOp r ta tb) := ⟨pe_cmpR ho ha.out hb.out hm⟩
theorem qpt_cmpR {op : CmpOp} {r : R2} (ho: OpR X (compareOp op) r) (ha: QE X a ta) (hb: QE X b tb) (hm: behindInMarks op b = false) : QT X (.Compare a [op] [b] pos) (tTest (tOp r ta tb)) := ⟨pt_cmpR ho ha.out hb.out hm⟩
theorem qpe_and {rest : List Expr} (ha: QE X a ta) (hb: QE X (.BoolOp .And (b :: rest) pos) tb) : QE X (.BoolOp .And (a :: b :: rest) pos) (tAndV ta tb) := ⟨pe_and ha.out hb.out⟩
theorem qpe_one {op} {t : TE} (h: QE X a t) : QE X (.BoolOp op [a] pos) t := ⟨pe_one h.out⟩
theorem qpw_or {rest : List Expr} (ha: QT X a tA) (hb: QW X (.BoolOp .Or (b :: rest) pos) tB') : QW X (.BoolOp .Or (a :: b :: rest) pos) (tOr tA tB') := ⟨pw_or ha.out hb.out⟩
theorem qpw_or1 (ha: QT X a tA) : QW X (.BoolOp .Or [a] pos) tA := ⟨pw_or1 ha.out⟩
theorem qpt_not (ha: QT X a tA) : QT X (.UnaryOp .Not a pos) (tNot tA) := ⟨pt_not ha.out⟩
theorem qpt_val {e : Expr} {t : TE} (h: QE X e t) (he: ∀ whole, isTrue e X.env whole = (do let v ← whole; standAt e.pos; holding [v] (truthy v)) := by intro _; rfl) : QT X e (tB t) := ⟨pt_val h.out he⟩
theorem qpe_ifExp {c : Expr} (hc: QT X c tA) (ha: QE X a ta) (hb: QE X b tb) : QE X (.IfExp c a b pos) (tIf tA ta tb) := ⟨pe_ifExp hc.out ha.out hb.out⟩
theorem qpe_tup {x1} (h: QA X es t) : QE X (.Tuple es x1 pos) (tTup t) := ⟨pe_tup h.out⟩
theorem qpe_lst (h: QA X es t) : QE X (.List es pos) (tLst t) := ⟨pe_lst h.out⟩
theorem qpe_ix {r : R2} (hr: IxR X r) (ha: QE X a ta) (hb: QE X b tb) (hs: PlainIx b) : QE X (.Subscript a b pos) (tOp r ta tb) := ⟨pe_ix hr ha.out hb.out hs⟩
theorem qpe_call (F: FnOk X.prog X.w X.K X.mg X.base CX k f fd ps sp) (hr: Room k X.A) (hg: Gl X x) (hm: X.mg x = some (.ref f)) (hk: PySem.W.keepIn X.K (.ref f) = true) (hb: Binds X.K fd ps ds) (hd: Vals dvs ds) (hx: Passes CX X E) (ha: QA X (e :: es) t) (hdb: (x == ("__debug__" : Str)) = false := by decide) (he: starEach (e :: es) X.env = (false, eval e X.env) :: starEach es X.env := by rfl) (hpl: (backTo pos (starEach es X.env)).any (·.1) = false := by rfl) : QE X (.Call (.Name x p) (e :: es) [] pos) (tCall sp dvs E t) := ⟨pe_call F hr hg hm hk hb hd hx ha.out hdb he hpl⟩
theorem qpe_callB {id : String} (hc: CallR X (.builtin id) r) (hg: Gl X x) (hm: X.mg x = none) (hv: bootBuiltins x = some (.builtin id)) (ha: QA X (e :: es) t) (hn: x ≠ "__name__" := by decide) (hdb: (x == ("__debug__" : Str)) = false := by decide) (he: starEach (e :: es) X.env = (false, eval e X.env) :: starEach es X.env := by rfl) (hpl: (backTo pos (starEach es X.env)).any (·.1) = false := by rfl) : QE X (.Call (.Name x p) (e :: es) [] pos) (tCB r t) := ⟨pe_callB hc hg hm hv ha.out hn hdb he hpl⟩
theorem qpa_nil  : QA X [] tNil := ⟨pa_nil ⟩
theorem qpa_cons (ha: QE X e te) (hr: QA X es t) (hs: starEach (e :: es) X.env = (false, eval e X.env) :: starEach es X.env := by rfl) : QA X (e :: es) (tCons te t) := ⟨pa_cons ha.out hr.out hs⟩
theorem qpss_nil  : QSs X [] tNext := ⟨pss_nil ⟩
theorem qpss_one {st : Stmt} (h1: QS X st t) : QSs X [st] t := ⟨pss_one h1.out⟩
theorem qpss_cons {st : Stmt} {rest : List Stmt} (h1: QS X st t) (h2: QSs X rest u) : QSs X (st :: rest) (tSeq t u) := ⟨pss_cons h1.out h2.out⟩
theorem qps_never {st : Stmt} : QS X st tNever := ⟨ps_never ⟩
theorem qps_ret (he: QE X e te) : QS X (.Return (some e) pos) (tRet te) := ⟨ps_ret he.out⟩
theorem qps_if {c : Expr} {a b : List Stmt} {tc : TT} (hc: QT X c tc) (ha: QSs X a t) (hb: QSs X b u) : QS X (.If c a b pos) (tIfS tc t u) := ⟨ps_if hc.out ha.out hb.out⟩
theorem qps_while {c : Expr} {body : List Stmt} {tc : TT} {tb : TS} (hp: PassesOwn (model X.prog X.w) X.A X.env X.xe) (hc: QT X c tc) (hb: QSs X body tb) : QS X (.While c body [] pos) (tWhile tc tb) := ⟨ps_while hp hc.out hb.out⟩
theorem qps_for {iter : Expr} {body : List Stmt} {wi : TI} {g : TG} {tb : TS} {pos : Pos} (hp: PassesOwn (model X.prog X.w) X.A X.env X.xe) (hc: X.calm = true) (hi: QI X tg iter wi) (hg: QG X tg g) (hb: QSs X body tb) (hs: ∀ x, foldedSetIterable iter X.env x = pure x := by intro _; rfl) : QS X (.For tg iter body [] pos) (tFor wi g tb) := ⟨ps_for hp hc hi.out hg.out hb.out hs⟩
theorem qps_set {i : Nat} {x : Str} {e : Expr} {te : TE} {pos' : Pos} (hN: X.N.Nodup) (hi: X.N[i]? = some x) (hx: Loc X.env.scope x) (he: QE X e te) (hs: swapsWith e (some (.Name x pos')) pos.line X.env = pure false := by rfl) (hf: X.fn x = true ∨ X.env.scope.names.lookup x = some .local := by first | exact .inl rfl | exact .inr rfl | assumption) : QS X (.Assign [.Name x pos'] e pos) (tAsg te (gName i)) := ⟨ps_set hN hi hx he.out hs hf⟩
theorem qps_par {i j : Nat} {x y : Str} {a b : Expr} {ta : TA} {px py pt : Pos} {kt k2 pt2} (hc: X.calm = true) (hN: X.N.Nodup) (hi: X.N[i]? = some x) (hj: X.N[j]? = some y) (hij: i ≠ j) (hx: X.env.scope.names.lookup x = some .local) (hy: X.env.scope.names.lookup y = some .local) (ha: QA X [a, b] ta) (hw: swappedStores [.Tuple [.Name x px, .Name y py] kt pt] (.Tuple [a, b] k2 pt2) X.env = pure (some [x, y])) (hs: swapsWithSole [.Tuple [.Name x px, .Name y py] kt pt] (.Tuple [a, b] k2 pt2) pos.line X.env = pure false := by rfl) : QS X (.Assign [.Tuple [.Name x px, .Name y py] kt pt] (.Tuple [a, b] k2 pt2) pos) (tPar i j ta) := ⟨ps_par hc hN hi hj hij hx hy ha.out hw hs⟩
theorem qps_asg {tg e : Expr} {te : TE} {g : TG} (he: QE X e te) (hg: QG X tg g) (hs: swapsWithSole [tg] e pos.line X.env = pure false := by rfl) (hw: swappedStores [tg] e X.env = pure none := by rfl) (h1: (assignEach [tg] X.env).map (·.2) = [assign tg X.env] := by rfl) : QS X (.Assign [tg] e pos) (tAsg te g) := ⟨ps_asg he.out hg.out hs hw h1⟩
theorem qpg_name {i : Nat} {x : Str} (hN: X.N.Nodup) (hi: X.N[i]? = some x) (hx: Loc X.env.scope x) (hf: X.fn x = true ∨ X.env.scope.names.lookup x = some .local := by first | exact .inl rfl | exact .inr rfl | assumption) : QG X (.Name x pos) (gName i) := ⟨pg_name hN hi hx hf⟩
theorem qpgs_nil  : QGs X [] gNil := ⟨pgs_nil ⟩
theorem qpgs_cons {e : Expr} {es : List Expr} {t : TG} {u : TGs} (h1: QG X e t) (h2: QGs X es u) (hs: (assignEach (e :: es) X.env).map (·.2) = assign e X.env :: (assignEach es X.env).map (·.2) := by rfl) : QGs X (e :: es) (gCons t u) := ⟨pgs_cons h1.out h2.out hs⟩
theorem qpg_tupK {K : PySem.W.Frag} {pos : Pos} {es : List Expr} {k : Nat} {t : TGs} {n : Nat} (h: X.K = K) (hc: X.calm = true) (hg: QGs X es t) (hn: (assignEach es X.env).length = n := by rfl) (hst: (assignEach es X.env).findIdx? (·.1) = none := by rfl) : QG X (.Tuple es k pos) (gTup K n t) := ⟨pg_tupK h hc hg.out hn hst⟩
theorem qpi_range1 {a : Expr} {ta : TA} {p pos : Pos} (hg: Gl X "range") (hm: X.mg "range" = none) (ha: QA X [a] ta) (hs: starEach [a] X.env = [(false, eval a X.env)] := by rfl) : QI X tg (.Call (.Name "range" p) [a] [] pos) (iRng1 ta) := ⟨pi_range1 hg hm ha.out hs⟩
theorem qpi_sqK {K : PySem.W.Frag} {l : Expr} {tl : TE} (h: X.K = K) (hl: QE X l tl) : QI X tg l (iSq K tl) := ⟨pi_sqK h hl.out⟩
theorem QW.pt {X : Cx} {e : Expr} {t : TT} (h : QW X e t) : QT X e t := ⟨h.out.pt⟩
end
end L2

namespace Pu
open PySem L2 My Prf
end Pu

namespace Pu
open PySem L2 My Prf
end Pu
namespace Pu
open PySem L2 My Prf
theorem asSeq_dq {q : Rat} {k : List PyData → Prop} : asSeq (dq q) k = k [.int q.num, .int (q.den : Int)] := rfl
end Pu
namespace Pu
open PySem L2 My Prf
theorem tyD_int {i : Int} : tyD (.int i) = "int" := rfl
theorem tyD_bool {b : Bool} : tyD (.bool b) = "bool" := rfl
end Pu
namespace Pu
open PySem L2 My Prf
end Pu

/-! ### zip and enumerate of lists -/
namespace L2
open PySem PySem.Spec PyProof.Rows
section
variable {X : Cx} {pins : List (Addr × Obj)} {σ : St} {H : Hp} {s : Shared} {h' : Heap}
end
section
variable {X : Cx}
end
end L2

namespace Pu
open PySem L2 My Prf
end Pu

namespace Pu
open PySem L2 My Prf
theorem qTup_tup {n : Nat} {pr : List PyData → PEnv → (PEnv → Prop) → Prop} {xs : List PyData} {env : PEnv} {Q : PEnv → Prop} : qTup n pr (.tuple xs) env Q = (xs.length = n ∧ pr xs env Q) := rfl
end Pu

/-! ### zip of two tuples -/
namespace L2
open PySem PySem.Spec PyProof.Rows
section
variable {prog : Program} {w : World} {A : Around} {E : Value → Shared → Prop} {s : Shared}
end
end L2

namespace L2
open PySem PySem.Spec PyProof.Rows
section
variable {prog : Program} {w : World} {A : Around} {E : Value → Shared → Prop} {s : Shared}
end
section
variable {X : Cx}
end
end L2
namespace Pu
open PySem L2 My Prf
end Pu

namespace Pu
open PySem L2 My Prf
theorem eqv_bool {a b : Bool} : PyData.eqv (.bool a) (.bool b) = decide (a = b) := by cases a <;> cases b <;> rfl
end Pu

namespace Pu
open PySem L2 My Prf
/-! things of one's own of several lists -/
def leaves : List PyData → OT
  | [] => .nil
  | x :: r => .cons (.leaf x) (leaves r)
def OT.len : OT → Nat
  | .cons _ t => t.len + 1
  | .nil => 0
  | _ => 1
theorem tre_leavesE {K : Frag} {w : Wd} : ∀ {xs : List PyData} {vs : List V}, Tre K w (leaves xs) vs → DenAll K w.F vs xs
  | [], _, e => by cases (show _ = [] from e); exact .nil
  | _ :: _, _, ⟨_, _, rfl, ⟨_, e, h⟩, t⟩ => by cases e; exact .cons h (tre_leavesE t)
/-- the heap but for the drawing states -/
noncomputable def hm (w : Wd) : Hpp := fun a => open Classical in if w.M a then none else w.H a
theorem hm_some {w : Wd} {a : Addr} {o : HO} (h : w.H a = some o) (n : ¬ w.M a) : hm w a = some o := by unfold hm; rw [if_neg n]; exact h
theorem hm_inv {w : Wd} {a : Addr} {o : HO} (h : hm w a = some o) : w.H a = some o ∧ ¬ w.M a := by
  unfold hm at h; split at h
  · cases h
  · exact ⟨h, ‹_›⟩
theorem hm_F {w : Wd} (ok : w.Ok) : Same w.F (hm w) := fun a o h => hm_some (ok.sub a o h) fun z => by rw [ok.nf a z] at h; cases h
theorem hm_lw {w w' : Wd} (l : Lw w w') : Same (hm w) (hm w') := fun a o h => by
  obtain ⟨h1, h2⟩ := hm_inv h
  exact hm_some (l.h _ _ h1 h2) (l.nm (by rw [h1]; simp) h2)
theorem Tre.den {K : Frag} {w : Wd} (ok : w.Ok) : ∀ {t : OT} {vs : List V}, Tre K w t vs → (∀ a ∈ t.fp, ¬ w.M a) → DenAll K (hm w) vs t.dat
  | .leaf _, _, ⟨_, e, h⟩, _ => by rw [e]; exact .cons (Den.same (hm_F ok) h) .nil
  | .nd true a _, _, ⟨e, _, h, k⟩, n => by rw [e]; exact .cons (.lst (SqL.of (hm_some h (n a (by simp [OT.fp])))) (Tre.den ok k fun q hq => n q (by simp [OT.fp, hq]))) .nil
  | .nd false a _, _, ⟨e, _, h, k⟩, n => by rw [e]; exact .cons (.tup (SqT.of (hm_some h (n a (by simp [OT.fp])))) (Tre.den ok k fun q hq => n q (by simp [OT.fp, hq]))) .nil
  | .nil, _, e, _ => by rw [show _ = [] from e]; exact .nil
  | .cons _ _, _, ⟨v, r, e, h, t⟩, n => by
    rw [e]
    exact (Tre.den ok h fun q hq => n q (by simp [OT.fp, hq])).app (vs := [v]) (us := r) (Tre.den ok t fun q hq => n q (by simp [OT.fp, hq]))
def VH (K : Frag) (w : Wd) (v : V) (x : PyData) : Prop := Den K (hm w) v x
theorem VR.vh {c : Ct} {w : Wd} {v : V} {t : OT} {x : PyData} (ok : w.Ok) (h : VR c w v (.tr t)) (e : t.dat = [x]) : VH c.K w v x := by
  have := h.1.den ok fun a ha => (h.2 a ha).2.2.1
  rw [e] at this
  cases this with | cons a _ => exact a
theorem VV.vh {K : Frag} {w : Wd} {v : V} {x : PyData} (ok : w.Ok) (h : VV K w v x) : VH K w v x := by
  rcases h with h | ⟨l, vs, xs, rfl, rfl, h1, h2, h3⟩
  · exact Den.same (hm_F ok) h
  · exact .lst (SqL.of (hm_some h1 h2)) (DenAll.same (hm_F ok) h3)
class RH (K : Frag) (te : TE) (pd : outParam PDt) : Prop where
  ok : ∀ (c : Ct) (w : Wd) (env : PEnv) (σ : St) (Qp : PyData → PEnv → Prop) (Q : VK), c.K = K → EnvOk c w env σ → pd env Qp → (∀ v x env' w', EnvOk c w' env' σ → Lw w w' → VH K w' v x → Qp x env' → Q v w'.H) → te σ w.H Q
def pVarH (i : Nat) (env : PEnv) (Q : PyData → PEnv → Prop) : Prop := match env[i]? with
  | some (some (.d x)) => Q x env
  | some (some (.own xs)) => Q (.list xs) env
  | some (some (.bor xs)) => Q (.list xs) env
  | some (some (.tr t)) => ∃ x, t.dat = [x] ∧ Q x env
  | _ => False
instance rh_var {K : Frag} {i : Nat} : RH K (tVar i) (pVarH i) where
  ok := by
    rintro c w env σ Qp Q rfl E p k
    unfold pVarH at p
    split at p
    · rename_i x e
      obtain ⟨v, h1, h2⟩ := E.at' i _ e
      exact ⟨v, h1, k v _ env w E (Lw.refl w) (Den.same (hm_F E.wok) h2) p⟩
    · rename_i xs e
      obtain ⟨v, h1, l, vs, e', g1, g2, g3, g4, g5⟩ := E.at' i _ e
      exact ⟨v, h1, k v _ env w E (Lw.refl w) (VV.vh E.wok (.inr ⟨l, vs, xs, e', rfl, g1, g3, g5⟩)) p⟩
    · rename_i xs e
      obtain ⟨v, h1, h2⟩ := E.at' i _ e
      exact ⟨v, h1, k v _ env w E (Lw.refl w) ((h2.vv E.le0).vh E.wok) p⟩
    · rename_i t e
      obtain ⟨x, e1, q⟩ := p
      obtain ⟨v, h1, h2⟩ := E.at' i _ e
      exact ⟨v, h1, k v _ env w E (Lw.refl w) (h2.vh E.wok e1) q⟩
    · exact p.elim
/-! laid -/
def Ct.with (c : Ct) (t : OT) : Ct := ⟨c.K, c.w0, fun a => c.Z a ∨ a ∈ t.fp⟩
/-! a part of it -/
end Pu
namespace L2
open PySem PySem.Spec PyProof.Rows
section
variable {X : Cx} {e : Expr}
end
end L2

namespace Pu
open PySem L2 My Prf
/-! what is told by an expression, looked at -/
def SV.asH (s : SV) (k : PyData → Prop) : Prop := match s with
  | .d x => k x
  | .own xs => k (.list xs)
  | .tr t => ∃ x, t.dat = [x] ∧ k x
  | _ => False
def pdatH (pe : PX) (env : PEnv) (Q : PyData → PEnv → Prop) : Prop := pe env fun s e => s.asH fun x => Q x e
instance (priority := 200) rh_re {K : Frag} {te : TE} {pe : PX} [h : RE K te pe] : RH K te (pdatH pe) where
  ok := by
    rintro c w env σ Qp Q rfl E p k
    refine h.ok c w env σ _ Q rfl E p fun v s env' w' R q => ?_
    have E' := R.ev
    cases s with
    | d x => exact k v x env' w' E' R.lw (Den.same (hm_F E'.wok) R.val) q
    | own xs =>
      obtain ⟨l, vs, e', g1, g2, g3, g4, g5⟩ := R.val
      exact k v _ env' w' E' R.lw (VV.vh E'.wok (.inr ⟨l, vs, xs, e', rfl, g1, g3, g5⟩)) q
    | tr t =>
      obtain ⟨x, e, q⟩ := q
      exact k v x env' w' E' R.lw (VR.vh E'.wok R.val e) q
    | bor xs => exact (show False from q).elim
    | bt t => exact (show False from q).elim
    | st => exact (show False from q).elim
/-! borrowed things of several lists -/
theorem VR.btv {c : Ct} {w : Wd} {v : V} {t : OT} (l : Le c.w0 w) (h : VR c w v (.bt t)) : TV c.K w v t := by
  have lw : Lw ⟨c.w0.M, c.w0.H, w.F⟩ w := ⟨Same.refl _, l.h, l.m, l.mn, l.dom⟩
  exact ⟨h.1.mono lw h.2, fun a ha => l.nm (h.1.has a ha) (h.2 a ha)⟩
class RTr (K : Frag) (te : TE) (pb : outParam (PEnv → (OT → PEnv → Prop) → Prop)) : Prop where
  ok : ∀ (c : Ct) (w : Wd) (env : PEnv) (σ : St) (Qp : OT → PEnv → Prop) (Q : VK), c.K = K → EnvOk c w env σ → pb env Qp → (∀ v t env' w', EnvOk c w' env' σ → Lw w w' → TV K w' v t → Qp t env' → Q v w'.H) → te σ w.H Q
def pTrV (i : Nat) (env : PEnv) (Q : OT → PEnv → Prop) : Prop := match env[i]? with
  | some (some (.d x)) => Q (.leaf x) env
  | some (some (.tr t)) => Q t env
  | some (some (.bt t)) => Q t env
  | _ => False
instance rtr_var {K : Frag} {i : Nat} : RTr K (tVar i) (pTrV i) where
  ok := by
    rintro c w env σ Qp Q rfl E p k
    unfold pTrV at p
    split at p
    · rename_i x e
      obtain ⟨v, h1, h2⟩ := E.at' i _ e
      exact ⟨v, h1, k v (.leaf x) env w E (Lw.refl w) ⟨⟨v, rfl, h2⟩, fun a z => nomatch z⟩ p⟩
    · rename_i t e
      obtain ⟨v, h1, h2⟩ := E.at' i _ e
      exact ⟨v, h1, k v _ env w E (Lw.refl w) ⟨h2.1, fun a ha => (h2.2 a ha).2.2.1⟩ p⟩
    · rename_i t e
      obtain ⟨v, h1, h2⟩ := E.at' i _ e
      exact ⟨v, h1, k v _ env w E (Lw.refl w) (h2.btv E.le0) p⟩
    · exact p.elim
/-- a part, as it stands in a slot -/
def OT.lvs : OT → Option (List PyData)
  | .nil => some []
  | .cons (.leaf x) t => t.lvs.map (x :: ·)
  | _ => none
theorem leaves_lvs : ∀ {t : OT} {xs : List PyData}, t.lvs = some xs → t = leaves xs
  | .nil, _, h => by cases h; rfl
  | .cons (.leaf x) t, xs, h => by
    have h' : t.lvs.map (x :: ·) = some xs := h
    cases q : t.lvs with
    | none => rw [q] at h'; cases h'
    | some ys => rw [q] at h'; cases h'; rw [leaves_lvs q]; rfl
def OT.sv : OT → SV
  | .leaf (.list xs) => .bor xs
  | .leaf x => .d x
  | .nd true a k => match k.lvs with
    | some xs => .bor xs
    | none => .bt (.nd true a k)
  | t => .bt t
theorem VR.sv {c : Ct} {w : Wd} {v : V} {u : OT} (h : VR c w v (.bt u)) : VR c w v u.sv := by
  unfold OT.sv
  split
  · obtain ⟨⟨v', e, h⟩, _⟩ := h
    cases e; exact .inl h
  · obtain ⟨⟨v', e, h⟩, _⟩ := h
    cases e; exact h
  · rename_i a k
    split
    · rename_i xs q
      obtain ⟨⟨e, us, h1, h2⟩, h3⟩ := h
      cases e
      rw [leaves_lvs q] at h2
      exact .inr ⟨a, us, rfl, h1, h3 a (by simp [OT.fp]), tre_leavesE (w := ⟨c.w0.M, c.w0.H, w.F⟩) h2⟩
    · exact h
  · exact h
theorem sv_new {c : Ct} {env : PEnv} {σ : St} {v : V} : ∀ {u : OT}, New c env σ v u.sv := by
  intro u a f
  unfold OT.sv at f
  split at f
  · exact f.elim
  · exact f.elim
  · split at f
    · exact f.elim
    · exact f.elim
  · exact f.elim
def OT.pair : OT → Option (OT × OT)
  | .nd false _ (.cons u (.cons v .nil)) => some (u, v)
  | .leaf (.tuple [x, y]) => some (.leaf x, .leaf y)
  | _ => none
/-- a, b = it -/
def pUnp (i a b : Nat) (pr : List PyData → PEnv → (PEnv → Prop) → Prop) (D : PEnds) (env : PEnv) : Prop := match env[i]? with
  | some (some (.bt t)) => ∃ u v, t.pair = some (u, v) ∧ D.nx ((env.set a (some u.sv)).set b (some v.sv))
  | some (some (.d x)) => qTup 2 pr x env D.nx
  | _ => False
theorem two_at {c : Ct} {w : Wd} {v : V} {t u1 u2 : OT} (ok : w.Ok) (l : Le c.w0 w) (h : VR c w v (.bt t)) (e : t.pair = some (u1, u2)) : ∃ p x y, v = .ref p ∧ SqT c.K w.H p [x, y] ∧ VR c w x (.bt u1) ∧ VR c w y (.bt u2) := by
  unfold OT.pair at e
  split at e
  · rename_i a k1 k2
    cases e
    obtain ⟨⟨ev, us, h1, x, r, e1, hx, y, r2, e2, hy, e3⟩, h3⟩ := h
    cases ev
    have e3' : r2 = [] := e3
    subst e1; subst e2; subst e3'
    exact ⟨a, x, y, rfl, SqT.of (l.h _ _ h1 (h3 a (by simp [OT.fp]))), ⟨hx, fun q hq => h3 q (by simp [OT.fp, hq])⟩, ⟨hy, fun q hq => h3 q (by simp [OT.fp, hq])⟩⟩
  · cases e
    obtain ⟨⟨v', ev, h⟩, _⟩ := h
    cases ev
    obtain ⟨p, vs, rfl, h1, h2⟩ := Den.tupE h
    cases h2 with
    | cons hx t => cases t with
      | cons hy t =>
        cases t
        exact ⟨p, _, _, rfl, SqT.same ok.sub h1, ⟨⟨_, rfl, hx⟩, fun q hq => nomatch hq⟩, ⟨⟨_, rfl, hy⟩, fun q hq => nomatch hq⟩⟩
  · cases e
instance (priority := high) rs_unp {K : Frag} {i a b : Nat} {pr : List PyData → PEnv → (PEnv → Prop) → Prop} [hr : RGs K (gCons (gName a) (gCons (gName b) gNil)) pr] : RS K (tAsg (tVar i) (gTup K 2 (gCons (gName a) (gCons (gName b) gNil)))) (pUnp i a b pr) where
  ok := by
    rintro c w env σ Dp D rfl E h p
    unfold pUnp at p
    split at p
    · rename_i t e
      obtain ⟨u1, u2, hp, q⟩ := p
      obtain ⟨v, h1, h2⟩ := E.at' i _ e
      obtain ⟨p, x, y, rfl, hs, hx, hy⟩ := two_at E.wok E.le0 h2 hp
      refine ⟨_, h1, p, [x, y], rfl, hs, rfl, x, [y], rfl, y, [], rfl, rfl, ?_⟩
      have E1 := E.set (i := a) hx.sv sv_new
      have E2 := E1.set (i := b) hy.sv sv_new
      exact h.nx _ _ w E2 (Same.refl _) q
    · rename_i x e
      obtain ⟨v, h1, h2⟩ := E.at' i _ e
      refine ⟨v, h1, ?_⟩
      exact rg_tup.ok c w env σ v x _ _ rfl E h2 p fun e2 σ2 E2 q2 => h.nx e2 σ2 w E2 (Same.refl _) q2
    · exact p.elim
end Pu

namespace Pu
open PySem L2 My Prf
theorem fdE {a : Int} {n : Nat} (h : (n : Int) ∣ a) : a.fdiv n = a / n := Int.fdiv_eq_ediv_of_dvd h
theorem fdN (a n : Nat) : (a : Int).fdiv (n : Int) = ((a / n : Nat) : Int) := by
  rw [Int.fdiv_eq_ediv_of_nonneg _ (Int.natCast_nonneg n)]; rfl
theorem mu_num (p q : Rat) : p.num.fdiv ((Int.gcd p.num q.den : Nat) : Int) * q.num.fdiv ((Int.gcd q.num p.den : Nat) : Int) = (p * q).num := by
  have e : p * q = Rat.mul p q := rfl
  rw [e]; unfold Rat.mul
  show _ = p.num.divExact _ _ * q.num.divExact _ _
  rw [Int.divExact_eq_ediv, Int.divExact_eq_ediv, fdE (Int.gcd_dvd_left ..), fdE (Int.gcd_dvd_left ..)]
  rfl
theorem mu_den (p q : Rat) : (p.den : Int).fdiv ((Int.gcd q.num p.den : Nat) : Int) * (q.den : Int).fdiv ((Int.gcd p.num q.den : Nat) : Int) = ((p * q).den : Int) := by
  have e : p * q = Rat.mul p q := rfl
  rw [e]; unfold Rat.mul
  show _ = ((p.den.divExact _ _ * q.den.divExact _ _ : Nat) : Int)
  rw [Nat.divExact_eq_div, Nat.divExact_eq_div, fdN, fdN]
  rfl
theorem pl_both (p q : Rat) (g t : Int) (hg : g = ((Int.gcd (p.den : Int) (q.den : Int) : Nat) : Int)) (ht : t = p.num * (q.den : Int).fdiv g + q.num * (p.den : Int).fdiv g) :
    t.fdiv ((Int.gcd t g : Nat) : Int) = (p + q).num ∧ (p.den : Int).fdiv g * (q.den : Int).fdiv ((Int.gcd t g : Nat) : Int) = ((p + q).den : Int) := by
  have e : p + q = Rat.add p q := rfl
  have hgn : Int.gcd (p.den : Int) (q.den : Int) = Nat.gcd p.den q.den := rfl
  rw [hgn] at hg
  rw [e]; unfold Rat.add
  dsimp only
  split
  · rename_i h1
    rw [h1] at hg
    subst hg
    have ht' : t = p.num * q.den + q.num * p.den := by rw [ht, fdN, fdN]; simp
    have h2 : Int.gcd t ((1 : Nat) : Int) = 1 := by simp
    rw [h2, ht']
    refine ⟨by simp, ?_⟩
    rw [fdN, fdN]; simp
  · rename_i h1
    rw [Rat.maybeNormalize_eq]
    rw [hg, fdN, fdN] at ht
    have h3 : Int.gcd t g = t.natAbs.gcd (p.den.gcd q.den) := by rw [hg]; rfl
    rw [h3]
    subst ht
    refine ⟨?_, ?_⟩
    · show _ = Int.divExact _ _ (Int.gcd_dvd_left _ ((p.den.gcd q.den : Nat) : Int))
      rw [Int.divExact_eq_ediv]
      exact fdE (Int.gcd_dvd_left _ ((p.den.gcd q.den : Nat) : Int))
    · show _ = ((_ / _ : Nat) : Int)
      rw [hg, fdN, fdN]
      have hd : (p.num * ((q.den / p.den.gcd q.den : Nat) : Int) + q.num * ((p.den / p.den.gcd q.den : Nat) : Int)).natAbs.gcd (p.den.gcd q.den) ∣ q.den := Nat.dvd_trans (Nat.gcd_dvd_right ..) (Nat.gcd_dvd_right ..)
      rw [Nat.mul_div_assoc _ hd, Int.natCast_mul]
theorem gcd_den_ne {t : Int} (q : Rat) : ((Int.gcd t (q.den : Int) : Nat) : Int) ≠ 0 := by
  have h := q.den_nz
  intro h0
  have h1 : Int.gcd t (q.den : Int) = 0 := by omega
  have h2 := (Int.gcd_eq_zero_iff.mp h1).2
  omega
theorem gcd_ne_r {t g : Int} (h : g ≠ 0) : ((Int.gcd t g : Nat) : Int) ≠ 0 := by
  intro h0
  have h1 : Int.gcd t g = 0 := by omega
  exact h (Int.gcd_eq_zero_iff.mp h1).2
theorem fd_sm {k : Nat} {a g : Int} (h : Sm k a) (g1 : 0 ≤ g) : Sm k (a.fdiv g) := by
  unfold Sm at *
  rw [Int.fdiv_eq_ediv_of_nonneg _ g1]
  rcases Int.lt_or_le 0 g with h0 | h0
  · have h2 := Int.natAbs_ediv_le_natAbs a g
    omega
  · have : g = 0 := by omega
    subst this
    rw [Int.ediv_zero]; exact Nat.two_pow_pos k
theorem qTup_dq {pr : List PyData → PEnv → (PEnv → Prop) → Prop} {q : Rat} {env : PEnv} {Q : PEnv → Prop} : qTup 2 pr (dq q) env Q = pr [.int q.num, .int q.den] env Q := by
  unfold dq; rw [qTup_tup]; exact propext ⟨fun h => h.2, fun h => ⟨rfl, h⟩⟩
theorem dq_neg (q : Rat) : PyData.tuple [.int (-q.num), .int q.den] = dq (-q) := rfl
theorem inv_num {q : Rat} (h : q ≠ 0) : dq q⁻¹ = .tuple [.int (if 0 < q.num then (q.den : Int) else -(q.den : Int)), .int (if 0 < q.num then q.num else -q.num)] := by
  have hn := num_ne h
  have e : q⁻¹ = Rat.inv q := rfl
  unfold dq
  rw [e]; unfold Rat.inv
  by_cases h0 : q.num < 0
  · rw [dif_pos h0, if_neg (by omega), if_neg (by omega)]
    show PyData.tuple [_, .int ((q.num.natAbs : Nat) : Int)] = _
    rw [show ((q.num.natAbs : Nat) : Int) = -q.num by omega]
  · have h1 : 0 < q.num := by omega
    rw [dif_neg h0, dif_pos h1, if_pos h1, if_pos h1]
    show PyData.tuple [_, .int ((q.num.natAbs : Nat) : Int)] = _
    rw [show ((q.num.natAbs : Nat) : Int) = q.num by omega]
theorem inv_sm {k : Nat} {q : Rat} (h : SmQ k q) (hq : q ≠ 0) : SmQ k q⁻¹ := by
  have e := inv_num hq
  unfold dq at e
  injection e with e
  injection e with e1 e2
  injection e2 with e2 _
  injection e1 with e1
  injection e2 with e2
  refine ⟨?_, ?_⟩
  · show Sm k q⁻¹.num
    rw [e1]
    have := h.2
    unfold Sm at *
    split <;> omega
  · show Sm k (q⁻¹.den : Int)
    rw [e2]
    have := h.1
    unfold Sm at *
    split <;> omega
end Pu

namespace Pu
open PySem L2 My Prf
/-! step by step: a thing is looked into only where its form is known -/
section
variable {x y : PyData} {xs ys : List PyData} {i j : Nat} {env e : PEnv} {s : SV} {t : OT}
theorem asD_d {k : PyData → Prop} : (SV.d x).asD k = k x := rfl
theorem asD_o {k : PyData → Prop} : (SV.own xs).asD k = k (.list xs) := rfl
def oVar (o : Option (Option SV)) (i : Nat) (env : PEnv) (Q : SV → PEnv → Prop) : Prop := match o with
  | some (some (.d x)) => Q (.d x) env
  | some (some (.own xs)) => Q (.d (.list xs)) (env.set i (some (.d (.list xs))))
  | some (some .st) => Q .st env
  | _ => False
theorem pVar_o {Q : SV → PEnv → Prop} : pVar i env Q = oVar env[i]? i env Q := rfl
theorem oVar_d {Q : SV → PEnv → Prop} : oVar (some (some (.d x))) i env Q = Q (.d x) env := rfl
def oVarV (o : Option (Option SV)) (env : PEnv) (Q : PyData → PEnv → Prop) : Prop := match o with
  | some (some (.d x)) => Q x env
  | some (some (.own xs)) => Q (.list xs) env
  | some (some (.bor xs)) => Q (.list xs) env
  | _ => False
theorem pVarV_o {Q : PyData → PEnv → Prop} : pVarV i env Q = oVarV env[i]? env Q := rfl
theorem oVarV_d {Q : PyData → PEnv → Prop} : oVarV (some (some (.d x))) env Q = Q x env := rfl
theorem oVarV_o {Q : PyData → PEnv → Prop} : oVarV (some (some (.own xs))) env Q = Q (.list xs) env := rfl
theorem oVarV_b {Q : PyData → PEnv → Prop} : oVarV (some (some (.bor xs))) env Q = Q (.list xs) env := rfl
theorem pI_i {C : Int → Int → Prop} {gd : Int → Int → PyData} {i j : Int} {Q : SV → Prop} : pI C gd (.int i) (.int j) Q = (C i j ∧ Q (.d (gd i j))) := rfl
theorem pI0_i {gd : Int → Int → PyData} {i j : Int} {Q : SV → Prop} : pI0 gd (.int i) (.int j) Q = Q (.d (gd i j)) := rfl
theorem pU_i {gd : Int → PyData} {i : Int} {Q : SV → Prop} : pU gd (.int i) Q = Q (.d (gd i)) := rfl
theorem pAbs_i {i : Int} {Q : SV → Prop} : pAbs [.int i] Q = Q (.d (.int (if i < 0 then -i else i))) := rfl
theorem pMax_i {i j : Int} {Q : SV → Prop} : pMax [.int i, .int j] Q = Q (.d (.int (if j > i then j else i))) := rfl
theorem pMin_i {i j : Int} {Q : SV → Prop} : pMin [.int i, .int j] Q = Q (.d (.int (if j < i then j else i))) := rfl
def oKit (o : Option Bool) (Q : SV → Prop) : Prop := match o with
  | some b => Q (.d (.bool b))
  | none => False
theorem pIsi_o {c : String} {pa : PDt} {Q : SV → PEnv → Prop} : pIsi c pa env Q = pa env fun x e => oKit (kitB (tyD x) c) fun s => Q s e := rfl
theorem oKit_s {b : Bool} {Q : SV → Prop} : oKit (some b) Q = Q (.d (.bool b)) := rfl
theorem asB_b {b : Bool} {k : Bool → Prop} : asB (.bool b) k = k b := rfl
theorem asL_l {k : List PyData → Prop} : asL (.list xs) k = k xs := rfl
theorem isSt_s {k : Prop} : isSt (some (some .st)) k = k := rfl
def oRetV (o : Option (Option SV)) (D : PEnds) : Prop := match o with
  | some (some (.bor _)) => False
  | some (some (.bt _)) => False
  | some (some s) => D.rt s
  | _ => False
theorem pRetV_o {D : PEnds} : pRetV i D env = oRetV env[i]? D := rfl
theorem oRetV_d {D : PEnds} : oRetV (some (some (.d x))) D = D.rt (.d x) := rfl
theorem qNil_n {Q : PEnv → Prop} : qNil [] env Q = Q env := rfl
theorem qCons_c {pg : PyData → PEnv → (PEnv → Prop) → Prop} {pr : List PyData → PEnv → (PEnv → Prop) → Prop} {Q : PEnv → Prop} : qCons pg pr (x :: xs) env Q = pg x env fun e => pr xs e Q := rfl
def oPar (i j : Nat) (xs : List PyData) (D : PEnds) (e : PEnv) : Prop := match xs with
  | [x, y] => D.nx ((e.set i (some (.d x))).set j (some (.d y)))
  | _ => False
theorem pPar_o {pa : PAr} {D : PEnds} : pPar i j pa D env = pa env fun xs e => oPar i j xs D e := rfl
theorem oPar_2 {D : PEnds} : oPar i j [x, y] D e = D.nx ((e.set i (some (.d x))).set j (some (.d y))) := rfl
def oIterV (o : Option (Option SV)) (i : Nat) (env : PEnv) (Q : List PyData → PEnv → Prop) : Prop := match o with
  | some (some (.d x)) => asSeq x fun xs => Q xs env
  | some (some (.own xs)) => Q xs (env.set i (some (.d (.list xs))))
  | some (some (.bor xs)) => Q xs env
  | _ => False
theorem pIterV_o {Q : List PyData → PEnv → Prop} : pIterV i env Q = oIterV env[i]? i env Q := rfl
theorem oIterV_d {Q : List PyData → PEnv → Prop} : oIterV (some (some (.d x))) i env Q = asSeq x fun xs => Q xs env := rfl
def oRng1 (xs : List PyData) (Q : List PyData → Prop) : Prop := match xs with
  | [.int j] => (-(2 ^ 62) ≤ j ∧ j < 2 ^ 62) ∧ Q (rngD 0 j.toNat)
  | _ => False
theorem pRng1_o {pa : PAr} {Q : List PyData → PEnv → Prop} : pRng1 pa env Q = pa env fun xs e => oRng1 xs fun ys => Q ys e := rfl
theorem oRng1_i {j : Int} {Q : List PyData → Prop} : oRng1 [.int j] Q = ((-(2 ^ 62) ≤ j ∧ j < 2 ^ 62) ∧ Q (rngD 0 j.toNat)) := rfl
def oVarH (o : Option (Option SV)) (env : PEnv) (Q : PyData → PEnv → Prop) : Prop := match o with
  | some (some (.d x)) => Q x env
  | some (some (.own xs)) => Q (.list xs) env
  | some (some (.bor xs)) => Q (.list xs) env
  | some (some (.tr t)) => ∃ x, t.dat = [x] ∧ Q x env
  | _ => False
theorem pVarH_o {Q : PyData → PEnv → Prop} : pVarH i env Q = oVarH env[i]? env Q := rfl
theorem oVarH_d {Q : PyData → PEnv → Prop} : oVarH (some (some (.d x))) env Q = Q x env := rfl
theorem asH_d {k : PyData → Prop} : (SV.d x).asH k = k x := rfl
def oUnp (o : Option (Option SV)) (a b : Nat) (pr : List PyData → PEnv → (PEnv → Prop) → Prop) (D : PEnds) (env : PEnv) : Prop := match o with
  | some (some (.bt t)) => ∃ u v, t.pair = some (u, v) ∧ D.nx ((env.set a (some u.sv)).set b (some v.sv))
  | some (some (.d x)) => qTup 2 pr x env D.nx
  | _ => False
theorem pUnp_o {a b : Nat} {pr : List PyData → PEnv → (PEnv → Prop) → Prop} {D : PEnds} : pUnp i a b pr D env = oUnp env[i]? a b pr D env := rfl
theorem oUnp_d {a b : Nat} {pr : List PyData → PEnv → (PEnv → Prop) → Prop} {D : PEnds} : oUnp (some (some (.d x))) a b pr D env = qTup 2 pr x env D.nx := rfl
/-! what follows a call is not looked at before the call is done -/
class Box (α : Type) where
  f : α → Prop
def hold {α : Type} [b : Box α] (x : α) : Prop := b.f x
theorem hold_app {α : Type} {f : α → Prop} {x : α} : @hold α ⟨f⟩ x = f x := rfl
theorem pCall_h {psp : PSp} {pa : PAs} {env : PEnv} {Q : SV → PEnv → Prop} : pCall psp pa env Q = pa env fun as e => psp as (@hold SV ⟨fun s => Q s e⟩) := rfl
theorem pIxL_h {xs : List PyData} {i : Int} {Q : SV → Prop} : pIx (.list xs) (.int i) Q = pGet xs i (@hold SV ⟨Q⟩) := rfl
end
end Pu

namespace L2
open PySem PySem.Spec PyProof.Rows
section
variable {X : Cx}
end
end L2
namespace Pu
open PySem L2 My Prf
theorem hm_H {w : Wd} : Same (hm w) w.H := fun _ _ h => (hm_inv h).1
instance (priority := high) re_neH {K : Frag} {ta tb : TE} {pa pb : PDt} [ha : RH K ta pa] [hb : RH K tb pb] : RE K (tOp (rNeD K) ta tb) (pOp pNeD pa pb) where
  ok := by
    rintro c w env σ Qp Q rfl E p k
    refine ha.ok c w env σ _ _ rfl E p fun x dx e1 w1 E1 l1 v1 q1 => ?_
    refine hb.ok c w1 e1 σ _ _ rfl E1 q1 fun y dy e2 w2 E2 l2 v2 q2 => ?_
    have v1' : VH c.K w2 x dx := Den.same (hm_lw l2) v1
    exact ⟨dx, dy, Den.same hm_H v1', Den.same hm_H v2, q2.1, q2.2.1, q2.2.2.1, k _ _ e2 w2 ((Res.data E2 (.bl _)).pre (l1.trans l2)) q2.2.2.2⟩
instance (priority := high) re_eqH {K : Frag} {ta tb : TE} {pa pb : PDt} [ha : RH K ta pa] [hb : RH K tb pb] : RE K (tOp (rEqD K) ta tb) (pOp pEqD pa pb) where
  ok := by
    rintro c w env σ Qp Q rfl E p k
    refine ha.ok c w env σ _ _ rfl E p fun x dx e1 w1 E1 l1 v1 q1 => ?_
    refine hb.ok c w1 e1 σ _ _ rfl E1 q1 fun y dy e2 w2 E2 l2 v2 q2 => ?_
    have v1' : VH c.K w2 x dx := Den.same (hm_lw l2) v1
    exact ⟨dx, dy, Den.same hm_H v1', Den.same hm_H v2, q2.1, q2.2.1, q2.2.2.1, k _ _ e2 w2 ((Res.data E2 (.bl _)).pre (l1.trans l2)) q2.2.2.2⟩
/-! for x in it[1], of a thing that is lent -/
/-! a name whose thing goes into a new thing -/
/-! it[0], a part that is plain -/
end Pu

namespace L2
open PySem PySem.Spec PyProof.Rows
section
variable {X : Cx} {tg : Expr}
/-- len of a list, a tuple, a text -/
def rLen2 (K : PySem.W.Frag) : List V → Hp → VK → Prop := fun xs H Q => (∃ p ys, xs = [.ref p] ∧ (SqL K H p ys ∨ SqT K H p ys) ∧ Q (.int ys.length) H) ∨ ∃ z, xs = [.str z] ∧ z.length ≤ sizeLine ∧ Q (.int z.length) H
theorem call_len2K {K : PySem.W.Frag} (h : X.K = K) : CallR X (.builtin "len") (rLen2 K) := by subst h; exact call_len_seq.or call_len_str
theorem line1000 : 1000 ≤ sizeLine := by rw [sizeLine_eq]; decide
end
end L2

namespace L2
open PySem PySem.Spec PyProof.Rows
section
variable {X : Cx} {tg : Expr} {pos : Pos}
end
end L2
namespace Pu
open PySem L2 My Prf
/-! texts -/
def asS (x : PyData) (k : Str → Prop) : Prop := match x with
  | .str z => k z
  | _ => False
theorem VV.strE {K : Frag} {w : Wd} {v : V} {z : Str} (h : VV K w v (.str z)) : v = .str z := by
  rcases h with h | ⟨l, vs, xs, e, e', _⟩
  · cases h; rfl
  · cases e'
def sgn (c : Nat) : PyData := .str ⟨#[c]⟩
/-! x[i], of a text too -/
def pGetS (z : Str) (i : Int) (Q : SV → Prop) : Prop := ∃ c, atI z.cps.toList i = some c ∧ Q (.d (sgn c))
def pIx2 (x y : PyData) (Q : SV → Prop) : Prop := match x with
  | .str z => asI y fun i => z.length ≤ 1000 ∧ pGetS z i Q
  | x => pIx x y Q
theorem pIx2_l {xs : List PyData} {y : PyData} {Q : SV → Prop} : pIx2 (.list xs) y Q = pIx (.list xs) y Q := rfl
theorem pIx2_q {q : Rat} {y : PyData} {Q : SV → Prop} : pIx2 (dq q) y Q = pIx (dq q) y Q := rfl
instance (priority := high) ro_ix2 {K : Frag} : RO K (rIx K) pIx2 where
  ok := by
    rintro c w env σ x y dx dy Qp Q rfl E vx vy p k
    unfold pIx2 at p
    split at p
    · unfold asI at p
      split at p
      · obtain ⟨hl, cc, h1, q⟩ := p
        exact .inr (.inr ⟨_, _, cc, vx.strE, vy.intE, Nat.le_trans hl line1000, h1, k _ _ w (Res.data E (.str _)) q⟩)
      · exact p.elim
    · exact ro_ix.ok c w env σ x y dx dy Qp Q rfl E vx vy p k
/-! len, of a text too -/
def pLen2 (xs : List PyData) (Q : SV → Prop) : Prop := match xs with
  | [.list ys] => Q (.d (.int ys.length))
  | [.tuple ys] => Q (.d (.int ys.length))
  | [.str z] => z.length ≤ 1000 ∧ Q (.d (.int z.length))
  | _ => False
theorem pLen2_l {ys : List PyData} {Q : SV → Prop} : pLen2 [.list ys] Q = Q (.d (.int ys.length)) := rfl
theorem pLen2_q {q : Rat} {Q : SV → Prop} : pLen2 [dq q] Q = Q (.d (.int 2)) := rfl
instance rb_len2 {K : Frag} : RB K (rLen2 K) pLen2 where
  ok := by
    rintro c w env σ vs xs Qp Q rfl E vv p k
    unfold pLen2 at p
    split at p
    · cases vv with | cons h t => cases t; obtain ⟨a, us, e, h1, h2⟩ := h.lst E.wok; exact .inl ⟨a, us, by rw [e], .inl h1, by rw [h2.len]; exact k _ _ w (Res.data E (.int _)) p⟩
    · cases vv with | cons h t => cases t; obtain ⟨a, us, e, h1, h2⟩ := h.tup E.wok; exact .inl ⟨a, us, by rw [e], .inr h1, by rw [h2.len]; exact k _ _ w (Res.data E (.int _)) p⟩
    · cases vv with | cons h t => cases t; exact .inr ⟨_, by rw [h.strE], Nat.le_trans p.1 line1000, k _ _ w (Res.data E (.int _)) p.2⟩
    · exact p.elim
/-! sep.join(texts) -/
/-! xs[i] = x, of a list of one's own -/
/-! dicts, that are only carried about -/
/-! a <= b <= c -/
end Pu

namespace L2
open PySem PySem.Spec PyProof.Rows
/-! the class of an exception of the text's own classes -/
section
variable {prog : Program} {w : World} {A : Around} {E : Value → Shared → Prop} {h : Heap} {g : Array GenState} {d : Drawn} {t : Nat} {os : OsState} {a C : Addr} {o : Obj} {vs : Array Value} {K : PySem.W.Frag}
structure ExK (K : PySem.W.Frag) (C : Addr) : Prop where
  ga : PySem.W.findIn K (.ref C) "__getattribute__" = some (some (.builtin "BaseException.__getattribute__"))
  gn : PySem.W.findIn K (.ref C) "__getattr__" = some none
  gc : PySem.W.findIn K (.ref C) "__class__" = some (some (.builtin "object.__class__"))
  sb : PySem.W.subIn K (.ref C) (.type "BaseException") = some true
  so : PySem.W.subIn K (.ref C) (.type "object") = some true
theorem xc_get {R : Result → Shared → Prop} (X : K.In h) (k : ExK K C) (hx : h.get? a = some o) (hc : o.cls = .ref C) (hq : R (.ok (.ret (.ref C))) ⟨h, g, d, t, os⟩) :
    codeAny (model prog w) A (.call (.builtin "getset_descriptor.__get__") ⟨[.builtin "object.__class__", .ref a, .ref C], []⟩) R ⟨h, g, d, t, os⟩ := by
  have yT : (⟨h, g, d, t, os⟩ : Shared).TypeIs (.builtin "object.__class__") "getset_descriptor" := F.typeOf_object_class
  have LO := PySem.W.looks_subIn (M := model prog w) X k.so
  have ow : (".".intercalate ("object.__class__".cutAt '.').dropLast) = "object" := F.owner_object_class
  refine codeAny_call_builtin F.slot_gs_get.plain F.entry_gs_get (F.slot_gs_get.check _ _ _ _ _ _ _ _ (yT) (F.args_gs_get _ _ _) ?_)
  repeat (any_goals (first | assumption | (with_reducible refine wpAny_loadPart_at hx ?_; rw [hc]) | (rw [ow]; with_reducible refine LO.at ?_) | with_reducible refine LO.at ?_ | wp_step))
  refine ⟨Code.quiet_builtin _ (by decide +kernel), codeAny_builtin (F.entry_object_class) ?_⟩
  repeat (any_goals (first | assumption | (with_reducible refine wpAny_loadPart_at hx ?_; rw [hc]) | wp_step))
theorem xc_entry {tk : Tok} {Q : Fin → Shared → Prop} (X : K.In h) (k : ExK K C) (hx : h.get? a = some o) (hc : o.cls = .ref C) (hq : Q (.done (.ret (.ref C))) ⟨h, g, d, t, os⟩) :
    wpAny (model prog w) A (Builtin.«object.__getattribute__» ⟨[.ref a, .str "__class__" tk], []⟩) Q E ⟨h, g, d, t, os⟩ := by
  have yT : (⟨h, g, d, t, os⟩ : Shared).TypeIs (.builtin "object.__class__") "getset_descriptor" := F.typeOf_object_class
  have LC := PySem.W.looks_findIn (M := model prog w) X k.gc
  have u5 := F.typeOf_object_class
  have u6 := F.slot_gs_get.lookup
  have u7 := F.slot_gs_set.lookup
  repeat (any_goals (first | assumption | (with_reducible refine wpAny_loadPart_at hx ?_; rw [hc]) | with_reducible refine LC.at ?_ | wp_step))
  refine xc_get X k hx hc ?_
  repeat (any_goals first | assumption | wp_step)
theorem xc_check {M : Model} {nameV : Value} {Q : Unit → Shared → Prop} (X : K.In h) (k : ExK K C) (hx : h.get? a = some o) (hc : o.cls = .ref C) (hq : Q () ⟨h, g, d, t, os⟩) :
    wpAny M A (checkBuiltinCall "BaseException.__getattribute__" ⟨[.ref a, nameV], []⟩) Q E ⟨h, g, d, t, os⟩ := by
  have k1 : builtinKind "BaseException.__getattribute__" = some .slot := by decide +kernel
  have k2 : splitId "BaseException.__getattribute__" = some ("BaseException", "__getattribute__") := by decide +kernel
  have LB := PySem.W.looks_subIn (M := M) X k.sb
  have u0 := F.args_bexc_ga (.ref a) nameV
  simp only [checkBuiltinCall, k1, k2]
  refine wpAny_bind ?_
  unfold isInstance
  repeat (first | (with_reducible refine wpAny_loadPart_at hx ?_; rw [hc]) | with_reducible refine LB.at ?_ | wp_step)
  exact hq
theorem xc_by {tk : Tok} {Q : Value → Shared → Prop} (X : K.In h) (k : ExK K C) (hx : h.get? a = some o) (hc : o.cls = .ref C) (hq : Q (.ref C) ⟨h, g, d, t, os⟩) :
    wpAny (model prog w) A (getAttrBy (.ref a) (.str "__class__" tk) false) Q E ⟨h, g, d, t, os⟩ := by
  have u3 := F.attrBase_ValueError.ga.bind (.ref a)
  have LG := PySem.W.looks_findIn (M := model prog w) X k.ga
  have LN := PySem.W.looks_findIn (M := model prog w) X k.gn
  have z2 : (Value.builtin "BaseException.__getattribute__" == Value.builtin "object.__getattribute__") = false := by decide +kernel
  have z1 : (onTheHeap (Value.ref C) && Value.builtin "BaseException.__getattribute__" == Value.builtin "object.__getattribute__") = false := by rw [z2]; rfl
  repeat (any_goals (first | assumption | (with_reducible refine wpAny_loadPart_at hx ?_; rw [hc]) | with_reducible refine LG.at ?_ | with_reducible refine LN.at ?_ | wp_step))
  refine codeAny_call_builtin F.attrBase_ValueError.ga.plain F.entry_bexc_ga (xc_check X k hx hc (xc_entry X k hx hc ?_))
  repeat (any_goals first | assumption | wp_step)
theorem xc_attr {Q : Option Value → Shared → Prop} (X : K.In h) (k : ExK K C) (hx : h.get? a = some o) (hc : o.cls = .ref C) (hq : Q (some (.ref C)) ⟨h, g, d, t + 1, os⟩) : wpAny (model prog w) A (getAttr? (.ref a) "__class__") Q E ⟨h, g, d, t, os⟩ := by
  unfold getAttr? getAttrBy?
  repeat (any_goals (first | assumption | with_reducible apply xc_by X k hx hc | wp_step))
def ExAt (a C : Addr) (h : Heap) : Prop := ∃ o, h.get? a = some o ∧ o.cls = .ref C
theorem ExAt.ty {M : Model} (p : ExAt a C h) : PySem.W.Looks M h (typeOf (.ref a)) (.ref C) := by
  obtain ⟨o, e, q⟩ := p
  rw [← q]
  exact (PySem.W.Looks.ld e).andThen .now
theorem kitx_exc (k : ExK K C) (it : ∀ (M : Model) (h : Heap), K.In h → PySem.W.Looks M h (isType (.ref C)) true) (ne : ∀ o, K.lookup C = some o → o.cls ≠ .type "tuple") (hl : (K.lookup C).isSome = true) : PySem.W.KitX K (.ref a) (.ref C) (ExAt a C) where
  ty := fun _ _ _ p => p.ty
  it := fun M h X _ => it M h X
  ne := fun h tp dd its n sl X e => Bool.eq_false_iff.mpr fun q => by
    have z : C = tp := Value.ref.inj (beq_iff_eq.mp q)
    subst z
    obtain ⟨o, ho⟩ := Option.isSome_iff_exists.mp hl
    have := X _ _ ho
    rw [e] at this; cases this
    exact ne _ ho rfl
  ca := fun {_ _ _ _ _ s} X p q => by
    obtain ⟨h, g, d, t, os⟩ := s
    obtain ⟨o, e, z⟩ := p
    exact xc_attr X k e z q
end
end L2

namespace L2
open PySem PySem.Spec PyProof.Rows
/-! an exception that flies through calls -/
structure Fly (P : Program) (w : World) (outer : List Env) (H : Hp) (s s' : Shared) (a : Addr) (cls a0 : Value) (H' : Hp) (B : Heap) : Prop where
  os : s'.os = s.os
  bare : AllBare s'.gens
  fly : Heap.FlyingW B outer a cls a0 s'.heap
  hok : HOk P w H' B
  keep : ∀ b o, s.heap.get? b = some o → H b = none → b ∉ frs outer → B.get? b = some o
  slot : ∀ b o, s.heap.get? b = some o → H b = none → b ∈ frs outer → ∃ sl, s'.heap.get? b = some { o with slots := sl }
  free : ∀ b o, s.heap.get? b = some o → H b = none → H' b = none
  there : ∀ b o, s.heap.get? b = some o → b ∉ frs outer → ∃ o', B.get? b = some o'
  tups : ∀ b xs, H b = some (.tup xs) → H' b = some (.tup xs)
  frzs : ∀ b o u, H b = some (.frz o u) → H' b = some (.frz o u)
  tbls : ∀ b ps, H b = some (.tbl ps) → ∃ more, H' b = some (.tbl (ps ++ more))
def CX1 (P : Program) (w : World) : CXT := fun outer H s E e s' => ∃ (a : Addr) (cls a0 : Value) (H' : Hp) (B : Heap), e = .ref a ∧ Fly P w outer H s s' a cls a0 H' B ∧ E cls none H'
section
variable {P : Program} {w : World} {outer : List Env} {H H' : Hp} {s s' : Shared} {a : Addr} {cls a0 : Value} {B : Heap}
theorem Fly.un (F : Fly P w outer H s s' a cls a0 H' B) : Un (frs outer) [] H H' s.heap s'.heap where
  keep := fun b o e n hb _ => F.fly.1 b o (F.keep b o e n hb)
  slot := fun b o e n hb _ => F.slot b o e n hb
  free := fun b o e n _ => F.free b o e n
  there := fun b o e _ => by
    by_cases hb : b ∈ frs outer
    · obtain ⟨_, o', ho, _⟩ := F.fly.2.2.1.mem hb
      exact ⟨o', ho⟩
    · obtain ⟨o', ho⟩ := F.there b o e hb
      exact ⟨o', F.fly.1 b o' ho⟩
  tups := F.tups
  frzs := F.frzs
  tbls := F.tbls
theorem Fly.step {h' : Heap} (F : Fly P w outer H s s' a cls a0 H' B) (hf : Heap.FlyingW B outer a cls a0 h') (hs : s'.heap.UpToSlots h') : Fly P w outer H s { s' with heap := h' } a cls a0 H' B :=
  ⟨F.os, F.bare, hf, F.hok, F.keep, fun b o e n hb => by
    obtain ⟨sl, e1⟩ := F.slot b o e n hb
    obtain ⟨_, o', ho, hn⟩ := F.fly.2.2.1.mem hb
    rw [e1] at ho; cases ho
    obtain ⟨sl2, e2⟩ := hs b _ e1 hn
    exact ⟨sl2, e2⟩, F.free, F.there, F.tups, F.frzs, F.tbls⟩
theorem obj_ex {h : Heap} {o : HO} (x : ObjOk P w H h a o) : ∃ ob, h.get? a = some ob := by
  cases o with
  | lst xs => obtain ⟨_, _, _, _, e⟩ := x; exact ⟨_, e⟩
  | tup xs => obtain ⟨_, _, _, o, e, _⟩ := x; exact ⟨_, e⟩
  | dK kvs => obtain ⟨_, _, _, _, o, _, _, e, _⟩ := x; exact ⟨_, e⟩
  | dT kvs => obtain ⟨_, _, _, _, o, _, _, e, _⟩ := x; exact ⟨_, e⟩
  | set S n => obtain ⟨o, _, _, _, e, _⟩ := x; exact ⟨_, e⟩
  | ins C dx fs => obtain ⟨_, _, _, e, _⟩ := x; exact ⟨_, e⟩
  | own y => exact x
  | xd fs => obtain ⟨_, ⟨_, _, _, e, _⟩, _⟩ := x; exact ⟨_, e⟩
  | rng lo hi => obtain ⟨_, _, _, e⟩ := x; exact ⟨_, e⟩
  | frz ob u => obtain ⟨e, _⟩ := x; exact ⟨_, e⟩
  | tbl ps => exact ⟨_, x⟩
  | met f y => exact ⟨_, x⟩
  | ext φ => exact x.2.1
theorem Fly.new (F : Fly P w outer H s s' a cls a0 H' B) : H' a = none := by
  cases q : H' a with
  | none => rfl
  | some o =>
    obtain ⟨ob, e⟩ := obj_ex (F.hok a o q)
    rw [F.fly.2.1] at e; cases e
end
/-! leaving a def -/
section
variable {P : Program} {w : World} {K : PySem.W.Frag} {mg : Str → Option Value} {base : Heap} {N : List Str} {qual : Str} {scope : Scope} {f : Addr} {cd : Value} {A : Around} {outer : List Env} {s0 : Shared} {H0 : Hp} {E : XK}
theorem ne_loc {X : Cx} {pins : List (Addr × Obj)} {σ : St} {H : Hp} {s : Shared} (I : Inv X pins σ H s) {b : Addr} {o : Obj} (e : X.s₀.heap.get? b = some o) (hb : b ∉ X.fs) : b ∉ frs X.stack := fun z => by
  rcases List.mem_cons.mp (I.stkSub b z) with q | q
  · exact Nat.ne_of_lt (Nat.lt_of_lt_of_le (Heap.lt_size e) I.ok.above) q
  · exact hb q
def Throws (X : Cx) (E : XK) : Prop := ∀ (pins : List (Addr × Obj)) (σ : St) (H : Hp) (s : Shared) (h' : Heap) (e : Addr) (cls : Value) (args : List Value), Inv X pins σ H s → Heap.MadeExcOf s.heap h' e cls args → E cls none H → X.xe (.ref e) { s with heap := h' }
theorem throws1 : Throws (cxOf (CX1 P w) P w K mg base N qual scope f cd A outer s0 H0 E) E := by
  intro pins σ H s h' e cls args I hx q
  have nx : ∀ b : Addr, b ∉ (cxOf (CX1 P w) P w K mg base N qual scope f cd A outer s0 H0 E).ex := fun b z => absurd z (List.not_mem_nil)
  have hB : ∀ b o, s.heap.get? b = some o → b ∉ frs (cxOf (CX1 P w) P w K mg base N qual scope f cd A outer s0 H0 E).stack → (PySem.W.hideAll s.heap (frs (cxOf (CX1 P w) P w K mg base N qual scope f cd A outer s0 H0 E).stack)).get? b = some o := fun b o e z => PySem.W.hideAll_get _ e z
  have hin : ∀ env ∈ (cxOf (CX1 P w) P w K mg base N qual scope f cd A outer s0 H0 E).stack, ∀ a, env.frame = some a → a ∈ frs (cxOf (CX1 P w) P w K mg base N qual scope f cd A outer s0 H0 E).stack := fun env he a ha => List.mem_filterMap.mpr ⟨env, he, ha⟩
  refine wpAny_leaves_madeW (base := PySem.W.hideAll s.heap (frs (cxOf (CX1 P w) P w K mg base N qual scope f cd A outer s0 H0 E).stack)) (h := s.heap) I.ok.frames rfl (fun b o q => PySem.W.of_hideAll _ q) (PySem.W.funFrames_hide I.stack hin) hx fun h2 t x1 x2 x3 x4 => ?_
  refine ⟨e, cls, .ref t, H, _, rfl, ⟨I.os, I.bare, x1, fun b o eb => (I.hok b o eb).stay (fun c v hc z => hB c v z fun hm => ?_) (fun _ z => z) (fun _ _ z => z), fun b o e n hb => ?_, fun b o e n hb => ?_, fun b o e n => I.base.free b o e n (nx b), fun b o e hb => ?_, I.base.tups, I.base.frzs, I.base.tbls⟩, q⟩
  · have := I.stkFree c hm
    rcases hc with hc | hc
    · rw [hc, eb] at this; cases this
    · rw [hc] at this; cases this
  · exact hB b o (I.base.keep b o e n hb (nx b)) (ne_loc I e hb)
  · obtain ⟨sl, e1⟩ := I.base.slot b o e n hb (nx b)
    have hb2 : b ∈ frs (cxOf (CX1 P w) P w K mg base N qual scope f cd A outer s0 H0 E).stack := by
      show b ∈ List.filterMap _ (_ :: outer)
      rw [List.filterMap_cons]
      split
      · exact hb
      · exact List.mem_cons_of_mem _ hb
    obtain ⟨_, o', ho, hn⟩ := I.stack.mem hb2
    rw [e1] at ho; cases ho
    obtain ⟨sl3, e3⟩ := x4 b _ (hx.keeps b _ e1) hn
    exact ⟨sl3, e3⟩
  · obtain ⟨o', e1⟩ := I.base.there b o e (nx b)
    exact ⟨o', hB b o' e1 (ne_loc I e hb)⟩
end
end L2

namespace L2
open PySem PySem.Spec PyProof.Rows
/-! raise C("..") -/
def vTail : List Value := [.type "ValueError", .type "Exception", .type "BaseException", .type "object"]
theorem exo {K : PySem.W.Frag} {h : Heap} {C : Addr} {nid : String} (X : K.In h) (q : PySem.W.excIn K C vTail nid = true) : ∃ bm N nm qn bs hd sn sub ab col dd k0 k1 k2 k3 k5 mN,
    h.get? C = some (excClassObj nm qn C N bs bm hd sn sub ab col dd k0 k1 k2 k3 k5 nid) ∧ h.Ns N mN ∧ mN "__init__" = none ∧ OwnTail h vTail bm := by
  unfold PySem.W.excIn at q
  split at q
  · rename_i dd cd sl ho
    split at q
    · rename_i C1 bm k0 k1 k2 k3 n k5 e1 e2
      simp only [Bool.and_eq_true, beq_iff_eq, Bool.not_eq_true'] at q
      obtain ⟨⟨⟨⟨⟨q1, q2⟩, q3⟩, q4⟩, q5⟩, q6⟩ := q
      subst q1 q2
      obtain ⟨nm, bs, mro, ns, qn, hd, sn, sub, ab, col, del⟩ := cd
      have e3 : sl = #[k0, k1, k2, k3, some (.builtin n), k5] := by cases sl; simp only at e2; rw [e2]
      simp only at e1 q3 q5 q6
      subst e3 e1 q3
      exact ⟨bm, ns, nm, qn, bs, hd, sn, sub, ab, col, dd, k0, k1, k2, k3, k5, _, X _ _ ho, .of_isNs (PySem.W.isNs_of_in X q5), PySem.W.nsMap_none_of_in X q5 q6, PySem.W.tail_of_in X q4⟩
    · cases q
  · cases q
def tRaise (E : XK) (cls : Value) : TS := fun _ _ H => E cls none H
section
variable {X : Cx} {E : XK} {x : Str} {C : Addr} {pos np cpos : Pos} {e : Expr} {es : List Expr} {t : TA}
theorem ps_raise (hT : Throws X E) (hc : X.calm = true) (hg : Gl X x) (hm : X.mg x = some (.ref C)) (hex : PySem.W.excIn X.K C vTail "ValueError.__new__" = true) {z : Str} {j : Nat} {sp : Pos} (hd : (x == ("__debug__" : Str)) = false := by decide) :
    PS X (.Raise (some (.Call (.Name x np) [.Constant (.str z) j sp] [] cpos)) none pos) (tRaise E (.ref C)) := by
  intro pins s σ H D I h
  obtain ⟨bm, N, nm, qn, bs, hd', sn, sub, ab, col, dd, k0, k1, k2, k3, k5, mN, h1, h2, h3, h4⟩ := exo I.ok.mod.kin hex
  refine wpAny_Raise_call_subT (nm := nm) (q := qn) (N := N) (bs := bs) (hdct := hd') (sn := sn) (sub := sub) (ab := ab) (col := col) (dd := dd) (k0 := k0) (k1 := k1) (k2 := k2) (k3 := k3) (k5 := k5) F.excBase_ValueError (h4.hasType (by rfl)) (I.ok.hd hc) rfl h3 (ld_glob I hg hm ⟨rfl, ?_⟩ hd)
  refine Calls.evalArgs_plain (thn ((pa_cons (pe_str (x := z)) pa_nil : PA X [.Constant (.str z) j sp] _) cpos pins s σ H (fun vs H' => vs.length ≤ 1 ∧ H' = H) I ⟨Nat.le_refl _, rfl⟩) fun us s2 hA => ?_)
  obtain ⟨vs, H1, I1, r, hl, rfl⟩ := hA
  refine ⟨rfl, ?_, I1.bk _ _ h1, h2.keeps I1.bk, h4.keeps I1.bk, fun h' e made => hT pins σ H1 s2 h' e _ _ I1 made h⟩
  rw [← r.length]
  exact Nat.le_trans hl (Nat.le_trans (by decide) line1000)
end
/-! the held exception: the context of an except suite -/
abbrev Cx.held (X : Cx) (a : Addr) (oe : Obj) : Cx := { X with A := X.A.mark (some (.ref a)), calm := false, pn := (a, oe) :: X.pn, xe := fun _ _ => False }
section
variable {X : Cx} {pins : List (Addr × Obj)} {σ : St} {H : Hp} {s : Shared} {a : Addr} {oe : Obj}
theorem Cx.Ok.held (ok : X.Ok) : (X.held a oe).Ok :=
  ⟨ok.mod, ok.kind, ok.glob, ok.blt, ok.above, ok.inj, ok.has, ok.cab, fun z => (by cases z), ok.frames, ok.stk, ok.exf, ok.bs, ok.bsz, ok.noex, ok.exfs, ok.funs, ok.frf⟩
theorem Inv.hold (I : Inv X pins σ H s) (e : s.heap.get? a = some oe) (n : H a = none) (nl : a ≠ X.env.locals) (nf : a ∉ X.fs) (nc : ∀ v, oe.data ≠ .cell v) : Inv (X.held a oe) pins σ H s :=
  ⟨I.ok.held, I.os, I.bare, I.base, I.loc, I.cell, I.free, I.freeC, fun p hp => by
    rcases List.mem_cons.mp (show p ∈ (a, oe) :: (X.pn ++ pins) from hp) with q | q
    · subst q; exact ⟨e, n, nl, nf, nc⟩
    · exact I.pin p q, I.hok, I.len⟩
theorem Inv.loose (I : Inv (X.held a oe) pins σ H s) (ok : X.Ok) : Inv X pins σ H s :=
  ⟨ok, I.os, I.bare, I.base, I.loc, I.cell, I.free, I.freeC, fun p hp => I.pin p (List.mem_cons_of_mem _ hp), I.hok, I.len⟩
/-- the name of the exception goes -/
theorem goes_ok {i : Nat} {n : Str} {pos : Pos} {M : Model} {A : Around} {E : Value → Shared → Prop} {Q : Unit → Shared → Prop} (I : Inv X pins σ H s) (hN : X.N.Nodup) (hi : X.N[i]? = some n) (hk : X.env.scope.names.lookup n = some .local)
    (h : ∀ s', Inv X pins (σ.set i none) H s' → Q () s') : wpAny M A (do bindName X.env n .none; unbindBehindTheSuite X.env n pos) Q E s := by
  obtain ⟨m, hn, hl⟩ := id I.loc
  have his : i < σ.length := by rw [I.len]; exact (List.getElem?_eq_some_iff.mp hi).1
  refine wpAny_nameGoes_keeps hk hn (by rw [I.ok.kind]; rfl) fun h' v hn' hs => h _ ?_
  obtain ⟨oo, _, _, hoo, _⟩ := id hn
  have ne : ∀ b o, X.s₀.heap.get? b = some o → b ≠ X.env.locals := fun b o e => Nat.ne_of_lt (Nat.lt_of_lt_of_le (Heap.lt_size e) I.ok.above)
  refine ⟨I.ok, I.os, I.bare, ⟨fun b o e z hb hx => (hs.2 b (ne b o e)).trans (I.base.keep b o e z hb hx), fun b o e z hb hx => ?_, I.base.free, fun b o e hx => ?_, I.base.tups, I.base.frzs, I.base.tbls⟩, ⟨_, hn', fun j y v2 e1 e2 e3 => ?_⟩, fun y c e => ?_, I.free, I.freeC, fun p hp => ?_, fun b ob e => ?_, by simpa using I.len⟩
  · obtain ⟨sl, e1⟩ := I.base.slot b o e z hb hx
    exact ⟨sl, (hs.2 b (ne b o e)).trans e1⟩
  · obtain ⟨o', e1⟩ := I.base.there b o e hx
    exact ⟨o', (hs.2 b (ne b o e)).trans e1⟩
  · by_cases hj : j = i
    · subst hj
      rw [List.getElem?_set_self his] at e2
      cases e2
    · rw [List.getElem?_set_ne (Ne.symm hj)] at e2
      obtain ⟨u2, r2, q⟩ := hl j y v2 e1 e2 e3
      refine ⟨u2, r2, ?_⟩
      rcases q with ⟨k, e⟩ | ⟨k, c, e, zz⟩
      · refine .inl ⟨k, ?_⟩
        have : y ≠ n := fun e => hj (nodup_ix hN e1 (e ▸ hi))
        simp [this, e]
      · exact .inr ⟨k, c, e, zz.sameBut hs (I.cne y c e)⟩
  · obtain ⟨w2, z⟩ := I.cell y c e
    exact ⟨w2, z.sameBut hs (I.cne y c e)⟩
  · obtain ⟨e, z, nl, nf, d⟩ := I.pin p hp
    exact ⟨(hs.2 p.1 nl).trans e, z, nl, nf, d⟩
  · refine (I.hok b ob e).stay (fun c w2 hc q => (hs.2 c ?_).trans q) (fun _ q => q) fun _ _ q => q
    rintro rfl
    rcases hc with rfl | hc
    · rw [I.free] at e; cases e
    · rw [I.free] at hc; cases hc
end
end L2

namespace L2
open PySem PySem.Spec PyProof.Rows
/-! try: f(..) except C as e: a suite that returns -/
def tTryR (sp : Sp) (t : TA) (C : Addr) (b : Bool) : TS := fun D σ H => t σ H fun vs H1 => sp (vs ++ []) H1 (fun _ _ => False) fun cls _ H2 => cls = .ref C ∧ ∀ H3, Same H2 H3 → D.rt (.bl b) H3
/-- what comes of it is known -/
def tKS (i : Nat) (a : Addr) (b : Bool) : TS := fun D σ H => σ[i]? = some (some (.ref a)) ∧ ∀ H3, Same H H3 → D.rt (.bl b) H3
section
variable {P : Program} {w : World} {outer : List Env} {H H' : Hp} {s s' : Shared} {a : Addr} {cls a0 : Value} {B : Heap}
theorem Fly.hok2 (F : Fly P w outer H s s' a cls a0 H' B) : HOk P w H' s'.heap := fun b o e => (F.hok b o e).stay (fun c v _ z => F.fly.1 c v z) (fun _ z => z) fun _ _ z => z
end
section
variable {X : Cx} {pins : List (Addr × Obj)} {σ : St} {H H' : Hp} {s s' : Shared} {a : Addr} {cls a0 : Value} {B : Heap}
theorem Fly.inv (F : Fly X.prog X.w X.stack H s s' a cls a0 H' B) (I : Inv X pins σ H s) : Inv X pins σ H' s' :=
  I.call' (ch := []) F.os F.un F.hok2 F.bare fun b z => absurd z (by simp)
theorem Fly.hold (F : Fly X.prog X.w X.stack H s s' a cls a0 H' B) (I : Inv X pins σ H s) : ∃ oe, s'.heap.get? a = some oe ∧ oe.cls = cls ∧ Inv (X.held a oe) pins σ H' s' := by
  obtain ⟨oe, vs, e1, e2, e3, _⟩ := F.fly.first
  have I2 := F.inv I
  refine ⟨oe, e1, e2, I2.hold e1 F.new (fun z => ?_) (fun z => ?_) fun v q => by rw [e3] at q; cases q⟩
  · obtain ⟨m, ⟨o, es, ep, ho, hd, _⟩, _⟩ := I2.loc
    rw [← z, e1] at ho; cases ho; rw [e3] at hd; cases hd
  · obtain ⟨_, o', ho, hn⟩ := I2.funs.mem z
    rw [e1] at ho; cases ho; exact hn _ e3
end
section
variable {X : Cx} {k i : Nat} {f C CH : Addr} {fd : FuncData} {ps : List Str} {sp : Sp} {x xh n : Str} {p pos pos2 pos3 pos4 pos5 : Pos} {e : Expr} {es : List Expr} {t : TA} {b0 : Stmt} {suite : List Stmt} {b : Bool}
theorem ps_try (F : FnOk X.prog X.w X.K X.mg X.base (CX1 X.prog X.w) k f fd ps sp) (hr : Room k X.A) (hg : Gl X x) (hm : X.mg x = some (.ref f)) (hk : PySem.W.keepIn X.K (.ref f) = true) (hb : Binds X.K fd ps [])
    (ha : PA X.nox (e :: es) t) (hgh : Gl X xh) (hmh : X.mg xh = some (.ref CH)) (hx : PySem.W.exmOne X.K (.ref C) (.ref CH) = some true) (hN : X.N.Nodup) (hi : X.N[i]? = some n) (hl : X.env.scope.names.lookup n = some .local)
    (hsu : ∀ a oe, oe.cls = .ref C → PSs (X.held a oe) (b0 :: suite) (tKS i a b))
    (hst : X.stack = X.env :: X.outer := by rfl) (hfr : X.env.frame = some X.env.locals := by rfl)
    (hdb : (x == ("__debug__" : Str)) = false := by decide) (hdb2 : (xh == ("__debug__" : Str)) = false := by decide) (he : starEach (e :: es) X.env = (false, eval e X.env) :: starEach es X.env := by rfl) (hpl : (backTo pos (starEach es X.env)).any (·.1) = false := by rfl)
    (hsw : swapsWith (.Call (.Name x p) (e :: es) [] pos) none pos2.line X.env = pure false := by rfl) :
    PS X (.Try [.Expr (.Call (.Name x p) (e :: es) [] pos) pos2] [.ExceptHandler (some (.Name xh pos3)) (some n) (b0 :: suite) pos4] [] [] pos5) (tTryR sp t C b) := by
  intro pins s σ H D I h
  refine wpAny_Try_except (wpAny_execs_cons (wpAny_Expr_any ?_ I.quiet hsw))
  refine wpAny_Call_Name_kw (ld_glob I hg hm ?_ hdb)
  refine PySem.W.callWith_K (h₀ := X.base) I.ok.mod.kin hk (wpAny_mono (ha pos pins s σ H _ (I.wish _) h) (fun us s1 ⟨vs, H1, I1, r, q⟩ => ⟨I1.unwish.kIn, ?_⟩) fun _ _ z => z.elim) he hpl
  have I1 := I1.unwish
  have r2 : Vals (vs ++ []) (us ++ []) := r.append .nil
  have hl2 : (us ++ []).length = ps.length := by rw [← r2.length]; exact F.len _ _ _ _ q
  refine wpAny_call (codeAny_mono (F.run X.A X.stack s1 H1 ⟨us, []⟩ (us ++ []) (vs ++ []) _ _ hr I1.env0 (hb s1 us I1.kIn hl2) r2 q) fun r s' hq => ?_)
  cases r with
  | ok fl =>
    cases fl with
    | ret u => obtain ⟨v, H', os, bare, un, hok, r, q⟩ := hq; exact q.elim
    | next => exact False.elim hq
    | brk => exact False.elim hq
    | cont => exact False.elim hq
  | error ev =>
    obtain ⟨a, cls, a0, H2, B, rfl, Fl, rfl, qd⟩ := hq
    have hfrm : X.A.frames = some (X.env :: X.outer) := by rw [← hst]; exact I.ok.frames
    refine wpAny_looks_onW (outer := X.outer) hfrm hfr (by rw [← hst]; exact Fl.fly) fun h1 hd1 u1 => ?_
    refine wpAny_landsW hd1 fun h2 hd2 u2 => ?_
    have F2 := Fl.step (h' := h2) (by rw [hst]; exact hd2) (u1.trans u2)
    obtain ⟨oe, e1, e2, IH⟩ := F2.hold I1
    refine wpAny_handleBy_cons (codeAny_handlers_test ?_) (fun z => by cases z)
    refine ld_glob (X := X.held a oe) IH hgh hmh ?_ hdb2
    refine (PySem.W.exm_one IH.kIn (ExAt.ty ⟨oe, e1, e2⟩) hx).at ?_
    show codeAny _ _ _ _ _
    refine codeAny_handlers_suite_as ?_
    refine wpAny_setFlight_noneW hd2.1 hd2.2.2.1 hd2.2.2.2.at fun h3 k1 k2 k3 k4 => ?_
    have F3 := F2.step (h' := h3) (by rw [hst]; exact ⟨k1, hd2.2.1, k2, k3⟩) fun b o e n => ⟨o.slots, k4 b o e n⟩
    obtain ⟨oe3, e31, e32, IH3⟩ := F3.hold I1
    refine store_ok (X := X.held a oe3) IH3 hN hi (.inl hl) (show RelV (.ref a) (.ref a) from rfl) (fun s4 I4 => ?_) (.inr hl)
    have hlen : i < σ.length := by rw [I.len]; exact (List.getElem?_eq_some_iff.mp hi).1
    refine wpAny_mono (hsu a oe3 e32 pins s4 _ _ { nx := fun _ _ => False, rt := D.rt } I4 ⟨List.getElem?_set_self hlen, qd⟩) (fun fl s5 hs => ?_) fun _ _ z => False.elim z
    cases fl with
    | next => obtain ⟨_, _, _, q⟩ := hs; exact q.elim
    | brk => obtain ⟨_, _, _, q⟩ := hs; exact q.elim
    | cont => obtain ⟨_, _, _, q⟩ := hs; exact q.elim
    | ret u =>
      obtain ⟨v, σ5, H5, I5, r5, q5⟩ := hs
      exact goes_ok (I5.loose I.ok) hN hi hl fun s6 I6 => ⟨v, _, _, I6, r5, q5⟩
end
end L2

namespace L2
open PySem PySem.Spec PyProof.Rows
/-! isinstance of the exception that is held -/
def tK (i : Nat) (a : Addr) (b : Bool) : TT := fun σ H Q => σ[i]? = some (some (.ref a)) ∧ ∀ H3, Same H H3 → Q b H3
def tKE (i : Nat) (a : Addr) (b : Bool) : TE := fun σ H Q => σ[i]? = some (some (.ref a)) ∧ ∀ H3, Same H H3 → Q (.bl b) H3
structure ExC (K : PySem.W.Frag) (C : Addr) : Prop where
  k : ExK K C
  hd : PySem.W.hasDictIn K C = true
  ne : ∀ o, K.lookup C = some o → o.cls ≠ .type "tuple"
  hl : (K.lookup C).isSome = true
theorem ExC.kit {K : PySem.W.Frag} {C a : Addr} (c : ExC K C) : PySem.W.KitX K (.ref a) (.ref C) (ExAt a C) :=
  kitx_exc c.k (fun M h X => PySem.W.mc_isType (s := ⟨h, #[], {}, 0, {}⟩) X c.hd) c.ne c.hl
section
variable {X : Cx} {a C : Addr} {oe : Obj} {i : Nat} {b : Bool}
/-- names and types -/
inductive ClV : V → Value → Prop
  | own (c : Addr) : ClV (.ref c) (.ref c)
  | ty (c : String) : ClV (.ty c) (.type c)
theorem ClV.get {c : V} {u cv : Value} (h : ClV c cv) (r : RelV c u) : u = cv := by
  cases h with
  | own c => exact r
  | ty c => exact r
inductive ClVs : List V → List Value → Prop
  | nil : ClVs [] []
  | cons {c : V} {cv : Value} {r : List V} {s : List Value} : ClV c cv → ClVs r s → ClVs (c :: r) (cv :: s)
theorem ClVs.get : ∀ {cs : List V} {us cvs : List Value}, ClVs cs cvs → Vals cs us → us = cvs
  | [], _, _, .nil, .nil => rfl
  | _ :: _, _, _, .cons h t, .cons r s => by rw [h.get r, t.get s]
theorem ClVs.len : ∀ {cs : List V} {cvs : List Value}, ClVs cs cvs → cs.length = cvs.length
  | [], _, .nil => rfl
  | _ :: _, _, .cons _ t => congrArg (· + 1) t.len
theorem Inv.held_at {pins : List (Addr × Obj)} {σ : St} {H : Hp} {s : Shared} (I : Inv (X.held a oe) pins σ H s) (e : oe.cls = .ref C) : ExAt a C s.heap :=
  ⟨oe, (I.pin (a, oe) (List.mem_append_left _ List.mem_cons_self)).1, e⟩
theorem call_isx (e : oe.cls = .ref C) (xc : ExC X.K C) : CallR (X.held a oe) (.builtin "isinstance") (fun xs H Q => ∃ c cv b, xs = [.ref a, c] ∧ ClV c cv ∧ PySem.W.kitOne X.K (.ref C) cv = some b ∧ Q (.bl b) H) := by
  rintro pins s σ H xs us Q I r ⟨c, cv, b, rfl, hc, hk, q⟩
  obtain ⟨u, v, rfl, ru, rv⟩ := Vals.two r
  cases (show u = Value.ref a from ru)
  cases hc.get rv
  exact PySem.W.kia_one xc.kit I.kIn (I.held_at e) hk (fun z => nomatch z) fun tk => ⟨.bl b, H, I.tok tk, rfl, q⟩
theorem call_isxt (e : oe.cls = .ref C) (xc : ExC X.K C) : CallR (X.held a oe) (.builtin "isinstance") (fun xs H Q => ∃ t cs cvs b, xs = [.ref a, .ref t] ∧ H t = some (.tup cs) ∧ ClVs cs cvs ∧ PySem.W.kitAny X.K (.ref C) cvs = some b ∧ Q (.bl b) H) := by
  rintro pins s σ H xs us Q I r ⟨t, cs, cvs, b, rfl, ht, hc, hk, q⟩
  obtain ⟨u, v, rfl, ru, rv⟩ := Vals.two r
  cases (show u = Value.ref a from ru)
  cases (show v = Value.ref t from rv)
  obtain ⟨its, r1, ⟨⟨k1, dd, da, sl⟩, h1, h2, n, h3⟩, _⟩ := I.tuple (SqT.of (K := X.K) ht)
  dsimp only at h2 h3
  subst h2 h3
  have ei := hc.get r1
  subst ei
  exact PySem.W.kia_tup xc.kit I.kIn (I.held_at e) h1 hk (fun z => nomatch z) fun tk => ⟨.bl b, H, I.tok tk, rfl, q⟩
/-! the rules, over judgements that do not unfold -/
structure KE (X : Cx) (i : Nat) (a : Addr) (e : Expr) (b : Bool) : Prop where
  out : PE X e (tKE i a b)
structure KT (X : Cx) (i : Nat) (a : Addr) (e : Expr) (b : Bool) : Prop where
  out : PT X e (tK i a b)
structure KS (X : Cx) (i : Nat) (a : Addr) (e : List Stmt) (b : Bool) : Prop where
  out : PSs X e (tKS i a b)
structure KC (X : Cx) (e : Expr) (cv : Value) : Prop where
  out : ∃ c, ClV c cv ∧ PE X e (tC c)
structure KCs (X : Cx) (e : List Expr) (cv : List Value) : Prop where
  out : ∃ c, ClVs c cv ∧ PA X e fun _ H Q => Q c H
theorem kc_own {x : Str} {D : Addr} {pos : Pos} (hg : Gl X x) (hm : X.mg x = some (.ref D)) (hd : (x == ("__debug__" : Str)) = false := by decide) : KC X (.Name x pos) (.ref D) := ⟨_, .own D, pe_glob hg hm rfl hd⟩
theorem kc_ty {x : Str} {c : String} {pos : Pos} (hg : Gl X x) (hm : X.mg x = none) (hv : bootBuiltins x = some (.type c)) (hn : x ≠ "__name__" := by decide) (hd : (x == ("__debug__" : Str)) = false := by decide) : KC X (.Name x pos) (.type c) := ⟨_, .ty c, pe_bltn hg hm hv rfl hn hd⟩
theorem kcs_nil : KCs X [] [] := ⟨_, .nil, pa_nil⟩
theorem kcs_cons {e : Expr} {es : List Expr} {c : Value} {cs : List Value} (h : KC X e c) (t : KCs X es cs) (hs : starEach (e :: es) X.env = (false, eval e X.env) :: starEach es X.env := by rfl) : KCs X (e :: es) (c :: cs) := by
  obtain ⟨c1, h1, h2⟩ := h.out
  obtain ⟨c2, t1, t2⟩ := t.out
  exact ⟨_, .cons h1 t1, pa_cons h2 t2 hs⟩
theorem pe_imp {e : Expr} {t t' : TE} (h : PE X e t) (k : ∀ σ H Q, t' σ H Q → t σ H Q) : PE X e t' := fun pins s σ H Q I q => h pins s σ H Q I (k _ _ _ q)
theorem pt_imp {e : Expr} {t t' : TT} (h : PT X e t) (k : ∀ σ H Q, t' σ H Q → t σ H Q) : PT X e t' := fun pins s σ H Q I q => h pins s σ H Q I (k _ _ _ q)
theorem pss_imp {e : List Stmt} {t t' : TS} (h : PSs X e t) (k : ∀ D σ H, t' D σ H → t D σ H) : PSs X e t' := fun pins s σ H D I q => h pins s σ H D I (k _ _ _ q)
theorem ke_is {n : Str} {ec : Expr} {cv : Value} {p p1 pos : Pos} (he : oe.cls = .ref C) (xc : ExC X.K C) (hg : Gl X "isinstance") (hm : X.mg "isinstance" = none) (hi : X.N[i]? = some n) (hl : Vis X.env.scope n) (hc : KC (X.held a oe) ec cv) (hk : PySem.W.kitOne X.K (.ref C) cv = some b)
    (hd : (n == ("__debug__" : Str)) = false := by decide) (hcd : (n == ("__classdict__" : Str)) = false := by decide) (hs1 : starEach [.Name n p1, ec] X.env = (false, eval (.Name n p1) X.env) :: starEach [ec] X.env := by rfl) (hs2 : starEach [ec] X.env = (false, eval ec X.env) :: starEach [] X.env := by rfl) (hpl : (backTo pos (starEach [ec] X.env)).any (·.1) = false := by rfl) :
    KE (X.held a oe) i a (.Call (.Name "isinstance" p) [.Name n p1, ec] [] pos) b := by
  obtain ⟨c, h1, h2⟩ := hc.out
  refine ⟨pe_imp (pe_callB (X := X.held a oe) (call_isx he xc) hg hm (by rfl) (pa_cons (pe_var hi hl hd hcd) (pa_cons h2 pa_nil hs2) hs1) (by decide) (by decide) hs1 hpl) fun σ H Q q => ?_⟩
  exact ⟨_, q.1, c, cv, b, rfl, h1, hk, q.2 _ fun _ _ z => z⟩
theorem ke_ist {n : Str} {ec : List Expr} {x1} {cvs : List Value} {p p1 p2 pos : Pos} (he : oe.cls = .ref C) (xc : ExC X.K C) (hg : Gl X "isinstance") (hm : X.mg "isinstance" = none) (hi : X.N[i]? = some n) (hl : Vis X.env.scope n) (hc : KCs (X.held a oe) ec cvs) (hk : PySem.W.kitAny X.K (.ref C) cvs = some b) (hz : cvs.length ≤ 1000)
    (hd : (n == ("__debug__" : Str)) = false := by decide) (hcd : (n == ("__classdict__" : Str)) = false := by decide) (hs1 : starEach [.Name n p1, .Tuple ec x1 p2] X.env = (false, eval (.Name n p1) X.env) :: starEach [.Tuple ec x1 p2] X.env := by rfl) (hpl : (backTo pos (starEach [.Tuple ec x1 p2] X.env)).any (·.1) = false := by rfl) :
    KE (X.held a oe) i a (.Call (.Name "isinstance" p) [.Name n p1, .Tuple ec x1 p2] [] pos) b := by
  obtain ⟨c, h1, h2⟩ := hc.out
  refine ⟨pe_imp (pe_callB (X := X.held a oe) (call_isxt he xc) hg hm (by rfl) (pa_cons (pe_var hi hl hd hcd) (pa_cons (pe_tup h2) pa_nil)) (by decide) (by decide) hs1 hpl) fun σ H Q q => ?_⟩
  refine ⟨_, q.1, ?_⟩
  exact ⟨by rw [h1.len]; exact Nat.le_trans hz line1000, fun t ht => ⟨t, c, cvs, b, rfl, by unfold upd; rw [if_pos rfl], h1, hk, q.2 _ (Same.upd ht)⟩⟩
theorem KE.t {e : Expr} (h : KE X i a e b) (he : ∀ whole, isTrue e X.env whole = (do let v ← whole; standAt e.pos; holding [v] (truthy v)) := by intro _; rfl) : KT X i a e b :=
  ⟨pt_imp (pt_val h.out he) fun _ _ _ q => ⟨q.1, fun H3 z => ⟨_, rfl, q.2 H3 z⟩⟩⟩
theorem ke_and {e e2 : Expr} {rest : List Expr} {c d : Bool} {pos : Pos} (h : KE X i a e b) (h2 : KE X i a (.BoolOp .And (e2 :: rest) pos) c) (hd : (b && c) = d := by rfl) : KE X i a (.BoolOp .And (e :: e2 :: rest) pos) d := by
  subst hd
  exact ⟨pe_imp (pe_and h.out h2.out) fun σ H Q q => ⟨q.1, fun H3 z => ⟨b, rfl, by
    cases b with
    | true => exact ⟨q.1, fun H4 z4 => q.2 H4 (z.trans z4)⟩
    | false => exact q.2 H3 z⟩⟩⟩
theorem ke_one {e : Expr} {op} {pos : Pos} (h : KE X i a e b) : KE X i a (.BoolOp op [e] pos) b := ⟨pe_one h.out⟩
theorem ks_ret {e : Expr} {pos : Pos} {rest : List Stmt} (h : KE X i a e b) : KS X i a (.Return (some e) pos :: rest) b :=
  ⟨pss_imp (pss_cons (ps_ret h.out) (fun _ _ _ _ _ _ q => False.elim q : PSs X rest fun _ _ _ => False)) fun _ _ _ q => q⟩
theorem ks_skip {c : Expr} {s rest : List Stmt} {pos : Pos} (hc : KT X i a c false) (h : KS X i a rest b) : KS X i a (.If c s [] pos :: rest) b :=
  ⟨pss_imp (pss_cons (ps_if hc.out (fun _ _ _ _ _ _ q => False.elim q : PSs X s fun _ _ _ => False) pss_nil) h.out) fun _ _ _ q => ⟨q.1, fun H3 z => ⟨q.1, fun H4 z4 => q.2 H4 (z.trans z4)⟩⟩⟩
end
end L2

namespace L2
open PySem PySem.Spec PyProof.Rows
section
variable {X : Cx}
theorem qs_nox {st : Stmt} {t : TS} (h : QS X.nox st t) : QS X st t := ⟨fun pins s σ H D I hw =>
  wpAny_mono (h.out pins s σ H D (I.wish _) hw) (fun _ _ q => q.unwish) fun _ _ z => False.elim z⟩
theorem qt_nox {e : Expr} {t : TT} (h : QT X.nox e t) : QT X e t := ⟨h.out.nox⟩
variable {k i : Nat} {f C CH : Addr} {fd : FuncData} {ps : List Str} {sp : Sp} {x xh n : Str} {p pos pos2 pos3 pos4 pos5 : Pos} {e : Expr} {es : List Expr} {t : TA} {b0 : Stmt} {suite : List Stmt} {b : Bool}
theorem qps_try (F : FnOk X.prog X.w X.K X.mg X.base (CX1 X.prog X.w) k f fd ps sp) (hr : Room k X.A) (hg : Gl X x) (hm : X.mg x = some (.ref f)) (hk : PySem.W.keepIn X.K (.ref f) = true) (hb : Binds X.K fd ps [])
    (ha : QA X (e :: es) t) (hgh : Gl X xh) (hmh : X.mg xh = some (.ref CH)) (hx : PySem.W.exmOne X.K (.ref C) (.ref CH) = some true) (hN : X.N.Nodup) (hi : X.N[i]? = some n) (hl : X.env.scope.names.lookup n = some .local)
    (hsu : ∀ a oe, oe.cls = .ref C → KS (X.held a oe) i a (b0 :: suite) b) (hxe : ∀ e s, X.xe e s → False := by exact fun _ _ z => z)
    (hst : X.stack = X.env :: X.outer := by rfl) (hfr : X.env.frame = some X.env.locals := by rfl)
    (hdb : (x == ("__debug__" : Str)) = false := by decide) (hdb2 : (xh == ("__debug__" : Str)) = false := by decide) (he : starEach (e :: es) X.env = (false, eval e X.env) :: starEach es X.env := by rfl) (hpl : (backTo pos (starEach es X.env)).any (·.1) = false := by rfl)
    (hsw : swapsWith (.Call (.Name x p) (e :: es) [] pos) none pos2.line X.env = pure false := by rfl) :
    QS X (.Try [.Expr (.Call (.Name x p) (e :: es) [] pos) pos2] [.ExceptHandler (some (.Name xh pos3)) (some n) (b0 :: suite) pos4] [] [] pos5) (tTryR sp t C b) :=
  ⟨ps_try F hr hg hm hk hb (fun pos pins s σ H Q I q => wpAny_mono (ha.out pos pins s σ H Q I.unwish q) (fun us s' ⟨vs, H1, I1, r, q⟩ => ⟨vs, H1, I1.wish _, r, q⟩) hxe) hgh hmh hx hN hi hl (fun a oe e => (hsu a oe e).out) hst hfr hdb hdb2 he hpl hsw⟩
end
end L2
namespace Pu
open PySem PySem.Spec PyProof.Rows L2 My Prf
/-! a def that raises, over plain data -/
def spE (K : Frag) (md : List Md) (C : Addr) (psp : List SV → Prop) : Sp := fun vs H _ E => ∃ (w : Wd) (as : List SV), w.H = H ∧ w.Ok ∧ Args K w md vs as ∧ psp as ∧ ∀ w', w'.Ok → Le w w' → E (.ref C) none w'.H
theorem spE.len {K : Frag} {md : List Md} {C : Addr} {psp : List SV → Prop} {n : Nat} (h : md.length = n) : ∀ vs H Q E, spE K md C psp vs H Q E → vs.length = n := by
  rintro vs H Q E ⟨w, as, _, _, a, _⟩
  exact a.len.trans h
def tRaiseW (w0 : Wd) : TS := fun _ _ H => ∃ w', w'.H = H ∧ w'.Ok ∧ Le w0 w'
def pRaise (_ : PEnds) (_ : PEnv) : Prop := True
class RSX (K : Frag) (w0 : Wd) (ts : TS) (ps : outParam PSt) : Prop where
  ok : ∀ (c : Ct) (w : Wd) (env : PEnv) (σ : L2.St) (Dp : PEnds) (D : Ends), c.K = K → c.w0 = w0 → EnvOk c w env σ → EndsOk c w Dp D → ps Dp env → ts D σ w.H
instance (priority := low) rsx_of {K : Frag} {w0 : Wd} {ts : TS} {ps : PSt} [h : RS K ts ps] : RSX K w0 ts ps := ⟨fun c w env σ Dp D e _ => h.ok c w env σ Dp D e⟩
instance rsx_raise {K : Frag} {w0 : Wd} : RSX K w0 (tRaiseW w0) pRaise := ⟨fun c w env σ Dp D _ e E _ _ => ⟨w, rfl, E.wok, e ▸ E.le0⟩⟩
instance rsx_seq {K : Frag} {w0 : Wd} {t u : TS} {p q : PSt} [ht : RSX K w0 t p] [hu : RSX K w0 u q] : RSX K w0 (tSeq t u) (pSeq p q) where
  ok := by
    rintro c w env σ Dp D rfl rfl E h pr
    refine ht.ok c w env σ { Dp with nx := q Dp } _ rfl rfl E ⟨fun e1 σ1 w1 E1 s1 n1 => ?_, h.rt, h.bk, h.ct⟩ pr
    exact hu.ok c w1 e1 σ1 Dp D rfl rfl E1 (h.on s1) n1
instance rsx_if {K : Frag} {w0 : Wd} {tt : TT} {t u : TS} {pt : PTt} {p q : PSt} [hc : RT K tt pt] [ht : RSX K w0 t p] [hu : RSX K w0 u q] : RSX K w0 (tIfS tt t u) (pIf pt p q) where
  ok := by
    rintro c w env σ Dp D rfl rfl E h pr
    refine hc.ok c w env σ _ _ rfl E pr fun b e1 w1 E1 l1 q1 => ?_
    cases b with
    | true => exact ht.ok c w1 e1 σ Dp D rfl rfl E1 (h.on l1.f) q1
    | false => exact hu.ok c w1 e1 σ Dp D rfl rfl E1 (h.on l1.f) q1
theorem enterX {K : Frag} {w : Wd} {ts : TS} {ps : PSt} [hs : RSX K w ts ps] {md : List Md} {vs : List V} {as : List SV} {D : Ends} {N : List Str} (ok : w.Ok) (a : Args K w md vs as)
    (hb : ps ⟨fun _ => False, fun _ => False, fun _ => False, fun _ => False⟩ (as.map some ++ List.replicate (N.length - md.length) none)) : ts D (L2.start N vs) w.H := by
  obtain ⟨hl, hat⟩ := args_at a
  have look : ∀ (i : Nat) s, (as.map some ++ List.replicate (N.length - md.length) none)[i]? = some (some s) → as[i]? = some s := fun i s e => by
    rw [List.getElem?_append] at e
    split at e
    · rw [List.getElem?_map] at e
      cases q : as[i]? with
      | none => rw [q] at e; cases e
      | some t => rw [q] at e; cases e; rfl
    · rw [List.getElem?_replicate] at e
      split at e <;> cases e
  refine hs.ok ⟨K, w, noZ⟩ w (as.map some ++ List.replicate (N.length - md.length) none) (L2.start N vs) ⟨fun _ => False, fun _ => False, fun _ => False, fun _ => False⟩ D rfl rfl ⟨ok, Le.refl w, by simp [L2.start, hl, a.len], fun i s e => ?_, fun i j s t v u a e _ _ _ f => absurd f ((hat i _ (look i _ e)).2 v a), fun a z => z.elim, fun a j t u z => z.elim⟩ ⟨fun _ _ _ _ _ z => z.elim, fun _ _ _ _ _ _ _ z => z.elim, fun _ _ _ _ _ z => z.elim, fun _ _ _ _ _ z => z.elim⟩ hb
  obtain ⟨⟨v, h1, h2⟩, _⟩ := hat i s (look i s e)
  refine ⟨v, ?_, h2⟩
  unfold L2.start
  rw [List.getElem?_append_left (by rw [List.length_map]; exact (List.getElem?_eq_some_iff.mp h1).1), List.getElem?_map, h1]; rfl
theorem okx {P : Program} {w : World} {K : Frag} {mg : Str → Option Value} {base : Heap} {x qual : Str} {st : Stmt} {f : Addr} {fd : FuncData} {N ps : List Str} {k : Nat} {md : List Md} {C : Addr} {psp : List SV → Prop} {ts : Wd → TS} {pst : PSt} (F : L2.Fun K x qual st f fd) (S : FnScope N ps (defScope st)) (hm : md.length = ps.length)
    (hbody : ∀ (cdv : Value) (A : Around) (outer : List Env) (s : Shared) (H : Hpp) (E : XK) (w0 : Wd), Room k (A.deeper (envOfC qual (defScope st) s.heap.objs.size f cdv)) → (∀ w', w'.Ok → Le w0 w' → E (.ref C) none w'.H) →
      PSs (cxOf (CX1 P w) P w K mg base N qual (defScope st) f cdv A outer s H E) (defBody st) (ts w0))
    (hs : ∀ w0, RSX K w0 (ts w0) pst) (hb : ∀ as, psp as → pst ⟨fun _ => False, fun _ => False, fun _ => False, fun _ => False⟩ (as.map some ++ List.replicate (N.length - md.length) none)) : FnOk P w K mg base (CX1 P w) (k + 1) f fd ps (spE K md C psp) := by
  obtain ⟨oc, od, kV, doc, pm, an, cdv, ct, osl, rfl, lk, hcd⟩ := F.ex
  refine fn_of lk hcd S (spE.len hm) fun A outer s H vs Q E hr ⟨w0, as, e, ok, a, p, kk⟩ => ?_
  refine ⟨_, hbody cdv A outer s H E w0 hr kk, ?_⟩
  subst e
  haveI := hs w0
  exact enterX ok a (hb as p)
theorem qps_raise {P : Program} {w : World} {K : Frag} {mg : Str → Option Value} {base : Heap} {N : List Str} {qual : Str} {scope : Scope} {f : Addr} {cd : Value} {A : Around} {outer : List Env} {s0 : Shared} {H0 : Hpp} {E : XK} {w0 : Wd} {x : Str} {C : Addr} {pos np cpos : Pos} (hk : ∀ w', w'.Ok → Le w0 w' → E (.ref C) none w'.H)
    (hg : Gl (cxOf (CX1 P w) P w K mg base N qual scope f cd A outer s0 H0 E) x) (hm : mg x = some (.ref C)) (hex : PySem.W.excIn K C vTail "ValueError.__new__" = true) {z : Str} {j : Nat} {sp : Pos} (hd : (x == ("__debug__" : Str)) = false := by decide) :
    QS (cxOf (CX1 P w) P w K mg base N qual scope f cd A outer s0 H0 E) (.Raise (some (.Call (.Name x np) [.Constant (.str z) j sp] [] cpos)) none pos) (tRaiseW w0) :=
  ⟨fun pins s σ H D I ⟨w', e, ok, l⟩ => ps_raise throws1 rfl hg hm hex hd pins s σ H D I (by subst e; exact hk w' ok l)⟩
/-! caught -/
def pTryR (psp : List SV → Prop) (pa : PAs) (b : Bool) (D : PEnds) (env : PEnv) : Prop := pa env fun as _ => psp as ∧ D.rt (.d (.bool b))
instance rs_tryR {K : Frag} {md : List Md} {psp : List SV → Prop} {C : Addr} {b : Bool} {ta : TA} {pa : PAs} [ha : RAm K md ta pa] : RS K (tTryR (spE K md C psp) ta C b) (pTryR psp pa b) where
  ok := by
    rintro c w env σ Dp D rfl E h p
    refine ha.ok c w env σ _ _ rfl E p fun vs as e1 w1 E1 l1 a1 q1 => ?_
    rw [List.append_nil]
    refine ⟨w1, as, rfl, E1.wok, a1, q1.1, fun w' ok l => ⟨rfl, fun H3 s3 => ?_⟩⟩
    have g : Le w' ⟨w'.M, H3, w'.F⟩ := ⟨⟨Same.refl _, fun b o e _ => s3 b o e, fun _ z => z, fun _ z => .inl z, fun b z => by
      cases q : w'.H b with
      | none => rfl
      | some o => have := s3 b o q; rw [show H3 b = none from z] at this; cases this⟩, fun _ _ z => .inl z⟩
    refine h.rt (.bl b) (.d (.bool b)) ⟨w'.M, H3, w'.F⟩ ⟨ok.sub.trans s3, fun p hp => ?_, ok.nf⟩ ((E1.le0.trans l).trans g) (show Den _ _ _ _ from .bl b) rfl q1.2
    exact (ok.st p hp).same s3
end Pu
namespace L2
open PySem PySem.Spec PyProof.Rows
theorem qss_never {X : Cx} {st : List Stmt} : QSs X st tNever := ⟨fun _ _ _ _ _ _ q => q.elim⟩
theorem ExC.of {K : PySem.W.Frag} {C : Addr} (ga : PySem.W.findIn K (.ref C) "__getattribute__" = some (some (.builtin "BaseException.__getattribute__"))) (gn : PySem.W.findIn K (.ref C) "__getattr__" = some none)
    (gc : PySem.W.findIn K (.ref C) "__class__" = some (some (.builtin "object.__class__"))) (sb : PySem.W.subIn K (.ref C) (.type "BaseException") = some true) (so : PySem.W.subIn K (.ref C) (.type "object") = some true)
    (hd : PySem.W.hasDictIn K C = true) (ty : (K.lookup C).map (·.cls) = some (.type "type")) : ExC K C :=
  ⟨⟨ga, gn, gc, sb, so⟩, hd, (fun o e z => by rw [e] at ty; simp only [Option.map_some, Option.some.injEq] at ty; rw [ty] at z; exact absurd (Value.type.inj z) (by decide)), (by
    cases q : K.lookup C with
    | none => rw [q] at ty; cases ty
    | some o => rfl)⟩
theorem us0 : ∀ {us : List Value}, us.length = 0 → us = []
  | [], _ => rfl
theorem usS {n : Nat} : ∀ {us : List Value}, us.length = n + 1 → ∃ a r, us = a :: r ∧ r.length = n
  | a :: r, h => ⟨a, r, rfl, Nat.succ.inj h⟩
theorem us1 {us : List Value} (h : us.length = 1) : ∃ a, us = [a] := by
  obtain ⟨a, r, e, k⟩ := usS h
  exact ⟨a, by rw [e, us0 k]⟩
theorem us2 {us : List Value} (h : us.length = 2) : ∃ a b, us = [a, b] := by
  obtain ⟨a, r, e, k⟩ := usS h; obtain ⟨b, z⟩ := us1 k; exact ⟨a, b, by rw [e, z]⟩
theorem us3 {us : List Value} (h : us.length = 3) : ∃ a b c, us = [a, b, c] := by
  obtain ⟨a, r, e, k⟩ := usS h; obtain ⟨b, c, z⟩ := us2 k; exact ⟨a, b, c, by rw [e, z]⟩
end L2

set_option synthInstance.maxHeartbeats 0
set_option synthInstance.maxSize 100000
set_option maxHeartbeats 4000000
namespace Prf
open PySem L2 My Pu
set_option genInjectivity false
set_option genSizeOfSpec false
def top (i : Nat) : Stmt := PySem.Challenge.pw_hurryprice_k02_fractions_reckoned.main.body.getD i (.Pass ⟨0, 0, 0, 0⟩)
abbrev s_commonpart : Stmt := top 19
abbrev s_plus : Stmt := top 21
abbrev s_minus : Stmt := top 22
abbrev s_product : Stmt := top 23
abbrev s_parted : Stmt := top 24
abbrev s_isless : Stmt := top 25
abbrev s_larger : Stmt := top 26
abbrev s_smaller : Stmt := top 27
abbrev s_Lbegun : Stmt := top 29
abbrev s_Ltake : Stmt := top 30
abbrev s_Llow : Stmt := top 31
abbrev s_Lnumber : Stmt := top 32
abbrev s_Lfraction : Stmt := top 33
abbrev s_Lis : Stmt := top 34
abbrev s_Lnoparts : Stmt := top 35
abbrev s_Lasked : Stmt := top 36
abbrev s_law : Stmt := top 37
structure Adr where
  a_commonpart : Addr
  d_commonpart : FuncData
  a_plus : Addr
  d_plus : FuncData
  a_minus : Addr
  d_minus : FuncData
  a_product : Addr
  d_product : FuncData
  a_parted : Addr
  d_parted : FuncData
  a_isless : Addr
  d_isless : FuncData
  a_larger : Addr
  d_larger : FuncData
  a_smaller : Addr
  d_smaller : FuncData
  a_Lbegun : Addr
  d_Lbegun : FuncData
  a_Ltake : Addr
  d_Ltake : FuncData
  a_Llow : Addr
  d_Llow : FuncData
  a_Lnumber : Addr
  d_Lnumber : FuncData
  a_Lfraction : Addr
  d_Lfraction : FuncData
  a_Lis : Addr
  d_Lis : FuncData
  a_Lnoparts : Addr
  d_Lnoparts : FuncData
  a_Lasked : Addr
  d_Lasked : FuncData
  a_law : Addr
  d_law : FuncData
  k_NoNumber : Addr
  k_HurryError : Addr
  k_NoChange : Addr
  k_NoDeed : Addr
  k_NoDiary : Addr
  k_NoJoin : Addr
  k_NoName : Addr
  k_NoNet : Addr
  k_NoPaper : Addr
  k_NoRow : Addr
  k_NoText : Addr
  k_NoTime : Addr
  k_NoTree : Addr
  k_NotSteps : Addr
  k_NotStraight : Addr
  k_TooMany : Addr
  k_Unbalanced : Addr
structure Txt (K : PySem.W.Frag) (mg : Str → Option Value) (D : Adr) : Prop where
  F_commonpart : Fun K "common_part" "common_part" s_commonpart D.a_commonpart D.d_commonpart
  m_commonpart : mg "common_part" = some (.ref D.a_commonpart)
  F_plus : Fun K "plus" "plus" s_plus D.a_plus D.d_plus
  m_plus : mg "plus" = some (.ref D.a_plus)
  F_minus : Fun K "minus" "minus" s_minus D.a_minus D.d_minus
  m_minus : mg "minus" = some (.ref D.a_minus)
  F_product : Fun K "product" "product" s_product D.a_product D.d_product
  m_product : mg "product" = some (.ref D.a_product)
  F_parted : Fun K "parted" "parted" s_parted D.a_parted D.d_parted
  m_parted : mg "parted" = some (.ref D.a_parted)
  F_isless : Fun K "is_less" "is_less" s_isless D.a_isless D.d_isless
  m_isless : mg "is_less" = some (.ref D.a_isless)
  F_larger : Fun K "larger" "larger" s_larger D.a_larger D.d_larger
  m_larger : mg "larger" = some (.ref D.a_larger)
  F_smaller : Fun K "smaller" "smaller" s_smaller D.a_smaller D.d_smaller
  m_smaller : mg "smaller" = some (.ref D.a_smaller)
  F_Lbegun : Fun K "_law_begun" "_law_begun" s_Lbegun D.a_Lbegun D.d_Lbegun
  m_Lbegun : mg "_law_begun" = some (.ref D.a_Lbegun)
  F_Ltake : Fun K "_law_take" "_law_take" s_Ltake D.a_Ltake D.d_Ltake
  m_Ltake : mg "_law_take" = some (.ref D.a_Ltake)
  F_Llow : Fun K "_law_low" "_law_low" s_Llow D.a_Llow D.d_Llow
  m_Llow : mg "_law_low" = some (.ref D.a_Llow)
  F_Lnumber : Fun K "_law_number" "_law_number" s_Lnumber D.a_Lnumber D.d_Lnumber
  m_Lnumber : mg "_law_number" = some (.ref D.a_Lnumber)
  F_Lfraction : Fun K "_law_fraction" "_law_fraction" s_Lfraction D.a_Lfraction D.d_Lfraction
  m_Lfraction : mg "_law_fraction" = some (.ref D.a_Lfraction)
  F_Lis : Fun K "_law_is" "_law_is" s_Lis D.a_Lis D.d_Lis
  m_Lis : mg "_law_is" = some (.ref D.a_Lis)
  F_Lnoparts : Fun K "_law_no_parts" "_law_no_parts" s_Lnoparts D.a_Lnoparts D.d_Lnoparts
  m_Lnoparts : mg "_law_no_parts" = some (.ref D.a_Lnoparts)
  F_Lasked : Fun K "_law_asked" "_law_asked" s_Lasked D.a_Lasked D.d_Lasked
  m_Lasked : mg "_law_asked" = some (.ref D.a_Lasked)
  F_law : Fun K "law" "law" s_law D.a_law D.d_law
  m_law : mg "law" = some (.ref D.a_law)
  c_NoNumber : mg "NoNumber" = some (.ref D.k_NoNumber)
  c_HurryError : mg "HurryError" = some (.ref D.k_HurryError)
  c_NoChange : mg "NoChange" = some (.ref D.k_NoChange)
  c_NoDeed : mg "NoDeed" = some (.ref D.k_NoDeed)
  c_NoDiary : mg "NoDiary" = some (.ref D.k_NoDiary)
  c_NoJoin : mg "NoJoin" = some (.ref D.k_NoJoin)
  c_NoName : mg "NoName" = some (.ref D.k_NoName)
  c_NoNet : mg "NoNet" = some (.ref D.k_NoNet)
  c_NoPaper : mg "NoPaper" = some (.ref D.k_NoPaper)
  c_NoRow : mg "NoRow" = some (.ref D.k_NoRow)
  c_NoText : mg "NoText" = some (.ref D.k_NoText)
  c_NoTime : mg "NoTime" = some (.ref D.k_NoTime)
  c_NoTree : mg "NoTree" = some (.ref D.k_NoTree)
  c_NotSteps : mg "NotSteps" = some (.ref D.k_NotSteps)
  c_NotStraight : mg "NotStraight" = some (.ref D.k_NotStraight)
  c_TooMany : mg "TooMany" = some (.ref D.k_TooMany)
  c_Unbalanced : mg "Unbalanced" = some (.ref D.k_Unbalanced)
  z_ValueError : mg "ValueError" = none
  z_abs : mg "abs" = none
  z_bool : mg "bool" = none
  z_int : mg "int" = none
  z_isinstance : mg "isinstance" = none
  z_len : mg "len" = none
  z_max : mg "max" = none
  z_min : mg "min" = none
  z_range : mg "range" = none
  z_tuple : mg "tuple" = none
  ex_NoNumber : PySem.W.excIn K D.k_NoNumber vTail "ValueError.__new__" = true
  xm_NoNumber_HurryError : PySem.W.exmOne K (.ref D.k_NoNumber) (.ref D.k_HurryError) = some true
  xga_NoNumber : PySem.W.findIn K (.ref D.k_NoNumber) "__getattribute__" = some (some (.builtin "BaseException.__getattribute__"))
  xgn_NoNumber : PySem.W.findIn K (.ref D.k_NoNumber) "__getattr__" = some none
  xgc_NoNumber : PySem.W.findIn K (.ref D.k_NoNumber) "__class__" = some (some (.builtin "object.__class__"))
  xsb_NoNumber : PySem.W.subIn K (.ref D.k_NoNumber) (.type "BaseException") = some true
  xso_NoNumber : PySem.W.subIn K (.ref D.k_NoNumber) (.type "object") = some true
  xhd_NoNumber : PySem.W.hasDictIn K D.k_NoNumber = true
  xty_NoNumber : (K.lookup D.k_NoNumber).map (·.cls) = some (.type "type")
  xt_NoNumber_NoChange_NoDeed_NoDiary_NoJoin_NoName_NoNet_NoPaper_NoRow : PySem.W.kitAny K (.ref D.k_NoNumber) [(.ref D.k_NoChange), (.ref D.k_NoDeed), (.ref D.k_NoDiary), (.ref D.k_NoJoin), (.ref D.k_NoName), (.ref D.k_NoNet), (.ref D.k_NoPaper), (.ref D.k_NoRow)] = some false
  xt_NoNumber_NoText_NoTime_NoTree_NotSteps_NotStraight_TooMany_Unbalanced : PySem.W.kitAny K (.ref D.k_NoNumber) [(.ref D.k_NoText), (.ref D.k_NoTime), (.ref D.k_NoTree), (.ref D.k_NotSteps), (.ref D.k_NotStraight), (.ref D.k_TooMany), (.ref D.k_Unbalanced)] = some false
  xi_NoNumber_ValueError : PySem.W.kitOne K (.ref D.k_NoNumber) (.type "ValueError") = some true
  xi_NoNumber_NoNumber : PySem.W.kitOne K (.ref D.k_NoNumber) (.ref D.k_NoNumber) = some true
abbrev sp_law := spLaw
section
variable {K : PySem.W.Frag} {mg : Str → Option Value} {D : Adr}
theorem sc_commonpart : FnScope ["one", "other"] ["one", "other"] (defScope s_commonpart) := ⟨rfl, rfl, rfl, by decide +kernel, rfl, by decide +kernel, by decide +kernel⟩
theorem b_commonpart (T : Txt K mg D) : Binds K D.d_commonpart ["one", "other"] [] := T.F_commonpart.binds (ps := ["one", "other"]) fun _ _ _ _ _ _ us hl => by obtain ⟨_, _, rfl⟩ := us2 hl; rfl
theorem sc_plus : FnScope ["one", "other", "shared", "mine", "theirs", "top", "rest"] ["one", "other"] (defScope s_plus) := ⟨rfl, rfl, rfl, by decide +kernel, rfl, by decide +kernel, by decide +kernel⟩
theorem b_plus (T : Txt K mg D) : Binds K D.d_plus ["one", "other"] [] := T.F_plus.binds (ps := ["one", "other"]) fun _ _ _ _ _ _ us hl => by obtain ⟨_, _, rfl⟩ := us2 hl; rfl
theorem sc_minus : FnScope ["one", "other"] ["one", "other"] (defScope s_minus) := ⟨rfl, rfl, rfl, by decide +kernel, rfl, by decide +kernel, by decide +kernel⟩
theorem b_minus (T : Txt K mg D) : Binds K D.d_minus ["one", "other"] [] := T.F_minus.binds (ps := ["one", "other"]) fun _ _ _ _ _ _ us hl => by obtain ⟨_, _, rfl⟩ := us2 hl; rfl
theorem sc_product : FnScope ["one", "other", "mine", "theirs"] ["one", "other"] (defScope s_product) := ⟨rfl, rfl, rfl, by decide +kernel, rfl, by decide +kernel, by decide +kernel⟩
theorem b_product (T : Txt K mg D) : Binds K D.d_product ["one", "other"] [] := T.F_product.binds (ps := ["one", "other"]) fun _ _ _ _ _ _ us hl => by obtain ⟨_, _, rfl⟩ := us2 hl; rfl
theorem sc_parted : FnScope ["one", "other", "top", "bottom"] ["one", "other"] (defScope s_parted) := ⟨rfl, rfl, rfl, by decide +kernel, rfl, by decide +kernel, by decide +kernel⟩
theorem b_parted (T : Txt K mg D) : Binds K D.d_parted ["one", "other"] [] := T.F_parted.binds (ps := ["one", "other"]) fun _ _ _ _ _ _ us hl => by obtain ⟨_, _, rfl⟩ := us2 hl; rfl
theorem sc_isless : FnScope ["one", "other"] ["one", "other"] (defScope s_isless) := ⟨rfl, rfl, rfl, by decide +kernel, rfl, by decide +kernel, by decide +kernel⟩
theorem b_isless (T : Txt K mg D) : Binds K D.d_isless ["one", "other"] [] := T.F_isless.binds (ps := ["one", "other"]) fun _ _ _ _ _ _ us hl => by obtain ⟨_, _, rfl⟩ := us2 hl; rfl
theorem sc_larger : FnScope ["one", "other"] ["one", "other"] (defScope s_larger) := ⟨rfl, rfl, rfl, by decide +kernel, rfl, by decide +kernel, by decide +kernel⟩
theorem b_larger (T : Txt K mg D) : Binds K D.d_larger ["one", "other"] [] := T.F_larger.binds (ps := ["one", "other"]) fun _ _ _ _ _ _ us hl => by obtain ⟨_, _, rfl⟩ := us2 hl; rfl
theorem sc_smaller : FnScope ["one", "other"] ["one", "other"] (defScope s_smaller) := ⟨rfl, rfl, rfl, by decide +kernel, rfl, by decide +kernel, by decide +kernel⟩
theorem b_smaller (T : Txt K mg D) : Binds K D.d_smaller ["one", "other"] [] := T.F_smaller.binds (ps := ["one", "other"]) fun _ _ _ _ _ _ us hl => by obtain ⟨_, _, rfl⟩ := us2 hl; rfl
theorem sc_Lbegun : FnScope ["_law_script", "_law_k", "_law_cell"] ["_law_script", "_law_k"] (defScope s_Lbegun) := ⟨rfl, rfl, rfl, by decide +kernel, rfl, by decide +kernel, by decide +kernel⟩
theorem b_Lbegun (T : Txt K mg D) : Binds K D.d_Lbegun ["_law_script", "_law_k"] [] := T.F_Lbegun.binds (ps := ["_law_script", "_law_k"]) fun _ _ _ _ _ _ us hl => by obtain ⟨_, _, rfl⟩ := us2 hl; rfl
theorem sc_Ltake : FnScope ["_law_state", "_law_many", "_law_digit", "_law_made", "_law_turn"] ["_law_state", "_law_many"] (defScope s_Ltake) := ⟨rfl, rfl, rfl, by decide +kernel, rfl, by decide +kernel, by decide +kernel⟩
theorem b_Ltake (T : Txt K mg D) : Binds K D.d_Ltake ["_law_state", "_law_many"] [] := T.F_Ltake.binds (ps := ["_law_state", "_law_many"]) fun _ _ _ _ _ _ us hl => by obtain ⟨_, _, rfl⟩ := us2 hl; rfl
theorem sc_Llow : FnScope ["_law_top", "_law_bottom", "_law_one", "_law_other"] ["_law_top", "_law_bottom"] (defScope s_Llow) := ⟨rfl, rfl, rfl, by decide +kernel, rfl, by decide +kernel, by decide +kernel⟩
theorem b_Llow (T : Txt K mg D) : Binds K D.d_Llow ["_law_top", "_law_bottom"] [] := T.F_Llow.binds (ps := ["_law_top", "_law_bottom"]) fun _ _ _ _ _ _ us hl => by obtain ⟨_, _, rfl⟩ := us2 hl; rfl
theorem sc_Lnumber : FnScope ["_law_state", "_law_size", "_law_number_here"] ["_law_state"] (defScope s_Lnumber) := ⟨rfl, rfl, rfl, by decide +kernel, rfl, by decide +kernel, by decide +kernel⟩
theorem b_Lnumber (T : Txt K mg D) : Binds K D.d_Lnumber ["_law_state"] [] := T.F_Lnumber.binds (ps := ["_law_state"]) fun _ _ _ _ _ _ us hl => by obtain ⟨_, rfl⟩ := us1 hl; rfl
theorem sc_Lfraction : FnScope ["_law_state", "_law_top", "_law_bottom"] ["_law_state"] (defScope s_Lfraction) := ⟨rfl, rfl, rfl, by decide +kernel, rfl, by decide +kernel, by decide +kernel⟩
theorem b_Lfraction (T : Txt K mg D) : Binds K D.d_Lfraction ["_law_state"] [] := T.F_Lfraction.binds (ps := ["_law_state"]) fun _ _ _ _ _ _ us hl => by obtain ⟨_, rfl⟩ := us1 hl; rfl
theorem sc_Lis : FnScope ["_law_found", "_law_top", "_law_bottom", "_law_part"] ["_law_found", "_law_top", "_law_bottom"] (defScope s_Lis) := ⟨rfl, rfl, rfl, by decide +kernel, rfl, by decide +kernel, by decide +kernel⟩
theorem b_Lis (T : Txt K mg D) : Binds K D.d_Lis ["_law_found", "_law_top", "_law_bottom"] [] := T.F_Lis.binds (ps := ["_law_found", "_law_top", "_law_bottom"]) fun _ _ _ _ _ _ us hl => by obtain ⟨_, _, _, rfl⟩ := us3 hl; rfl
theorem sc_Lnoparts : FnScope ["_law_one", "_law_other", "e"] ["_law_one", "_law_other"] (defScope s_Lnoparts) := ⟨rfl, rfl, rfl, by decide +kernel, rfl, by decide +kernel, by decide +kernel⟩
theorem b_Lnoparts (T : Txt K mg D) : Binds K D.d_Lnoparts ["_law_one", "_law_other"] [] := T.F_Lnoparts.binds (ps := ["_law_one", "_law_other"]) fun _ _ _ _ _ _ us hl => by obtain ⟨_, _, rfl⟩ := us2 hl; rfl
theorem sc_Lasked : FnScope ["_law_one", "_law_other", "_law_a", "_law_b", "_law_c", "_law_d", "_law_less", "_law_some"] ["_law_one", "_law_other"] (defScope s_Lasked) := ⟨rfl, rfl, rfl, by decide +kernel, rfl, by decide +kernel, by decide +kernel⟩
theorem b_Lasked (T : Txt K mg D) : Binds K D.d_Lasked ["_law_one", "_law_other"] [] := T.F_Lasked.binds (ps := ["_law_one", "_law_other"]) fun _ _ _ _ _ _ us hl => by obtain ⟨_, _, rfl⟩ := us2 hl; rfl
theorem sc_law : FnScope ["_law_script", "_law_at", "_law_state", "_law_one", "_law_other"] ["_law_script"] (defScope s_law) := ⟨rfl, rfl, rfl, by decide +kernel, rfl, by decide +kernel, by decide +kernel⟩
theorem b_law (T : Txt K mg D) : Binds K D.d_law ["_law_script"] [] := T.F_law.binds (ps := ["_law_script"]) fun _ _ _ _ _ _ us hl => by obtain ⟨_, rfl⟩ := us1 hl; rfl
end


theorem two {c : Prop} [Decidable c] {A B G : Prop} (g : G) (a : c → G → A) (b : ¬ c → G → B) : if c then A else B := by
  split
  · exact a (by assumption) g
  · exact b (by assumption) g

section
variable {P : Program} {w : World} {K : PySem.W.Frag} {mg : Str → Option Value} {base : Heap} {D : Adr}
theorem ok_commonpart (T : Txt K mg D) : FnOk P w K mg base CX0 1 D.a_commonpart D.d_commonpart ["one", "other"] (Pu.spOf K [.dat, .dat] ps_gcd) := by
  refine T.F_commonpart.ok sc_commonpart (Pu.spOf.len rfl) (fun cdv A outer s H vs Q E hr h => ?_)
  refine ⟨_, (QSs.out (qpss_cons (qps_par (i := 0) (j := 1) rfl sc_commonpart.nd rfl rfl (by decide) rfl rfl (qpa_cons (qpe_callB call_absN (by rfl) T.z_abs (by rfl) (qpa_cons (qpv 0) qpa_nil)) (qpa_cons (qpe_callB call_absN (by rfl) T.z_abs (by rfl) (qpa_cons (qpv 1) qpa_nil)) qpa_nil)) rfl)
      (qpss_cons (qps_while PassesOwn.never (qpt_cmpR (op_neDK (K := K) rfl hr.units) (qpv 1) qpe_int (nomark _))
        (qpss_one (qps_par (i := 0) (j := 1) rfl sc_commonpart.nd rfl rfl (by decide) rfl rfl (qpa_cons (qpv 1) (qpa_cons (qpe_op op_mod (qpv 0) (qpv 1)) qpa_nil)) rfl)))
      (qpss_one (qps_ret (qpv 0)))))), ?_⟩
  refine Pu.enter h ?_
  rintro as Qp ⟨a, b, rfl, k⟩
  (try simp only [pSeq, pNext, pNever, pRet, pRetV_o, oRetV_d, pIf, pAsg, pPar_o, oPar_2, pTest, asB_b, pNot, pOr, pAndV, pIfE, pOp, pI_i, pI0_i, pEqD, pNeD, pIxL_h, pU_i, pUn, pNil, pCons, pTup, pLst, pCB, pAbs_i, pMax_i, pMin_i, pIsi_o, oKit_s, tyD_int, tyD_bool, pVar_o, oVar_d, pVarV_o, oVarV_d, oVarV_o, oVarV_b, pC, pdat, asD_d, asD_o, pCall_h, pNilA, pConsD, pConsV, pConsS, asL_l, isSt_s, qName, qNil_n, qCons_c, pWhile, pIterV_o, oIterV_d, asSeq_dq, pRng1_o, oRng1_i, pFor, List.map_cons, List.map_nil, List.replicate_succ, List.replicate_zero, List.cons_append, List.nil_append, List.getElem?_cons_zero, List.getElem?_cons_succ, List.set_cons_zero, List.set_cons_succ, List.length_cons, List.length_nil, pGet0, pGet1, pIx_dq0, pIx_dq1, lay_int, lay_bool, dep_int, dep_bool, lay_dq, dep_dq, eqv_int, eqv_dq, tyD_dq, decide_eq_true_eq, Bool.not_eq_true', decide_eq_false_iff_not, ite_not, true_and, Nat.zero_le, Int.zero_add, List.length_map, kit_tt, kit_ib, kit_bb, kit_ii, Bool.true_eq_false, Bool.false_eq_true, decide_true, eq_self, eqv_bool, pVarH_o, oVarH_d, pdatH, asH_d, pUnp_o, oUnp_d, qTup_dq, hold_app, pIx2_l, pIx2_q, pLen2_l, pLen2_q, reduceIte, reduceCtorEq, Nat.reduceAdd, Nat.reduceLeDiff, Nat.reduceSub, Bool.not_true, Bool.not_false, decide_false, and_true, Option.map_some, Option.join_some, Option.bind_some])
  refine ⟨fun m e => ∃ x y : Int, e = [some (.d (.int x)), some (.d (.int y))] ∧ 0 ≤ x ∧ 0 ≤ y ∧ m = y.toNat ∧ Int.gcd x y = Int.gcd a b, ⟨_, _, _, rfl, by split <;> omega, by split <;> omega, rfl, gcd_abs a b⟩, ?_⟩
  rintro m e ⟨x, y, rfl, hx, hy, rfl, hg⟩
  (try simp only [pSeq, pNext, pNever, pRet, pRetV_o, oRetV_d, pIf, pAsg, pPar_o, oPar_2, pTest, asB_b, pNot, pOr, pAndV, pIfE, pOp, pI_i, pI0_i, pEqD, pNeD, pIxL_h, pU_i, pUn, pNil, pCons, pTup, pLst, pCB, pAbs_i, pMax_i, pMin_i, pIsi_o, oKit_s, tyD_int, tyD_bool, pVar_o, oVar_d, pVarV_o, oVarV_d, oVarV_o, oVarV_b, pC, pdat, asD_d, asD_o, pCall_h, pNilA, pConsD, pConsV, pConsS, asL_l, isSt_s, qName, qNil_n, qCons_c, pWhile, pIterV_o, oIterV_d, asSeq_dq, pRng1_o, oRng1_i, pFor, List.map_cons, List.map_nil, List.replicate_succ, List.replicate_zero, List.cons_append, List.nil_append, List.getElem?_cons_zero, List.getElem?_cons_succ, List.set_cons_zero, List.set_cons_succ, List.length_cons, List.length_nil, pGet0, pGet1, pIx_dq0, pIx_dq1, lay_int, lay_bool, dep_int, dep_bool, lay_dq, dep_dq, eqv_int, eqv_dq, tyD_dq, decide_eq_true_eq, Bool.not_eq_true', decide_eq_false_iff_not, ite_not, true_and, Nat.zero_le, Int.zero_add, List.length_map, kit_tt, kit_ib, kit_bb, kit_ii, Bool.true_eq_false, Bool.false_eq_true, decide_true, eq_self, eqv_bool, pVarH_o, oVarH_d, pdatH, asH_d, pUnp_o, oUnp_d, qTup_dq, hold_app, pIx2_l, pIx2_q, pLen2_l, pLen2_q, reduceIte, reduceCtorEq, Nat.reduceAdd, Nat.reduceLeDiff, Nat.reduceSub, Bool.not_true, Bool.not_false, decide_false, and_true, Option.map_some, Option.join_some, Option.bind_some])
  refine ite2 (fun e => ?_) (fun hn => ?_)
  · subst e
    have := gcd_zero x hx
    rw [hg] at this
    rw [← this]; exact k
  · have h1 := Int.emod_lt_of_pos x (show 0 < y by omega)
    have h2 := Int.emod_nonneg x hn
    exact ⟨by omega, (x % y).toNat, by omega, y, x % y, rfl, hy, h2, rfl, by rw [gcd_mod, hg]⟩
theorem ok_plus (T : Txt K mg D) : FnOk P w K mg base CX0 2 D.a_plus D.d_plus ["one", "other"] (Pu.spOf K [.dat, .dat] (ps_bin (·+·))) := by
  refine T.F_plus.ok sc_plus (Pu.spOf.len rfl) (fun cdv A outer s H vs Q E hr h => ?_)
  refine ⟨_, (QSs.out (qpss_cons (qps_set (i := 2) sc_plus.nd rfl (Or.inl rfl) (qpe_call (ok_commonpart (K := K) T) (hr.mono (by first | decide | omega)) rfl T.m_commonpart T.F_commonpart.kp (b_commonpart T) .nil pass0 (qpa_cons (qpe_ix (ix_seqK (K := K) rfl) (qpv 0) qpe_int (fun _ _ => rfl)) (qpa_cons (qpe_ix (ix_seqK (K := K) rfl) (qpv 1) qpe_int (fun _ _ => rfl)) qpa_nil))))
      (qpss_cons (qps_par (i := 3) (j := 4) rfl sc_plus.nd rfl rfl (by decide) rfl rfl (qpa_cons (qpe_op op_fdivB (qpe_ix (ix_seqK (K := K) rfl) (qpv 0) qpe_int (fun _ _ => rfl)) (qpv 2)) (qpa_cons (qpe_op op_fdivB (qpe_ix (ix_seqK (K := K) rfl) (qpv 1) qpe_int (fun _ _ => rfl)) (qpv 2)) qpa_nil)) rfl)
      (qpss_cons (qps_set (i := 5) sc_plus.nd rfl (Or.inl rfl) (qpe_op op_add (qpe_op op_mulB (qpe_ix (ix_seqK (K := K) rfl) (qpv 0) qpe_int (fun _ _ => rfl)) (qpv 4)) (qpe_op op_mulB (qpe_ix (ix_seqK (K := K) rfl) (qpv 1) qpe_int (fun _ _ => rfl)) (qpv 3))))
      (qpss_cons (qps_set (i := 6) sc_plus.nd rfl (Or.inl rfl) (qpe_call (ok_commonpart (K := K) T) (hr.mono (by first | decide | omega)) rfl T.m_commonpart T.F_commonpart.kp (b_commonpart T) .nil pass0 (qpa_cons (qpv 5) (qpa_cons (qpv 2) qpa_nil))))
      (qpss_one (qps_ret (qpe_tup (qpa_cons (qpe_op op_fdivB (qpv 5) (qpv 6)) (qpa_cons (qpe_op op_mulB (qpv 3) (qpe_op op_fdivB (qpe_ix (ix_seqK (K := K) rfl) (qpv 1) qpe_int (fun _ _ => rfl)) (qpv 6))) qpa_nil)))))))))), ?_⟩
  refine Pu.enter h ?_
  rintro as Qp ⟨p, q, rfl, sp, sq, k⟩
  (try simp only [pSeq, pNext, pNever, pRet, pRetV_o, oRetV_d, pIf, pAsg, pPar_o, oPar_2, pTest, asB_b, pNot, pOr, pAndV, pIfE, pOp, pI_i, pI0_i, pEqD, pNeD, pIxL_h, pU_i, pUn, pNil, pCons, pTup, pLst, pCB, pAbs_i, pMax_i, pMin_i, pIsi_o, oKit_s, tyD_int, tyD_bool, pVar_o, oVar_d, pVarV_o, oVarV_d, oVarV_o, oVarV_b, pC, pdat, asD_d, asD_o, pCall_h, pNilA, pConsD, pConsV, pConsS, asL_l, isSt_s, qName, qNil_n, qCons_c, pWhile, pIterV_o, oIterV_d, asSeq_dq, pRng1_o, oRng1_i, pFor, List.map_cons, List.map_nil, List.replicate_succ, List.replicate_zero, List.cons_append, List.nil_append, List.getElem?_cons_zero, List.getElem?_cons_succ, List.set_cons_zero, List.set_cons_succ, List.length_cons, List.length_nil, pGet0, pGet1, pIx_dq0, pIx_dq1, lay_int, lay_bool, dep_int, dep_bool, lay_dq, dep_dq, eqv_int, eqv_dq, tyD_dq, decide_eq_true_eq, Bool.not_eq_true', decide_eq_false_iff_not, ite_not, true_and, Nat.zero_le, Int.zero_add, List.length_map, kit_tt, kit_ib, kit_bb, kit_ii, Bool.true_eq_false, Bool.false_eq_true, decide_true, eq_self, eqv_bool, pVarH_o, oVarH_d, pdatH, asH_d, pUnp_o, oUnp_d, qTup_dq, hold_app, pIx2_l, pIx2_q, pLen2_l, pLen2_q, reduceIte, reduceCtorEq, Nat.reduceAdd, Nat.reduceLeDiff, Nat.reduceSub, Bool.not_true, Bool.not_false, decide_false, and_true, Option.map_some, Option.join_some, Option.bind_some])
  refine ⟨_, _, rfl, ?_⟩
  (try simp only [pSeq, pNext, pNever, pRet, pRetV_o, oRetV_d, pIf, pAsg, pPar_o, oPar_2, pTest, asB_b, pNot, pOr, pAndV, pIfE, pOp, pI_i, pI0_i, pEqD, pNeD, pIxL_h, pU_i, pUn, pNil, pCons, pTup, pLst, pCB, pAbs_i, pMax_i, pMin_i, pIsi_o, oKit_s, tyD_int, tyD_bool, pVar_o, oVar_d, pVarV_o, oVarV_d, oVarV_o, oVarV_b, pC, pdat, asD_d, asD_o, pCall_h, pNilA, pConsD, pConsV, pConsS, asL_l, isSt_s, qName, qNil_n, qCons_c, pWhile, pIterV_o, oIterV_d, asSeq_dq, pRng1_o, oRng1_i, pFor, List.map_cons, List.map_nil, List.replicate_succ, List.replicate_zero, List.cons_append, List.nil_append, List.getElem?_cons_zero, List.getElem?_cons_succ, List.set_cons_zero, List.set_cons_succ, List.length_cons, List.length_nil, pGet0, pGet1, pIx_dq0, pIx_dq1, lay_int, lay_bool, dep_int, dep_bool, lay_dq, dep_dq, eqv_int, eqv_dq, tyD_dq, decide_eq_true_eq, Bool.not_eq_true', decide_eq_false_iff_not, ite_not, true_and, Nat.zero_le, Int.zero_add, List.length_map, kit_tt, kit_ib, kit_bb, kit_ii, Bool.true_eq_false, Bool.false_eq_true, decide_true, eq_self, eqv_bool, pVarH_o, oVarH_d, pdatH, asH_d, pUnp_o, oUnp_d, qTup_dq, hold_app, pIx2_l, pIx2_q, pLen2_l, pLen2_q, reduceIte, reduceCtorEq, Nat.reduceAdd, Nat.reduceLeDiff, Nat.reduceSub, Bool.not_true, Bool.not_false, decide_false, and_true, Option.map_some, Option.join_some, Option.bind_some])
  have p2 := sp.2.mono (l := 8000) (by decide)
  have q2 := sq.2.mono (l := 8000) (by decide)
  have g0 := gcd_den_ne (t := (p.den : Int)) q
  have gs := sm_gcd (t := (p.den : Int)) q2 (den0 q)
  have gn : (0 : Int) ≤ ((Int.gcd (p.den : Int) (q.den : Int) : Nat) : Int) := Int.natCast_nonneg _
  refine ⟨⟨g0, gs⟩, ⟨g0, gs⟩, ⟨sp.1.mono (by decide), fd_sm q2 gn⟩, ⟨sq.1.mono (by decide), fd_sm p2 gn⟩, _, _, rfl, ?_⟩
  (try simp only [pSeq, pNext, pNever, pRet, pRetV_o, oRetV_d, pIf, pAsg, pPar_o, oPar_2, pTest, asB_b, pNot, pOr, pAndV, pIfE, pOp, pI_i, pI0_i, pEqD, pNeD, pIxL_h, pU_i, pUn, pNil, pCons, pTup, pLst, pCB, pAbs_i, pMax_i, pMin_i, pIsi_o, oKit_s, tyD_int, tyD_bool, pVar_o, oVar_d, pVarV_o, oVarV_d, oVarV_o, oVarV_b, pC, pdat, asD_d, asD_o, pCall_h, pNilA, pConsD, pConsV, pConsS, asL_l, isSt_s, qName, qNil_n, qCons_c, pWhile, pIterV_o, oIterV_d, asSeq_dq, pRng1_o, oRng1_i, pFor, List.map_cons, List.map_nil, List.replicate_succ, List.replicate_zero, List.cons_append, List.nil_append, List.getElem?_cons_zero, List.getElem?_cons_succ, List.set_cons_zero, List.set_cons_succ, List.length_cons, List.length_nil, pGet0, pGet1, pIx_dq0, pIx_dq1, lay_int, lay_bool, dep_int, dep_bool, lay_dq, dep_dq, eqv_int, eqv_dq, tyD_dq, decide_eq_true_eq, Bool.not_eq_true', decide_eq_false_iff_not, ite_not, true_and, Nat.zero_le, Int.zero_add, List.length_map, kit_tt, kit_ib, kit_bb, kit_ii, Bool.true_eq_false, Bool.false_eq_true, decide_true, eq_self, eqv_bool, pVarH_o, oVarH_d, pdatH, asH_d, pUnp_o, oUnp_d, qTup_dq, hold_app, pIx2_l, pIx2_q, pLen2_l, pLen2_q, reduceIte, reduceCtorEq, Nat.reduceAdd, Nat.reduceLeDiff, Nat.reduceSub, Bool.not_true, Bool.not_false, decide_false, and_true, Option.map_some, Option.join_some, Option.bind_some])
  refine ⟨⟨gcd_ne_r g0, sm_gcd gs g0⟩, ⟨gcd_ne_r g0, sm_gcd gs g0⟩, ⟨fd_sm p2 gn, fd_sm q2 (Int.natCast_nonneg _)⟩, ?_⟩
  obtain ⟨e1, e2⟩ := pl_both p q _ _ rfl rfl
  rw [e1, e2]; exact k
theorem ok_minus (T : Txt K mg D) : FnOk P w K mg base CX0 3 D.a_minus D.d_minus ["one", "other"] (Pu.spOf K [.dat, .dat] (ps_bin (·-·))) := by
  refine T.F_minus.ok sc_minus (Pu.spOf.len rfl) (fun cdv A outer s H vs Q E hr h => ?_)
  refine ⟨_, (QSs.out (qpss_one (qps_ret (qpe_call (ok_plus (K := K) T) (hr.mono (by first | decide | omega)) rfl T.m_plus T.F_plus.kp (b_plus T) .nil pass0 (qpa_cons (qpv 0) (qpa_cons (qpe_tup (qpa_cons (qpe_un un_neg (qpe_ix (ix_seqK (K := K) rfl) (qpv 1) qpe_int (fun _ _ => rfl))) (qpa_cons (qpe_ix (ix_seqK (K := K) rfl) (qpv 1) qpe_int (fun _ _ => rfl)) qpa_nil))) qpa_nil)))))), ?_⟩
  refine Pu.enter h ?_
  rintro as Qp ⟨p, q, rfl, sp, sq, k⟩
  (try simp only [pSeq, pNext, pNever, pRet, pRetV_o, oRetV_d, pIf, pAsg, pPar_o, oPar_2, pTest, asB_b, pNot, pOr, pAndV, pIfE, pOp, pI_i, pI0_i, pEqD, pNeD, pIxL_h, pU_i, pUn, pNil, pCons, pTup, pLst, pCB, pAbs_i, pMax_i, pMin_i, pIsi_o, oKit_s, tyD_int, tyD_bool, pVar_o, oVar_d, pVarV_o, oVarV_d, oVarV_o, oVarV_b, pC, pdat, asD_d, asD_o, pCall_h, pNilA, pConsD, pConsV, pConsS, asL_l, isSt_s, qName, qNil_n, qCons_c, pWhile, pIterV_o, oIterV_d, asSeq_dq, pRng1_o, oRng1_i, pFor, List.map_cons, List.map_nil, List.replicate_succ, List.replicate_zero, List.cons_append, List.nil_append, List.getElem?_cons_zero, List.getElem?_cons_succ, List.set_cons_zero, List.set_cons_succ, List.length_cons, List.length_nil, pGet0, pGet1, pIx_dq0, pIx_dq1, lay_int, lay_bool, dep_int, dep_bool, lay_dq, dep_dq, eqv_int, eqv_dq, tyD_dq, decide_eq_true_eq, Bool.not_eq_true', decide_eq_false_iff_not, ite_not, true_and, Nat.zero_le, Int.zero_add, List.length_map, kit_tt, kit_ib, kit_bb, kit_ii, Bool.true_eq_false, Bool.false_eq_true, decide_true, eq_self, eqv_bool, pVarH_o, oVarH_d, pdatH, asH_d, pUnp_o, oUnp_d, qTup_dq, hold_app, pIx2_l, pIx2_q, pLen2_l, pLen2_q, reduceIte, reduceCtorEq, Nat.reduceAdd, Nat.reduceLeDiff, Nat.reduceSub, Bool.not_true, Bool.not_false, decide_false, and_true, Option.map_some, Option.join_some, Option.bind_some])
  rw [dq_neg]
  refine ⟨_, _, rfl, sp, ⟨by have := sq.1; unfold Sm at *; show (-q.num).natAbs < _; omega, sq.2⟩, ?_⟩
  show Qp (.d (dq (p + -q)))
  rw [← Rat.sub_eq_add_neg]; exact k
theorem ok_product (T : Txt K mg D) : FnOk P w K mg base CX0 2 D.a_product D.d_product ["one", "other"] (Pu.spOf K [.dat, .dat] (ps_bin (·*·))) := by
  refine T.F_product.ok sc_product (Pu.spOf.len rfl) (fun cdv A outer s H vs Q E hr h => ?_)
  refine ⟨_, (QSs.out (qpss_cons (qps_par (i := 2) (j := 3) rfl sc_product.nd rfl rfl (by decide) rfl rfl (qpa_cons (qpe_call (ok_commonpart (K := K) T) (hr.mono (by first | decide | omega)) rfl T.m_commonpart T.F_commonpart.kp (b_commonpart T) .nil pass0 (qpa_cons (qpe_ix (ix_seqK (K := K) rfl) (qpv 0) qpe_int (fun _ _ => rfl)) (qpa_cons (qpe_ix (ix_seqK (K := K) rfl) (qpv 1) qpe_int (fun _ _ => rfl)) qpa_nil))) (qpa_cons (qpe_call (ok_commonpart (K := K) T) (hr.mono (by first | decide | omega)) rfl T.m_commonpart T.F_commonpart.kp (b_commonpart T) .nil pass0 (qpa_cons (qpe_ix (ix_seqK (K := K) rfl) (qpv 1) qpe_int (fun _ _ => rfl)) (qpa_cons (qpe_ix (ix_seqK (K := K) rfl) (qpv 0) qpe_int (fun _ _ => rfl)) qpa_nil))) qpa_nil)) rfl)
      (qpss_one (qps_ret (qpe_tup (qpa_cons (qpe_op op_mulB (qpe_op op_fdivB (qpe_ix (ix_seqK (K := K) rfl) (qpv 0) qpe_int (fun _ _ => rfl)) (qpv 2)) (qpe_op op_fdivB (qpe_ix (ix_seqK (K := K) rfl) (qpv 1) qpe_int (fun _ _ => rfl)) (qpv 3))) (qpa_cons (qpe_op op_mulB (qpe_op op_fdivB (qpe_ix (ix_seqK (K := K) rfl) (qpv 0) qpe_int (fun _ _ => rfl)) (qpv 3)) (qpe_op op_fdivB (qpe_ix (ix_seqK (K := K) rfl) (qpv 1) qpe_int (fun _ _ => rfl)) (qpv 2))) qpa_nil))))))), ?_⟩
  refine Pu.enter h ?_
  rintro as Qp ⟨p, q, rfl, sp, sq, k⟩
  (try simp only [pSeq, pNext, pNever, pRet, pRetV_o, oRetV_d, pIf, pAsg, pPar_o, oPar_2, pTest, asB_b, pNot, pOr, pAndV, pIfE, pOp, pI_i, pI0_i, pEqD, pNeD, pIxL_h, pU_i, pUn, pNil, pCons, pTup, pLst, pCB, pAbs_i, pMax_i, pMin_i, pIsi_o, oKit_s, tyD_int, tyD_bool, pVar_o, oVar_d, pVarV_o, oVarV_d, oVarV_o, oVarV_b, pC, pdat, asD_d, asD_o, pCall_h, pNilA, pConsD, pConsV, pConsS, asL_l, isSt_s, qName, qNil_n, qCons_c, pWhile, pIterV_o, oIterV_d, asSeq_dq, pRng1_o, oRng1_i, pFor, List.map_cons, List.map_nil, List.replicate_succ, List.replicate_zero, List.cons_append, List.nil_append, List.getElem?_cons_zero, List.getElem?_cons_succ, List.set_cons_zero, List.set_cons_succ, List.length_cons, List.length_nil, pGet0, pGet1, pIx_dq0, pIx_dq1, lay_int, lay_bool, dep_int, dep_bool, lay_dq, dep_dq, eqv_int, eqv_dq, tyD_dq, decide_eq_true_eq, Bool.not_eq_true', decide_eq_false_iff_not, ite_not, true_and, Nat.zero_le, Int.zero_add, List.length_map, kit_tt, kit_ib, kit_bb, kit_ii, Bool.true_eq_false, Bool.false_eq_true, decide_true, eq_self, eqv_bool, pVarH_o, oVarH_d, pdatH, asH_d, pUnp_o, oUnp_d, qTup_dq, hold_app, pIx2_l, pIx2_q, pLen2_l, pLen2_q, reduceIte, reduceCtorEq, Nat.reduceAdd, Nat.reduceLeDiff, Nat.reduceSub, Bool.not_true, Bool.not_false, decide_false, and_true, Option.map_some, Option.join_some, Option.bind_some])
  refine ⟨_, _, rfl, ?_⟩
  (try simp only [pSeq, pNext, pNever, pRet, pRetV_o, oRetV_d, pIf, pAsg, pPar_o, oPar_2, pTest, asB_b, pNot, pOr, pAndV, pIfE, pOp, pI_i, pI0_i, pEqD, pNeD, pIxL_h, pU_i, pUn, pNil, pCons, pTup, pLst, pCB, pAbs_i, pMax_i, pMin_i, pIsi_o, oKit_s, tyD_int, tyD_bool, pVar_o, oVar_d, pVarV_o, oVarV_d, oVarV_o, oVarV_b, pC, pdat, asD_d, asD_o, pCall_h, pNilA, pConsD, pConsV, pConsS, asL_l, isSt_s, qName, qNil_n, qCons_c, pWhile, pIterV_o, oIterV_d, asSeq_dq, pRng1_o, oRng1_i, pFor, List.map_cons, List.map_nil, List.replicate_succ, List.replicate_zero, List.cons_append, List.nil_append, List.getElem?_cons_zero, List.getElem?_cons_succ, List.set_cons_zero, List.set_cons_succ, List.length_cons, List.length_nil, pGet0, pGet1, pIx_dq0, pIx_dq1, lay_int, lay_bool, dep_int, dep_bool, lay_dq, dep_dq, eqv_int, eqv_dq, tyD_dq, decide_eq_true_eq, Bool.not_eq_true', decide_eq_false_iff_not, ite_not, true_and, Nat.zero_le, Int.zero_add, List.length_map, kit_tt, kit_ib, kit_bb, kit_ii, Bool.true_eq_false, Bool.false_eq_true, decide_true, eq_self, eqv_bool, pVarH_o, oVarH_d, pdatH, asH_d, pUnp_o, oUnp_d, qTup_dq, hold_app, pIx2_l, pIx2_q, pLen2_l, pLen2_q, reduceIte, reduceCtorEq, Nat.reduceAdd, Nat.reduceLeDiff, Nat.reduceSub, Bool.not_true, Bool.not_false, decide_false, and_true, Option.map_some, Option.join_some, Option.bind_some])
  refine ⟨_, _, rfl, ?_⟩
  (try simp only [pSeq, pNext, pNever, pRet, pRetV_o, oRetV_d, pIf, pAsg, pPar_o, oPar_2, pTest, asB_b, pNot, pOr, pAndV, pIfE, pOp, pI_i, pI0_i, pEqD, pNeD, pIxL_h, pU_i, pUn, pNil, pCons, pTup, pLst, pCB, pAbs_i, pMax_i, pMin_i, pIsi_o, oKit_s, tyD_int, tyD_bool, pVar_o, oVar_d, pVarV_o, oVarV_d, oVarV_o, oVarV_b, pC, pdat, asD_d, asD_o, pCall_h, pNilA, pConsD, pConsV, pConsS, asL_l, isSt_s, qName, qNil_n, qCons_c, pWhile, pIterV_o, oIterV_d, asSeq_dq, pRng1_o, oRng1_i, pFor, List.map_cons, List.map_nil, List.replicate_succ, List.replicate_zero, List.cons_append, List.nil_append, List.getElem?_cons_zero, List.getElem?_cons_succ, List.set_cons_zero, List.set_cons_succ, List.length_cons, List.length_nil, pGet0, pGet1, pIx_dq0, pIx_dq1, lay_int, lay_bool, dep_int, dep_bool, lay_dq, dep_dq, eqv_int, eqv_dq, tyD_dq, decide_eq_true_eq, Bool.not_eq_true', decide_eq_false_iff_not, ite_not, true_and, Nat.zero_le, Int.zero_add, List.length_map, kit_tt, kit_ib, kit_bb, kit_ii, Bool.true_eq_false, Bool.false_eq_true, decide_true, eq_self, eqv_bool, pVarH_o, oVarH_d, pdatH, asH_d, pUnp_o, oUnp_d, qTup_dq, hold_app, pIx2_l, pIx2_q, pLen2_l, pLen2_q, reduceIte, reduceCtorEq, Nat.reduceAdd, Nat.reduceLeDiff, Nat.reduceSub, Bool.not_true, Bool.not_false, decide_false, and_true, Option.map_some, Option.join_some, Option.bind_some])
  have p1 := sp.1.mono (l := 8000) (by decide)
  have q1 := sq.1.mono (l := 8000) (by decide)
  have p2 := sp.2.mono (l := 8000) (by decide)
  have q2 := sq.2.mono (l := 8000) (by decide)
  have g0 := gcd_den_ne (t := p.num) q
  have gs := sm_gcd (t := p.num) q2 (den0 q)
  have h0 := gcd_den_ne (t := q.num) p
  have hs := sm_gcd (t := q.num) p2 (den0 p)
  refine ⟨⟨g0, gs⟩, ⟨h0, hs⟩, ⟨fd_sm p1 (Int.natCast_nonneg _), fd_sm q1 (Int.natCast_nonneg _)⟩, ⟨h0, hs⟩, ⟨g0, gs⟩, ⟨fd_sm p2 (Int.natCast_nonneg _), fd_sm q2 (Int.natCast_nonneg _)⟩, ?_⟩
  rw [mu_num, mu_den]; exact k
theorem ok_parted (T : Txt K mg D) : FnOk P w K mg base CX0 3 D.a_parted D.d_parted ["one", "other"] (Pu.spOf K [.dat, .dat] ps_parted) := by
  refine T.F_parted.ok sc_parted (Pu.spOf.len rfl) (fun cdv A outer s H vs Q E hr h => ?_)
  refine ⟨_, (QSs.out (qpss_cons (qps_asg (qpv 1) (qpg_tupK (K := K) (n := 2) rfl rfl (qpgs_cons (qpg_name (i := 2) sc_parted.nd rfl (Or.inl rfl) (Or.inl rfl)) (qpgs_cons (qpg_name (i := 3) sc_parted.nd rfl (Or.inl rfl) (Or.inl rfl)) qpgs_nil)) rfl rfl))
      (qpss_cons (qps_if (qpt_cmpR (op_eqDK (K := K) rfl hr.units) (qpv 2) qpe_int (nomark _))
        (qpss_one qps_never)
        qpss_nil)
      (qpss_one (qps_ret (qpe_call (ok_product (K := K) T) (hr.mono (by first | decide | omega)) rfl T.m_product T.F_product.kp (b_product T) .nil pass0 (qpa_cons (qpv 0) (qpa_cons (qpe_ifExp (qpt_cmpR op_gt (qpv 2) qpe_int (nomark _)) (qpe_tup (qpa_cons (qpv 3) (qpa_cons (qpv 2) qpa_nil))) (qpe_tup (qpa_cons (qpe_un un_neg (qpv 3)) (qpa_cons (qpe_un un_neg (qpv 2)) qpa_nil)))) qpa_nil)))))))), ?_⟩
  refine Pu.enter h ?_
  rintro as Qp ⟨p, q, rfl, sp, sq, hq, k⟩
  (try simp only [pSeq, pNext, pNever, pRet, pRetV_o, oRetV_d, pIf, pAsg, pPar_o, oPar_2, pTest, asB_b, pNot, pOr, pAndV, pIfE, pOp, pI_i, pI0_i, pEqD, pNeD, pIxL_h, pU_i, pUn, pNil, pCons, pTup, pLst, pCB, pAbs_i, pMax_i, pMin_i, pIsi_o, oKit_s, tyD_int, tyD_bool, pVar_o, oVar_d, pVarV_o, oVarV_d, oVarV_o, oVarV_b, pC, pdat, asD_d, asD_o, pCall_h, pNilA, pConsD, pConsV, pConsS, asL_l, isSt_s, qName, qNil_n, qCons_c, pWhile, pIterV_o, oIterV_d, asSeq_dq, pRng1_o, oRng1_i, pFor, List.map_cons, List.map_nil, List.replicate_succ, List.replicate_zero, List.cons_append, List.nil_append, List.getElem?_cons_zero, List.getElem?_cons_succ, List.set_cons_zero, List.set_cons_succ, List.length_cons, List.length_nil, pGet0, pGet1, pIx_dq0, pIx_dq1, lay_int, lay_bool, dep_int, dep_bool, lay_dq, dep_dq, eqv_int, eqv_dq, tyD_dq, decide_eq_true_eq, Bool.not_eq_true', decide_eq_false_iff_not, ite_not, true_and, Nat.zero_le, Int.zero_add, List.length_map, kit_tt, kit_ib, kit_bb, kit_ii, Bool.true_eq_false, Bool.false_eq_true, decide_true, eq_self, eqv_bool, pVarH_o, oVarH_d, pdatH, asH_d, pUnp_o, oUnp_d, qTup_dq, hold_app, pIx2_l, pIx2_q, pLen2_l, pLen2_q, reduceIte, reduceCtorEq, Nat.reduceAdd, Nat.reduceLeDiff, Nat.reduceSub, Bool.not_true, Bool.not_false, decide_false, and_true, Option.map_some, Option.join_some, Option.bind_some])
  rw [if_neg (num_ne hq)]
  have e := inv_num hq
  have kk : Qp (.d (dq (p * q⁻¹))) := by rw [← Rat.div_def]; exact k
  refine ite2 (fun h => ?_) (fun h => ?_)
  · rw [if_pos h, if_pos h] at e
    (try simp only [pSeq, pNext, pNever, pRet, pRetV_o, oRetV_d, pIf, pAsg, pPar_o, oPar_2, pTest, asB_b, pNot, pOr, pAndV, pIfE, pOp, pI_i, pI0_i, pEqD, pNeD, pIxL_h, pU_i, pUn, pNil, pCons, pTup, pLst, pCB, pAbs_i, pMax_i, pMin_i, pIsi_o, oKit_s, tyD_int, tyD_bool, pVar_o, oVar_d, pVarV_o, oVarV_d, oVarV_o, oVarV_b, pC, pdat, asD_d, asD_o, pCall_h, pNilA, pConsD, pConsV, pConsS, asL_l, isSt_s, qName, qNil_n, qCons_c, pWhile, pIterV_o, oIterV_d, asSeq_dq, pRng1_o, oRng1_i, pFor, List.map_cons, List.map_nil, List.replicate_succ, List.replicate_zero, List.cons_append, List.nil_append, List.getElem?_cons_zero, List.getElem?_cons_succ, List.set_cons_zero, List.set_cons_succ, List.length_cons, List.length_nil, pGet0, pGet1, pIx_dq0, pIx_dq1, lay_int, lay_bool, dep_int, dep_bool, lay_dq, dep_dq, eqv_int, eqv_dq, tyD_dq, decide_eq_true_eq, Bool.not_eq_true', decide_eq_false_iff_not, ite_not, true_and, Nat.zero_le, Int.zero_add, List.length_map, kit_tt, kit_ib, kit_bb, kit_ii, Bool.true_eq_false, Bool.false_eq_true, decide_true, eq_self, eqv_bool, pVarH_o, oVarH_d, pdatH, asH_d, pUnp_o, oUnp_d, qTup_dq, hold_app, pIx2_l, pIx2_q, pLen2_l, pLen2_q, reduceIte, reduceCtorEq, Nat.reduceAdd, Nat.reduceLeDiff, Nat.reduceSub, Bool.not_true, Bool.not_false, decide_false, and_true, Option.map_some, Option.join_some, Option.bind_some])
    rw [← e]
    exact ⟨_, _, rfl, sp, inv_sm sq hq, kk⟩
  · rw [if_neg h, if_neg h] at e
    (try simp only [pSeq, pNext, pNever, pRet, pRetV_o, oRetV_d, pIf, pAsg, pPar_o, oPar_2, pTest, asB_b, pNot, pOr, pAndV, pIfE, pOp, pI_i, pI0_i, pEqD, pNeD, pIxL_h, pU_i, pUn, pNil, pCons, pTup, pLst, pCB, pAbs_i, pMax_i, pMin_i, pIsi_o, oKit_s, tyD_int, tyD_bool, pVar_o, oVar_d, pVarV_o, oVarV_d, oVarV_o, oVarV_b, pC, pdat, asD_d, asD_o, pCall_h, pNilA, pConsD, pConsV, pConsS, asL_l, isSt_s, qName, qNil_n, qCons_c, pWhile, pIterV_o, oIterV_d, asSeq_dq, pRng1_o, oRng1_i, pFor, List.map_cons, List.map_nil, List.replicate_succ, List.replicate_zero, List.cons_append, List.nil_append, List.getElem?_cons_zero, List.getElem?_cons_succ, List.set_cons_zero, List.set_cons_succ, List.length_cons, List.length_nil, pGet0, pGet1, pIx_dq0, pIx_dq1, lay_int, lay_bool, dep_int, dep_bool, lay_dq, dep_dq, eqv_int, eqv_dq, tyD_dq, decide_eq_true_eq, Bool.not_eq_true', decide_eq_false_iff_not, ite_not, true_and, Nat.zero_le, Int.zero_add, List.length_map, kit_tt, kit_ib, kit_bb, kit_ii, Bool.true_eq_false, Bool.false_eq_true, decide_true, eq_self, eqv_bool, pVarH_o, oVarH_d, pdatH, asH_d, pUnp_o, oUnp_d, qTup_dq, hold_app, pIx2_l, pIx2_q, pLen2_l, pLen2_q, reduceIte, reduceCtorEq, Nat.reduceAdd, Nat.reduceLeDiff, Nat.reduceSub, Bool.not_true, Bool.not_false, decide_false, and_true, Option.map_some, Option.join_some, Option.bind_some])
    rw [← e]
    exact ⟨_, _, rfl, sp, inv_sm sq hq, kk⟩
theorem ok_isless (T : Txt K mg D) : FnOk P w K mg base CX0 1 D.a_isless D.d_isless ["one", "other"] (Pu.spOf K [.dat, .dat] ps_less) := by
  refine T.F_isless.ok sc_isless (Pu.spOf.len rfl) (fun cdv A outer s H vs Q E hr h => ?_)
  refine ⟨_, (QSs.out (qpss_one (qps_ret (qpe_cmpR op_lt (qpe_op op_mulB (qpe_ix (ix_seqK (K := K) rfl) (qpv 0) qpe_int (fun _ _ => rfl)) (qpe_ix (ix_seqK (K := K) rfl) (qpv 1) qpe_int (fun _ _ => rfl))) (qpe_op op_mulB (qpe_ix (ix_seqK (K := K) rfl) (qpv 1) qpe_int (fun _ _ => rfl)) (qpe_ix (ix_seqK (K := K) rfl) (qpv 0) qpe_int (fun _ _ => rfl))) (nomark _))))), ?_⟩
  refine Pu.enter h ?_
  rintro as Qp ⟨p, q, rfl, sp, sq, k⟩
  (try simp only [pSeq, pNext, pNever, pRet, pRetV_o, oRetV_d, pIf, pAsg, pPar_o, oPar_2, pTest, asB_b, pNot, pOr, pAndV, pIfE, pOp, pI_i, pI0_i, pEqD, pNeD, pIxL_h, pU_i, pUn, pNil, pCons, pTup, pLst, pCB, pAbs_i, pMax_i, pMin_i, pIsi_o, oKit_s, tyD_int, tyD_bool, pVar_o, oVar_d, pVarV_o, oVarV_d, oVarV_o, oVarV_b, pC, pdat, asD_d, asD_o, pCall_h, pNilA, pConsD, pConsV, pConsS, asL_l, isSt_s, qName, qNil_n, qCons_c, pWhile, pIterV_o, oIterV_d, asSeq_dq, pRng1_o, oRng1_i, pFor, List.map_cons, List.map_nil, List.replicate_succ, List.replicate_zero, List.cons_append, List.nil_append, List.getElem?_cons_zero, List.getElem?_cons_succ, List.set_cons_zero, List.set_cons_succ, List.length_cons, List.length_nil, pGet0, pGet1, pIx_dq0, pIx_dq1, lay_int, lay_bool, dep_int, dep_bool, lay_dq, dep_dq, eqv_int, eqv_dq, tyD_dq, decide_eq_true_eq, Bool.not_eq_true', decide_eq_false_iff_not, ite_not, true_and, Nat.zero_le, Int.zero_add, List.length_map, kit_tt, kit_ib, kit_bb, kit_ii, Bool.true_eq_false, Bool.false_eq_true, decide_true, eq_self, eqv_bool, pVarH_o, oVarH_d, pdatH, asH_d, pUnp_o, oUnp_d, qTup_dq, hold_app, pIx2_l, pIx2_q, pLen2_l, pLen2_q, reduceIte, reduceCtorEq, Nat.reduceAdd, Nat.reduceLeDiff, Nat.reduceSub, Bool.not_true, Bool.not_false, decide_false, and_true, Option.map_some, Option.join_some, Option.bind_some])
  have p1 := sp.1.mono (l := 8000) (by decide)
  have p2 := sp.2.mono (l := 8000) (by decide)
  have q1 := sq.1.mono (l := 8000) (by decide)
  have q2 := sq.2.mono (l := 8000) (by decide)
  refine ⟨⟨p1, q2⟩, ⟨q1, p2⟩, ?_⟩
  rw [less_iff]; exact k
theorem ok_Lbegun0 (T : Txt K mg D) : FnOk P w K mg base CX0 1 D.a_Lbegun D.d_Lbegun ["_law_script", "_law_k"] (sp_begun K) := by
  refine T.F_Lbegun.ok sc_Lbegun (fun vs H Q E h => ?_) (fun cdv A outer s H vs Q E hr h => ?_)
  · obtain ⟨a, ns, k, rfl, _⟩ := h; rfl
  · obtain ⟨a, ns, k, rfl, ha, k0, k1, kk⟩ := h
    refine ⟨_, (pss_cons (ps_set (i := 2) sc_Lbegun.nd rfl (Or.inl rfl) pe_int)
      (pss_cons (ps_if (pt_cmpR op_lt (pv 1) (pe_callB call_len_seq (by rfl) T.z_len PySem.boot_len (pa_cons (pv 0) pa_nil)) (nomark _))
        (pss_one (ps_set (i := 2) sc_Lbegun.nd rfl (Or.inl rfl) (pe_ix ix_list (pv 0) (pv 1) (fun _ _ => rfl))))
        pss_nil)
      (pss_one (ps_ret (pe_lst (pa_cons (pv 2) (pa_cons (pe_op op_mod (pe_op op_add (pe_op op_add (pe_op op_mod (pv 2) pe_int) (pe_op op_mulB (pe_op op_mulB pe_int (pv 1)) (pv 1))) pe_int) pe_int) (pa_cons (pe_cmpR op_ge (pv 2) (pe_op op_pow pe_int pe_int) (nomark _)) pa_nil)))))))), ?_⟩
    have fin : ∀ c : Int, ∃ v, ([some (V.ref a), some (V.int k), some (V.int c)] : St)[2]? = some (some v) ∧
        (tCons (tOp (rI (fun _ j => 0 < j) fun i j => .int (i % j)) (tOp (rI0 fun i j => .int (i + j)) (tOp (rI0 fun i j => .int (i + j)) (tOp (rI (fun _ j => 0 < j) fun i j => .int (i % j)) (tVar 2) (tC (.int 2147483587)))
          (tOp (rI CMulB fun i j => .int (i * j)) (tOp (rI CMulB fun i j => .int (i * j)) (tC (.int 104729)) (tVar 1)) (tVar 1))) (tC (.int 7))) (tC (.int 2147483587)))
          (tCons (tOp (rI0 fun i j => .bl (decide (j ≤ i))) (tVar 2) (tOp (rI CPow fun i j => .int (i ^ j.toNat)) (tC (.int 10)) (tC (.int 18)))) tNil)) [some (V.ref a), some (V.int k), some (V.int c)] H
          fun xs H1 => (v :: xs).length ≤ sizeLine ∧ ∀ p, H1 p = none → Q (.ref p) (upd H1 p (.lst (v :: xs))) := by
      intro c
      refine ⟨_, rfl, _, rfl, _, _, rfl, rfl, (by show (0 : Int) < 2147483587; decide), _, rfl, _, _, rfl, rfl, ⟨sm_lit 0, sm_small k0 k1⟩, _, rfl, _, _, rfl, rfl, ⟨(Sm.mul (k := 20) (l := 20) (by unfold Sm; decide) (sm_s20 k0 k1)).mono (by decide), sm_small k0 k1⟩,
        _, _, rfl, rfl, _, _, rfl, rfl, _, _, rfl, rfl, (by show (0 : Int) < 2147483587; decide), _, rfl, _, _, rfl, rfl, cpow10 18, _, _, rfl, rfl, by show 3 ≤ sizeLine; decide, fun p hp => ?_⟩
      have e1 := Int.emod_nonneg (c % 2147483587 + 104729 * k * k + 7) (show (2147483587 : Int) ≠ 0 by decide)
      have e2 := Int.emod_lt_of_pos (c % 2147483587 + 104729 * k * k + 7) (show (0 : Int) < 2147483587 by decide)
      exact kk p _ hp ⟨_, _, _, upd_same, e1, by omega⟩ (Same.upd hp).kp
    refine ⟨_, rfl, _, rfl, a, _, rfl, .inl ha, _, _, rfl, rfl, _, rfl, ?_⟩
    refine ifD (fun hn => ?_) (fun hn => ?_)
    · have hk : (ns.map V.int)[k.toNat]? = some (V.int (ns.getD k.toNat 0)) := by
        have hlt : k.toNat < ns.length := by rw [List.length_map] at hn; omega
        rw [List.getElem?_map, List.getElem?_eq_getElem hlt, List.getD_eq_getElem?_getD, List.getElem?_eq_getElem hlt]; rfl
      have hk' : atI (ns.map V.int) k = some (V.int (ns.getD k.toNat 0)) := by
        have := atI_nat hk
        rwa [show ((k.toNat : Nat) : Int) = k by omega] at this
      refine ⟨_, rfl, _, rfl, a, _, k, _, rfl, rfl, ha, hk', ?_⟩
      exact fin _
    · exact fin 0
theorem ok_Lbegun (T : Txt K mg D) : FnOk P w K mg base CX0 1 D.a_Lbegun D.d_Lbegun ["_law_script", "_law_k"] (Pu.spOf K [.vw, .dat] Pu.ps_begun) := FnOk.imp (ok_Lbegun0 T) Pu.begun_in
theorem ok_Ltake0 (T : Txt K mg D) : FnOk P w K mg base CX0 1 D.a_Ltake D.d_Ltake ["_law_state", "_law_many"] sp_take := by
  refine T.F_Ltake.ok sc_Ltake (fun vs H Q E h => ?_) (fun cdv A outer s H vs Q E hr h => ?_)
  · obtain ⟨p, n, rfl, _⟩ := h; rfl
  · obtain ⟨p, n, rfl, S0, n0, sn, k⟩ := h
    refine ⟨_, (pss_cons (ps_if (pt_val (pe_ix ix_list (pv 0) pe_int (fun _ _ => rfl)))
        (pss_cons (ps_set (i := 2) sc_Ltake.nd rfl (Or.inl rfl) (pe_op op_mod (pe_ix ix_list (pv 0) pe_int (fun _ _ => rfl)) (pv 1)))
        (pss_cons (ps_asg (pe_op op_fdivB (pe_ix ix_list (pv 0) pe_int (fun _ _ => rfl)) (pv 1)) (pg_sub (pv 0) pe_int set_list))
        (pss_cons (ps_asg (pe_cmpR op_gt (pe_ix ix_list (pv 0) pe_int (fun _ _ => rfl)) pe_int (nomark _)) (pg_sub (pv 0) pe_int set_list))
        (pss_one (ps_ret (pv 2))))))
        pss_nil)
      (pss_cons (ps_set (i := 3) sc_Ltake.nd rfl (Or.inl rfl) pe_int)
      (pss_cons (ps_for PassesOwn.never rfl (pi_range1 rfl T.z_range (pa_cons (pe_op op_add pe_int (pe_op op_mulB pe_int (pe_callTy call_int1 (by rfl) T.z_int (by rfl) (pa_cons (pe_cmpR op_gt (pv 1) (pe_op op_pow pe_int pe_int) (nomark _)) pa_nil)))) pa_nil)) (pg_name (i := 4) sc_Ltake.nd rfl (Or.inl rfl) (Or.inl rfl))
        (pss_cons (ps_asg (pe_op op_mod (pe_op op_add (pe_op op_mulB (pe_ix ix_list (pv 0) pe_int (fun _ _ => rfl)) pe_int) pe_int) pe_int) (pg_sub (pv 0) pe_int set_list))
        (pss_one (ps_set (i := 3) sc_Ltake.nd rfl (Or.inl rfl) (pe_op op_add (pe_op op_mulB (pv 3) pe_int) (pe_op op_mod (pe_op op_mulB (pe_ix ix_list (pv 0) pe_int (fun _ _ => rfl)) (pe_ix ix_list (pv 0) pe_int (fun _ _ => rfl))) pe_int))))))
      (pss_one (ps_ret (pe_op op_mod (pe_op op_fdivB (pv 3) pe_int) (pv 1))))))), ?_⟩
    obtain ⟨c, m, f, hp, m0, m1⟩ := S0.ex
    refine ⟨_, rfl, p, _, _, _, rfl, rfl, SqL.of hp, at2, f, rfl, ?_⟩
    have s8 : Sm 8000 n := sn.mono (by decide)
    cases f with
    | true =>
      refine iteT ?_
      refine ⟨_, rfl, p, _, _, _, rfl, rfl, SqL.of hp, at0, _, rfl, _, _, rfl, rfl, n0, ?_⟩
      refine ⟨_, rfl, p, _, _, _, rfl, rfl, SqL.of hp, at0, _, rfl, _, _, rfl, rfl, ⟨by omega, s8⟩, _, rfl, p, _, _, 0, rfl, rfl, hp, rfl, ?_⟩
      refine ⟨_, rfl, p, _, _, _, rfl, rfl, SqL.of upd_same, at0, _, _, rfl, rfl, _, rfl, p, _, _, 2, rfl, rfl, upd_same, rfl, ?_⟩
      refine ⟨_, rfl, ?_⟩
      exact k _ _ (Int.emod_nonneg c (by omega)) (Int.emod_lt_of_pos c n0) ⟨_, _, _, upd_same, m0, m1⟩ (Kp.upd.trans Kp.upd)
    | false =>
      refine iteF ?_
      refine ⟨_, rfl, _, _, rfl, rfl, cpow10 6, _, _, rfl, rfl, .inr ⟨_, rfl, _, _, rfl, rfl, ⟨sm_lit 0, sm_bit _⟩, _, _, rfl, rfl, _, rfl, ?_, ?_, for_range (lo := 0)
        (fun i σ H' => ∃ (m' md : Int) (x : Option V), σ = [some (V.ref p), some (V.int n), none, some (V.int md), x] ∧ H' p = some (.lst [.int c, .int m', .bl false]) ∧ 0 ≤ m' ∧ m' < 2147483648 ∧ Kp p H H' ∧ Sm (40 * i + 1) md)
        ⟨m, 0, none, rfl, hp, m0, m1, Kp.refl, by unfold Sm; decide⟩ ?_ ?_⟩⟩
      · split <;> omega
      · split <;> omega
      · rintro i σ H' hi ⟨m', md, x, rfl, hp', h0, h1, kk, sd⟩
        have hi9 : i < 9 := by
          refine Nat.lt_of_lt_of_le hi ?_
          split <;> decide
        refine ⟨_, rfl, p, _, _, _, rfl, rfl, SqL.of hp', at1, _, _, rfl, rfl, ⟨sm32 h0 h1, sm_lit 0⟩, _, _, rfl, rfl, _, _, rfl, rfl, (by show (0 : Int) < 2147483647; decide), _, rfl, p, _, _, 1, rfl, rfl, hp', rfl, ?_⟩
        have e1 := Int.emod_nonneg (m' * 39373 + 17) (show (2147483647 : Int) ≠ 0 by decide)
        have e2 := Int.emod_lt_of_pos (m' * 39373 + 17) (show (0 : Int) < 2147483647 by decide)
        have sm := sm32 e1 (by omega)
        refine ⟨_, rfl, _, _, rfl, rfl, ⟨sd.mono (by omega), sm_lit 0⟩, _, rfl, p, _, _, _, rfl, rfl, SqL.of upd_same, at1, _, rfl, p, _, _, _, rfl, rfl, SqL.of upd_same, at1, _, _, rfl, rfl, ⟨sm, sm⟩, _, _, rfl, rfl, (by show (0 : Int) < 2147483587; decide), _, _, rfl, rfl, ?_⟩
        have g1 := Int.emod_nonneg ((m' * 39373 + 17) % 2147483647 * ((m' * 39373 + 17) % 2147483647)) (show (2147483587 : Int) ≠ 0 by decide)
        have g2 := Int.emod_lt_of_pos ((m' * 39373 + 17) % 2147483647 * ((m' * 39373 + 17) % 2147483647)) (show (0 : Int) < 2147483587 by decide)
        refine ⟨_, _, _, rfl, upd_same, e1, by omega, kk.trans Kp.upd, ?_⟩
        refine Sm.mono (k := 40 * i + 1 + 32 + 1) (Sm.add (sd.mul (l := 32) (by unfold Sm; decide)) ?_) (by omega)
        exact Sm.mono (k := 32) (by unfold Sm; omega) (by omega)
      · rintro σ H' ⟨m', md, x, rfl, hp', h0, h1, kk, sd⟩
        refine ⟨_, rfl, _, _, rfl, rfl, ⟨by decide, sm_lit 0⟩, _, rfl, _, _, rfl, rfl, n0, ?_⟩
        exact k _ _ (Int.emod_nonneg _ (by omega)) (Int.emod_lt_of_pos _ n0) ⟨_, _, _, hp', h0, h1⟩ kk
theorem ok_Ltake (T : Txt K mg D) : FnOk P w K mg base CX0 1 D.a_Ltake D.d_Ltake ["_law_state", "_law_many"] (Pu.spOf K [.st, .dat] Pu.ps_take) := FnOk.imp (ok_Ltake0 T) Pu.take_in
theorem ok_Llow (T : Txt K mg D) : FnOk P w K mg base CX0 1 D.a_Llow D.d_Llow ["_law_top", "_law_bottom"] (Pu.spOf K [.dat, .dat] ps_lowP) := by
  refine T.F_Llow.ok sc_Llow (Pu.spOf.len rfl) (fun cdv A outer s H vs Q E hr h => ?_)
  refine ⟨_, (QSs.out (qpss_cons (qps_set (i := 2) sc_Llow.nd rfl (Or.inl rfl) (qpv 0))
      (qpss_cons (qps_set (i := 3) sc_Llow.nd rfl (Or.inl rfl) (qpv 1))
      (qpss_cons (qps_while PassesOwn.never (qpt_cmpR (op_neDK (K := K) rfl hr.units) (qpv 3) qpe_int (nomark _))
        (qpss_one (qps_par (i := 2) (j := 3) rfl sc_Llow.nd rfl rfl (by decide) rfl rfl (qpa_cons (qpv 3) (qpa_cons (qpe_op op_mod (qpv 2) (qpv 3)) qpa_nil)) rfl)))
      (qpss_one (qps_ret (qpe_tup (qpa_cons (qpe_op op_fdivB (qpv 0) (qpv 2)) (qpa_cons (qpe_op op_fdivB (qpv 1) (qpv 2)) qpa_nil))))))))), ?_⟩
  refine Pu.enter h ?_
  rintro as Qp ⟨t, b, rfl, hb, st, sb, k⟩
  (try simp only [pSeq, pNext, pNever, pRet, pRetV_o, oRetV_d, pIf, pAsg, pPar_o, oPar_2, pTest, asB_b, pNot, pOr, pAndV, pIfE, pOp, pI_i, pI0_i, pEqD, pNeD, pIxL_h, pU_i, pUn, pNil, pCons, pTup, pLst, pCB, pAbs_i, pMax_i, pMin_i, pIsi_o, oKit_s, tyD_int, tyD_bool, pVar_o, oVar_d, pVarV_o, oVarV_d, oVarV_o, oVarV_b, pC, pdat, asD_d, asD_o, pCall_h, pNilA, pConsD, pConsV, pConsS, asL_l, isSt_s, qName, qNil_n, qCons_c, pWhile, pIterV_o, oIterV_d, asSeq_dq, pRng1_o, oRng1_i, pFor, List.map_cons, List.map_nil, List.replicate_succ, List.replicate_zero, List.cons_append, List.nil_append, List.getElem?_cons_zero, List.getElem?_cons_succ, List.set_cons_zero, List.set_cons_succ, List.length_cons, List.length_nil, pGet0, pGet1, pIx_dq0, pIx_dq1, lay_int, lay_bool, dep_int, dep_bool, lay_dq, dep_dq, eqv_int, eqv_dq, tyD_dq, decide_eq_true_eq, Bool.not_eq_true', decide_eq_false_iff_not, ite_not, true_and, Nat.zero_le, Int.zero_add, List.length_map, kit_tt, kit_ib, kit_bb, kit_ii, Bool.true_eq_false, Bool.false_eq_true, decide_true, eq_self, eqv_bool, pVarH_o, oVarH_d, pdatH, asH_d, pUnp_o, oUnp_d, qTup_dq, hold_app, pIx2_l, pIx2_q, pLen2_l, pLen2_q, reduceIte, reduceCtorEq, Nat.reduceAdd, Nat.reduceLeDiff, Nat.reduceSub, Bool.not_true, Bool.not_false, decide_false, and_true, Option.map_some, Option.join_some, Option.bind_some])
  refine ⟨fun m e => ∃ x y : Int, e = [some (.d (.int t)), some (.d (.int b)), some (.d (.int x)), some (.d (.int y))] ∧ 0 ≤ y ∧ (y = 0 → 0 < x) ∧ m = y.toNat ∧ Int.gcd x y = Int.gcd t b, ⟨_, _, _, rfl, by omega, fun e => by omega, rfl, rfl⟩, ?_⟩
  rintro m e ⟨x, y, rfl, hy, hx, rfl, hg⟩
  (try simp only [pSeq, pNext, pNever, pRet, pRetV_o, oRetV_d, pIf, pAsg, pPar_o, oPar_2, pTest, asB_b, pNot, pOr, pAndV, pIfE, pOp, pI_i, pI0_i, pEqD, pNeD, pIxL_h, pU_i, pUn, pNil, pCons, pTup, pLst, pCB, pAbs_i, pMax_i, pMin_i, pIsi_o, oKit_s, tyD_int, tyD_bool, pVar_o, oVar_d, pVarV_o, oVarV_d, oVarV_o, oVarV_b, pC, pdat, asD_d, asD_o, pCall_h, pNilA, pConsD, pConsV, pConsS, asL_l, isSt_s, qName, qNil_n, qCons_c, pWhile, pIterV_o, oIterV_d, asSeq_dq, pRng1_o, oRng1_i, pFor, List.map_cons, List.map_nil, List.replicate_succ, List.replicate_zero, List.cons_append, List.nil_append, List.getElem?_cons_zero, List.getElem?_cons_succ, List.set_cons_zero, List.set_cons_succ, List.length_cons, List.length_nil, pGet0, pGet1, pIx_dq0, pIx_dq1, lay_int, lay_bool, dep_int, dep_bool, lay_dq, dep_dq, eqv_int, eqv_dq, tyD_dq, decide_eq_true_eq, Bool.not_eq_true', decide_eq_false_iff_not, ite_not, true_and, Nat.zero_le, Int.zero_add, List.length_map, kit_tt, kit_ib, kit_bb, kit_ii, Bool.true_eq_false, Bool.false_eq_true, decide_true, eq_self, eqv_bool, pVarH_o, oVarH_d, pdatH, asH_d, pUnp_o, oUnp_d, qTup_dq, hold_app, pIx2_l, pIx2_q, pLen2_l, pLen2_q, reduceIte, reduceCtorEq, Nat.reduceAdd, Nat.reduceLeDiff, Nat.reduceSub, Bool.not_true, Bool.not_false, decide_false, and_true, Option.map_some, Option.join_some, Option.bind_some])
  refine ite2 (fun e => ?_) (fun hn => ?_)
  · subst e
    have hx0 := hx rfl
    have e1 : x = sh t b := by
      have := gcd_zero x (by omega)
      rw [hg] at this
      unfold sh; rw [if_neg (by omega)]; exact this.symm
    subst e1
    have hb0 : b ≠ 0 := by omega
    refine ⟨⟨sh_ne hb0, sm_sh sb hb0⟩, ⟨sh_ne hb0, sm_sh sb hb0⟩, ?_⟩
    rw [low_num hb0, low_den hb0]; exact k
  · have h1 := Int.emod_lt_of_pos x (show 0 < y by omega)
    have h2 := Int.emod_nonneg x hn
    exact ⟨by omega, (x % y).toNat, by omega, y, x % y, rfl, h2, fun _ => by omega, rfl, by rw [gcd_mod, hg]⟩
def psx_parted : List SV → Prop := fun as => ∃ p : Rat, as = [.d (dq p), .d (dq 0)]
theorem okx_parted (T : Txt K mg D) : FnOk P w K mg base (CX1 P w) 3 D.a_parted D.d_parted ["one", "other"] (Pu.spE K [.dat, .dat] D.k_NoNumber psx_parted) := by
  refine Pu.okx T.F_parted sc_parted rfl (fun cdv A outer s H E w0 hr hk => (QSs.out (qpss_cons (qs_nox (qps_asg (qpv 1) (qpg_tupK (K := K) (n := 2) rfl rfl (qpgs_cons (qpg_name (i := 2) sc_parted.nd rfl (Or.inl rfl) (Or.inl rfl)) (qpgs_cons (qpg_name (i := 3) sc_parted.nd rfl (Or.inl rfl) (Or.inl rfl)) qpgs_nil)) rfl rfl))) (qpss_cons (qps_if (qt_nox (qpt_cmpR (op_eqDK (K := K) rfl hr.units) (qpv 2) qpe_int (nomark _))) (qpss_one (qps_raise hk (by rfl) T.c_NoNumber T.ex_NoNumber)) qpss_nil) qss_never)))) (fun w0 => inferInstance) ?_
  rintro as ⟨p, rfl⟩
  (try simp only [pSeq, pNext, pNever, pRet, pRetV_o, oRetV_d, pIf, pAsg, pPar_o, oPar_2, pTest, asB_b, pNot, pOr, pAndV, pIfE, pOp, pI_i, pI0_i, pEqD, pNeD, pIxL_h, pU_i, pUn, pNil, pCons, pTup, pLst, pCB, pAbs_i, pMax_i, pMin_i, pIsi_o, oKit_s, tyD_int, tyD_bool, pVar_o, oVar_d, pVarV_o, oVarV_d, oVarV_o, oVarV_b, pC, pdat, asD_d, asD_o, pCall_h, pNilA, pConsD, pConsV, pConsS, asL_l, isSt_s, qName, qNil_n, qCons_c, pWhile, pIterV_o, oIterV_d, asSeq_dq, pRng1_o, oRng1_i, pFor, List.map_cons, List.map_nil, List.replicate_succ, List.replicate_zero, List.cons_append, List.nil_append, List.getElem?_cons_zero, List.getElem?_cons_succ, List.set_cons_zero, List.set_cons_succ, List.length_cons, List.length_nil, pGet0, pGet1, pIx_dq0, pIx_dq1, lay_int, lay_bool, dep_int, dep_bool, lay_dq, dep_dq, eqv_int, eqv_dq, tyD_dq, decide_eq_true_eq, Bool.not_eq_true', decide_eq_false_iff_not, ite_not, true_and, Nat.zero_le, Int.zero_add, List.length_map, kit_tt, kit_ib, kit_bb, kit_ii, Bool.true_eq_false, Bool.false_eq_true, decide_true, eq_self, eqv_bool, pVarH_o, oVarH_d, pdatH, asH_d, pUnp_o, oUnp_d, qTup_dq, hold_app, pIx2_l, pIx2_q, pLen2_l, pLen2_q, reduceIte, reduceCtorEq, Nat.reduceAdd, Nat.reduceLeDiff, Nat.reduceSub, Bool.not_true, Bool.not_false, decide_false, and_true, Option.map_some, Option.join_some, Option.bind_some])
  rw [if_pos (show Rat.num 0 = 0 from rfl)]
  exact True.intro
def ps_larger : Pu.PSp := fun as Q => ∃ p q : Rat, as = [.d (dq p), .d (dq q)] ∧ SmQ 3900 p ∧ SmQ 3900 q ∧ Q (.d (dq (if p < q then q else p)))
theorem ok_larger (T : Txt K mg D) : FnOk P w K mg base CX0 2 D.a_larger D.d_larger ["one", "other"] (Pu.spOf K [.dat, .dat] ps_larger) := by
  refine T.F_larger.ok sc_larger (Pu.spOf.len rfl) (fun cdv A outer s H vs Q E hr h => ?_)
  refine ⟨_, (QSs.out (qpss_one (qps_ret (qpe_ifExp (qpt_val (qpe_call (ok_isless (K := K) T) (hr.mono (by first | decide | omega)) rfl T.m_isless T.F_isless.kp (b_isless T) .nil pass0 (qpa_cons (qpv 0) (qpa_cons (qpv 1) qpa_nil)))) (qpv 1) (qpv 0))))), ?_⟩
  refine Pu.enter h ?_
  rintro as Qp ⟨p, q, rfl, sp, sq, k⟩
  (try simp only [pSeq, pNext, pNever, pRet, pRetV_o, oRetV_d, pIf, pAsg, pPar_o, oPar_2, pTest, asB_b, pNot, pOr, pAndV, pIfE, pOp, pI_i, pI0_i, pEqD, pNeD, pIxL_h, pU_i, pUn, pNil, pCons, pTup, pLst, pCB, pAbs_i, pMax_i, pMin_i, pIsi_o, oKit_s, tyD_int, tyD_bool, pVar_o, oVar_d, pVarV_o, oVarV_d, oVarV_o, oVarV_b, pC, pdat, asD_d, asD_o, pCall_h, pNilA, pConsD, pConsV, pConsS, asL_l, isSt_s, qName, qNil_n, qCons_c, pWhile, pIterV_o, oIterV_d, asSeq_dq, pRng1_o, oRng1_i, pFor, List.map_cons, List.map_nil, List.replicate_succ, List.replicate_zero, List.cons_append, List.nil_append, List.getElem?_cons_zero, List.getElem?_cons_succ, List.set_cons_zero, List.set_cons_succ, List.length_cons, List.length_nil, pGet0, pGet1, pIx_dq0, pIx_dq1, lay_int, lay_bool, dep_int, dep_bool, lay_dq, dep_dq, eqv_int, eqv_dq, tyD_dq, decide_eq_true_eq, Bool.not_eq_true', decide_eq_false_iff_not, ite_not, true_and, Nat.zero_le, Int.zero_add, List.length_map, kit_tt, kit_ib, kit_bb, kit_ii, Bool.true_eq_false, Bool.false_eq_true, decide_true, eq_self, eqv_bool, pVarH_o, oVarH_d, pdatH, asH_d, pUnp_o, oUnp_d, qTup_dq, hold_app, pIx2_l, pIx2_q, pLen2_l, pLen2_q, reduceIte, reduceCtorEq, Nat.reduceAdd, Nat.reduceLeDiff, Nat.reduceSub, Bool.not_true, Bool.not_false, decide_false, and_true, Option.map_some, Option.join_some, Option.bind_some])
  refine ⟨p, q, rfl, sp, sq, ?_⟩
  (try simp only [pSeq, pNext, pNever, pRet, pRetV_o, oRetV_d, pIf, pAsg, pPar_o, oPar_2, pTest, asB_b, pNot, pOr, pAndV, pIfE, pOp, pI_i, pI0_i, pEqD, pNeD, pIxL_h, pU_i, pUn, pNil, pCons, pTup, pLst, pCB, pAbs_i, pMax_i, pMin_i, pIsi_o, oKit_s, tyD_int, tyD_bool, pVar_o, oVar_d, pVarV_o, oVarV_d, oVarV_o, oVarV_b, pC, pdat, asD_d, asD_o, pCall_h, pNilA, pConsD, pConsV, pConsS, asL_l, isSt_s, qName, qNil_n, qCons_c, pWhile, pIterV_o, oIterV_d, asSeq_dq, pRng1_o, oRng1_i, pFor, List.map_cons, List.map_nil, List.replicate_succ, List.replicate_zero, List.cons_append, List.nil_append, List.getElem?_cons_zero, List.getElem?_cons_succ, List.set_cons_zero, List.set_cons_succ, List.length_cons, List.length_nil, pGet0, pGet1, pIx_dq0, pIx_dq1, lay_int, lay_bool, dep_int, dep_bool, lay_dq, dep_dq, eqv_int, eqv_dq, tyD_dq, decide_eq_true_eq, Bool.not_eq_true', decide_eq_false_iff_not, ite_not, true_and, Nat.zero_le, Int.zero_add, List.length_map, kit_tt, kit_ib, kit_bb, kit_ii, Bool.true_eq_false, Bool.false_eq_true, decide_true, eq_self, eqv_bool, pVarH_o, oVarH_d, pdatH, asH_d, pUnp_o, oUnp_d, qTup_dq, hold_app, pIx2_l, pIx2_q, pLen2_l, pLen2_q, reduceIte, reduceCtorEq, Nat.reduceAdd, Nat.reduceLeDiff, Nat.reduceSub, Bool.not_true, Bool.not_false, decide_false, and_true, Option.map_some, Option.join_some, Option.bind_some])
  refine ite2 (fun h => ?_) (fun h => ?_)
  · rw [if_pos h] at k; exact k
  · rw [if_neg h] at k; exact k
def ps_smaller : Pu.PSp := fun as Q => ∃ p q : Rat, as = [.d (dq p), .d (dq q)] ∧ SmQ 3900 p ∧ SmQ 3900 q ∧ Q (.d (dq (if q < p then q else p)))
theorem ok_smaller (T : Txt K mg D) : FnOk P w K mg base CX0 2 D.a_smaller D.d_smaller ["one", "other"] (Pu.spOf K [.dat, .dat] ps_smaller) := by
  refine T.F_smaller.ok sc_smaller (Pu.spOf.len rfl) (fun cdv A outer s H vs Q E hr h => ?_)
  refine ⟨_, (QSs.out (qpss_one (qps_ret (qpe_ifExp (qpt_val (qpe_call (ok_isless (K := K) T) (hr.mono (by first | decide | omega)) rfl T.m_isless T.F_isless.kp (b_isless T) .nil pass0 (qpa_cons (qpv 1) (qpa_cons (qpv 0) qpa_nil)))) (qpv 1) (qpv 0))))), ?_⟩
  refine Pu.enter h ?_
  rintro as Qp ⟨p, q, rfl, sp, sq, k⟩
  (try simp only [pSeq, pNext, pNever, pRet, pRetV_o, oRetV_d, pIf, pAsg, pPar_o, oPar_2, pTest, asB_b, pNot, pOr, pAndV, pIfE, pOp, pI_i, pI0_i, pEqD, pNeD, pIxL_h, pU_i, pUn, pNil, pCons, pTup, pLst, pCB, pAbs_i, pMax_i, pMin_i, pIsi_o, oKit_s, tyD_int, tyD_bool, pVar_o, oVar_d, pVarV_o, oVarV_d, oVarV_o, oVarV_b, pC, pdat, asD_d, asD_o, pCall_h, pNilA, pConsD, pConsV, pConsS, asL_l, isSt_s, qName, qNil_n, qCons_c, pWhile, pIterV_o, oIterV_d, asSeq_dq, pRng1_o, oRng1_i, pFor, List.map_cons, List.map_nil, List.replicate_succ, List.replicate_zero, List.cons_append, List.nil_append, List.getElem?_cons_zero, List.getElem?_cons_succ, List.set_cons_zero, List.set_cons_succ, List.length_cons, List.length_nil, pGet0, pGet1, pIx_dq0, pIx_dq1, lay_int, lay_bool, dep_int, dep_bool, lay_dq, dep_dq, eqv_int, eqv_dq, tyD_dq, decide_eq_true_eq, Bool.not_eq_true', decide_eq_false_iff_not, ite_not, true_and, Nat.zero_le, Int.zero_add, List.length_map, kit_tt, kit_ib, kit_bb, kit_ii, Bool.true_eq_false, Bool.false_eq_true, decide_true, eq_self, eqv_bool, pVarH_o, oVarH_d, pdatH, asH_d, pUnp_o, oUnp_d, qTup_dq, hold_app, pIx2_l, pIx2_q, pLen2_l, pLen2_q, reduceIte, reduceCtorEq, Nat.reduceAdd, Nat.reduceLeDiff, Nat.reduceSub, Bool.not_true, Bool.not_false, decide_false, and_true, Option.map_some, Option.join_some, Option.bind_some])
  refine ⟨q, p, rfl, sq, sp, ?_⟩
  (try simp only [pSeq, pNext, pNever, pRet, pRetV_o, oRetV_d, pIf, pAsg, pPar_o, oPar_2, pTest, asB_b, pNot, pOr, pAndV, pIfE, pOp, pI_i, pI0_i, pEqD, pNeD, pIxL_h, pU_i, pUn, pNil, pCons, pTup, pLst, pCB, pAbs_i, pMax_i, pMin_i, pIsi_o, oKit_s, tyD_int, tyD_bool, pVar_o, oVar_d, pVarV_o, oVarV_d, oVarV_o, oVarV_b, pC, pdat, asD_d, asD_o, pCall_h, pNilA, pConsD, pConsV, pConsS, asL_l, isSt_s, qName, qNil_n, qCons_c, pWhile, pIterV_o, oIterV_d, asSeq_dq, pRng1_o, oRng1_i, pFor, List.map_cons, List.map_nil, List.replicate_succ, List.replicate_zero, List.cons_append, List.nil_append, List.getElem?_cons_zero, List.getElem?_cons_succ, List.set_cons_zero, List.set_cons_succ, List.length_cons, List.length_nil, pGet0, pGet1, pIx_dq0, pIx_dq1, lay_int, lay_bool, dep_int, dep_bool, lay_dq, dep_dq, eqv_int, eqv_dq, tyD_dq, decide_eq_true_eq, Bool.not_eq_true', decide_eq_false_iff_not, ite_not, true_and, Nat.zero_le, Int.zero_add, List.length_map, kit_tt, kit_ib, kit_bb, kit_ii, Bool.true_eq_false, Bool.false_eq_true, decide_true, eq_self, eqv_bool, pVarH_o, oVarH_d, pdatH, asH_d, pUnp_o, oUnp_d, qTup_dq, hold_app, pIx2_l, pIx2_q, pLen2_l, pLen2_q, reduceIte, reduceCtorEq, Nat.reduceAdd, Nat.reduceLeDiff, Nat.reduceSub, Bool.not_true, Bool.not_false, decide_false, and_true, Option.map_some, Option.join_some, Option.bind_some])
  refine ite2 (fun h => ?_) (fun h => ?_)
  · rw [if_pos h] at k; exact k
  · rw [if_neg h] at k; exact k
def ps_Lnumber : Pu.PSp := fun as Q => as = [.st] ∧ ∀ n : Int, Sm 200 n → Q (.d (.int n))
theorem ok_Lnumber (T : Txt K mg D) : FnOk P w K mg base CX0 2 D.a_Lnumber D.d_Lnumber ["_law_state"] (Pu.spOf K [.st] ps_Lnumber) := by
  refine T.F_Lnumber.ok sc_Lnumber (Pu.spOf.len rfl) (fun cdv A outer s H vs Q E hr h => ?_)
  refine ⟨_, (QSs.out (qpss_cons (qps_set (i := 1) sc_Lnumber.nd rfl (Or.inl rfl) (qpe_ix (ix_seqK (K := K) rfl) (qpe_lst (qpa_cons qpe_int (qpa_cons qpe_int (qpa_cons (qpe_op op_pow qpe_int qpe_int) (qpa_cons (qpe_op op_pow qpe_int qpe_int) qpa_nil))))) (qpe_call (ok_Ltake (K := K) T) (hr.mono (by first | decide | omega)) rfl T.m_Ltake T.F_Ltake.kp (b_Ltake T) .nil pass0 (qpa_cons (qpv 0) (qpa_cons qpe_int qpa_nil))) (fun _ _ => rfl)))
      (qpss_cons (qps_set (i := 2) sc_Lnumber.nd rfl (Or.inl rfl) (qpe_call (ok_Ltake (K := K) T) (hr.mono (by first | decide | omega)) rfl T.m_Ltake T.F_Ltake.kp (b_Ltake T) .nil pass0 (qpa_cons (qpv 0) (qpa_cons (qpv 1) qpa_nil))))
      (qpss_cons (qps_if (qpt_cmpR (op_eqDK (K := K) rfl hr.units) (qpe_call (ok_Ltake (K := K) T) (hr.mono (by first | decide | omega)) rfl T.m_Ltake T.F_Ltake.kp (b_Ltake T) .nil pass0 (qpa_cons (qpv 0) (qpa_cons qpe_int qpa_nil))) qpe_int (nomark _))
        (qpss_one (qps_ret (qpe_op op_sub qpe_int (qpv 2))))
        qpss_nil)
      (qpss_one (qps_ret (qpv 2))))))), ?_⟩
  refine Pu.enter h ?_
  rintro as Qp ⟨rfl, k⟩
  (try simp only [pSeq, pNext, pNever, pRet, pRetV_o, oRetV_d, pIf, pAsg, pPar_o, oPar_2, pTest, asB_b, pNot, pOr, pAndV, pIfE, pOp, pI_i, pI0_i, pEqD, pNeD, pIxL_h, pU_i, pUn, pNil, pCons, pTup, pLst, pCB, pAbs_i, pMax_i, pMin_i, pIsi_o, oKit_s, tyD_int, tyD_bool, pVar_o, oVar_d, pVarV_o, oVarV_d, oVarV_o, oVarV_b, pC, pdat, asD_d, asD_o, pCall_h, pNilA, pConsD, pConsV, pConsS, asL_l, isSt_s, qName, qNil_n, qCons_c, pWhile, pIterV_o, oIterV_d, asSeq_dq, pRng1_o, oRng1_i, pFor, List.map_cons, List.map_nil, List.replicate_succ, List.replicate_zero, List.cons_append, List.nil_append, List.getElem?_cons_zero, List.getElem?_cons_succ, List.set_cons_zero, List.set_cons_succ, List.length_cons, List.length_nil, pGet0, pGet1, pIx_dq0, pIx_dq1, lay_int, lay_bool, dep_int, dep_bool, lay_dq, dep_dq, eqv_int, eqv_dq, tyD_dq, decide_eq_true_eq, Bool.not_eq_true', decide_eq_false_iff_not, ite_not, true_and, Nat.zero_le, Int.zero_add, List.length_map, kit_tt, kit_ib, kit_bb, kit_ii, Bool.true_eq_false, Bool.false_eq_true, decide_true, eq_self, eqv_bool, pVarH_o, oVarH_d, pdatH, asH_d, pUnp_o, oUnp_d, qTup_dq, hold_app, pIx2_l, pIx2_q, pLen2_l, pLen2_q, reduceIte, reduceCtorEq, Nat.reduceAdd, Nat.reduceLeDiff, Nat.reduceSub, Bool.not_true, Bool.not_false, decide_false, and_true, Option.map_some, Option.join_some, Option.bind_some])
  refine ⟨cpow10 9, cpow10 60, 4, rfl, by decide, sm4 4, fun d d0 d4 => ?_⟩
  (try simp only [pSeq, pNext, pNever, pRet, pRetV_o, oRetV_d, pIf, pAsg, pPar_o, oPar_2, pTest, asB_b, pNot, pOr, pAndV, pIfE, pOp, pI_i, pI0_i, pEqD, pNeD, pIxL_h, pU_i, pUn, pNil, pCons, pTup, pLst, pCB, pAbs_i, pMax_i, pMin_i, pIsi_o, oKit_s, tyD_int, tyD_bool, pVar_o, oVar_d, pVarV_o, oVarV_d, oVarV_o, oVarV_b, pC, pdat, asD_d, asD_o, pCall_h, pNilA, pConsD, pConsV, pConsS, asL_l, isSt_s, qName, qNil_n, qCons_c, pWhile, pIterV_o, oIterV_d, asSeq_dq, pRng1_o, oRng1_i, pFor, List.map_cons, List.map_nil, List.replicate_succ, List.replicate_zero, List.cons_append, List.nil_append, List.getElem?_cons_zero, List.getElem?_cons_succ, List.set_cons_zero, List.set_cons_succ, List.length_cons, List.length_nil, pGet0, pGet1, pIx_dq0, pIx_dq1, lay_int, lay_bool, dep_int, dep_bool, lay_dq, dep_dq, eqv_int, eqv_dq, tyD_dq, decide_eq_true_eq, Bool.not_eq_true', decide_eq_false_iff_not, ite_not, true_and, Nat.zero_le, Int.zero_add, List.length_map, kit_tt, kit_ib, kit_bb, kit_ii, Bool.true_eq_false, Bool.false_eq_true, decide_true, eq_self, eqv_bool, pVarH_o, oVarH_d, pdatH, asH_d, pUnp_o, oUnp_d, qTup_dq, hold_app, pIx2_l, pIx2_q, pLen2_l, pLen2_q, reduceIte, reduceCtorEq, Nat.reduceAdd, Nat.reduceLeDiff, Nat.reduceSub, Bool.not_true, Bool.not_false, decide_false, and_true, Option.map_some, Option.join_some, Option.bind_some])
  obtain ⟨z, hz, e⟩ := menuP (xs := [3, 100, 10 ^ 9, 10 ^ 60]) d0 d4
  have hb : 0 < z ∧ z ≤ 10 ^ 60 := by
    simp only [List.mem_cons, List.not_mem_nil, or_false] at hz
    rcases hz with rfl | rfl | rfl | rfl <;> decide
  refine pGet_of e ?_
  (try simp only [pSeq, pNext, pNever, pRet, pRetV_o, oRetV_d, pIf, pAsg, pPar_o, oPar_2, pTest, asB_b, pNot, pOr, pAndV, pIfE, pOp, pI_i, pI0_i, pEqD, pNeD, pIxL_h, pU_i, pUn, pNil, pCons, pTup, pLst, pCB, pAbs_i, pMax_i, pMin_i, pIsi_o, oKit_s, tyD_int, tyD_bool, pVar_o, oVar_d, pVarV_o, oVarV_d, oVarV_o, oVarV_b, pC, pdat, asD_d, asD_o, pCall_h, pNilA, pConsD, pConsV, pConsS, asL_l, isSt_s, qName, qNil_n, qCons_c, pWhile, pIterV_o, oIterV_d, asSeq_dq, pRng1_o, oRng1_i, pFor, List.map_cons, List.map_nil, List.replicate_succ, List.replicate_zero, List.cons_append, List.nil_append, List.getElem?_cons_zero, List.getElem?_cons_succ, List.set_cons_zero, List.set_cons_succ, List.length_cons, List.length_nil, pGet0, pGet1, pIx_dq0, pIx_dq1, lay_int, lay_bool, dep_int, dep_bool, lay_dq, dep_dq, eqv_int, eqv_dq, tyD_dq, decide_eq_true_eq, Bool.not_eq_true', decide_eq_false_iff_not, ite_not, true_and, Nat.zero_le, Int.zero_add, List.length_map, kit_tt, kit_ib, kit_bb, kit_ii, Bool.true_eq_false, Bool.false_eq_true, decide_true, eq_self, eqv_bool, pVarH_o, oVarH_d, pdatH, asH_d, pUnp_o, oUnp_d, qTup_dq, hold_app, pIx2_l, pIx2_q, pLen2_l, pLen2_q, reduceIte, reduceCtorEq, Nat.reduceAdd, Nat.reduceLeDiff, Nat.reduceSub, Bool.not_true, Bool.not_false, decide_false, and_true, Option.map_some, Option.join_some, Option.bind_some])
  refine ⟨z, rfl, hb.1, Sm.mono (k := 200) (sm_of (B := 10 ^ 60) (by omega) (by omega) (by decide)) (by decide), fun n n0 n1 => ?_⟩
  (try simp only [pSeq, pNext, pNever, pRet, pRetV_o, oRetV_d, pIf, pAsg, pPar_o, oPar_2, pTest, asB_b, pNot, pOr, pAndV, pIfE, pOp, pI_i, pI0_i, pEqD, pNeD, pIxL_h, pU_i, pUn, pNil, pCons, pTup, pLst, pCB, pAbs_i, pMax_i, pMin_i, pIsi_o, oKit_s, tyD_int, tyD_bool, pVar_o, oVar_d, pVarV_o, oVarV_d, oVarV_o, oVarV_b, pC, pdat, asD_d, asD_o, pCall_h, pNilA, pConsD, pConsV, pConsS, asL_l, isSt_s, qName, qNil_n, qCons_c, pWhile, pIterV_o, oIterV_d, asSeq_dq, pRng1_o, oRng1_i, pFor, List.map_cons, List.map_nil, List.replicate_succ, List.replicate_zero, List.cons_append, List.nil_append, List.getElem?_cons_zero, List.getElem?_cons_succ, List.set_cons_zero, List.set_cons_succ, List.length_cons, List.length_nil, pGet0, pGet1, pIx_dq0, pIx_dq1, lay_int, lay_bool, dep_int, dep_bool, lay_dq, dep_dq, eqv_int, eqv_dq, tyD_dq, decide_eq_true_eq, Bool.not_eq_true', decide_eq_false_iff_not, ite_not, true_and, Nat.zero_le, Int.zero_add, List.length_map, kit_tt, kit_ib, kit_bb, kit_ii, Bool.true_eq_false, Bool.false_eq_true, decide_true, eq_self, eqv_bool, pVarH_o, oVarH_d, pdatH, asH_d, pUnp_o, oUnp_d, qTup_dq, hold_app, pIx2_l, pIx2_q, pLen2_l, pLen2_q, reduceIte, reduceCtorEq, Nat.reduceAdd, Nat.reduceLeDiff, Nat.reduceSub, Bool.not_true, Bool.not_false, decide_false, and_true, Option.map_some, Option.join_some, Option.bind_some])
  refine ⟨2, rfl, by decide, sm4 2, fun g g0 g2 => ?_⟩
  (try simp only [pSeq, pNext, pNever, pRet, pRetV_o, oRetV_d, pIf, pAsg, pPar_o, oPar_2, pTest, asB_b, pNot, pOr, pAndV, pIfE, pOp, pI_i, pI0_i, pEqD, pNeD, pIxL_h, pU_i, pUn, pNil, pCons, pTup, pLst, pCB, pAbs_i, pMax_i, pMin_i, pIsi_o, oKit_s, tyD_int, tyD_bool, pVar_o, oVar_d, pVarV_o, oVarV_d, oVarV_o, oVarV_b, pC, pdat, asD_d, asD_o, pCall_h, pNilA, pConsD, pConsV, pConsS, asL_l, isSt_s, qName, qNil_n, qCons_c, pWhile, pIterV_o, oIterV_d, asSeq_dq, pRng1_o, oRng1_i, pFor, List.map_cons, List.map_nil, List.replicate_succ, List.replicate_zero, List.cons_append, List.nil_append, List.getElem?_cons_zero, List.getElem?_cons_succ, List.set_cons_zero, List.set_cons_succ, List.length_cons, List.length_nil, pGet0, pGet1, pIx_dq0, pIx_dq1, lay_int, lay_bool, dep_int, dep_bool, lay_dq, dep_dq, eqv_int, eqv_dq, tyD_dq, decide_eq_true_eq, Bool.not_eq_true', decide_eq_false_iff_not, ite_not, true_and, Nat.zero_le, Int.zero_add, List.length_map, kit_tt, kit_ib, kit_bb, kit_ii, Bool.true_eq_false, Bool.false_eq_true, decide_true, eq_self, eqv_bool, pVarH_o, oVarH_d, pdatH, asH_d, pUnp_o, oUnp_d, qTup_dq, hold_app, pIx2_l, pIx2_q, pLen2_l, pLen2_q, reduceIte, reduceCtorEq, Nat.reduceAdd, Nat.reduceLeDiff, Nat.reduceSub, Bool.not_true, Bool.not_false, decide_false, and_true, Option.map_some, Option.join_some, Option.bind_some])
  have hn : Sm 200 n := sm_of (B := 10 ^ 60) (by omega) (by omega) (by decide)
  refine ite2 (fun h => ?_) (fun h => ?_)
  · exact k _ (by unfold Sm at *; omega)
  · exact k _ hn
def ps_Lfraction : Pu.PSp := fun as Q => as = [.st] ∧ ∀ q : Rat, SmR 200 200 q → Q (.d (dq q))
theorem ok_Lfraction (T : Txt K mg D) : FnOk P w K mg base CX0 3 D.a_Lfraction D.d_Lfraction ["_law_state"] (Pu.spOf K [.st] ps_Lfraction) := by
  refine T.F_Lfraction.ok sc_Lfraction (Pu.spOf.len rfl) (fun cdv A outer s H vs Q E hr h => ?_)
  refine ⟨_, (QSs.out (qpss_cons (qps_set (i := 1) sc_Lfraction.nd rfl (Or.inl rfl) (qpe_call (ok_Lnumber (K := K) T) (hr.mono (by first | decide | omega)) rfl T.m_Lnumber T.F_Lnumber.kp (b_Lnumber T) .nil pass0 (qpa_cons (qpv 0) qpa_nil)))
      (qpss_cons (qps_set (i := 2) sc_Lfraction.nd rfl (Or.inl rfl) (qpe_op op_add qpe_int (qpe_call (ok_Ltake (K := K) T) (hr.mono (by first | decide | omega)) rfl T.m_Ltake T.F_Ltake.kp (b_Ltake T) .nil pass0 (qpa_cons (qpv 0) (qpa_cons (qpe_ix (ix_seqK (K := K) rfl) (qpe_lst (qpa_cons qpe_int (qpa_cons qpe_int (qpa_cons qpe_int (qpa_cons (qpe_op op_sub (qpe_op op_pow qpe_int qpe_int) qpe_int) qpa_nil))))) (qpe_call (ok_Ltake (K := K) T) (hr.mono (by first | decide | omega)) rfl T.m_Ltake T.F_Ltake.kp (b_Ltake T) .nil pass0 (qpa_cons (qpv 0) (qpa_cons qpe_int qpa_nil))) (fun _ _ => rfl)) qpa_nil)))))
      (qpss_one (qps_ret (qpe_call (ok_Llow (K := K) T) (hr.mono (by first | decide | omega)) rfl T.m_Llow T.F_Llow.kp (b_Llow T) .nil pass0 (qpa_cons (qpv 1) (qpa_cons (qpv 2) qpa_nil)))))))), ?_⟩
  refine Pu.enter h ?_
  rintro as Qp ⟨rfl, k⟩
  (try simp only [pSeq, pNext, pNever, pRet, pRetV_o, oRetV_d, pIf, pAsg, pPar_o, oPar_2, pTest, asB_b, pNot, pOr, pAndV, pIfE, pOp, pI_i, pI0_i, pEqD, pNeD, pIxL_h, pU_i, pUn, pNil, pCons, pTup, pLst, pCB, pAbs_i, pMax_i, pMin_i, pIsi_o, oKit_s, tyD_int, tyD_bool, pVar_o, oVar_d, pVarV_o, oVarV_d, oVarV_o, oVarV_b, pC, pdat, asD_d, asD_o, pCall_h, pNilA, pConsD, pConsV, pConsS, asL_l, isSt_s, qName, qNil_n, qCons_c, pWhile, pIterV_o, oIterV_d, asSeq_dq, pRng1_o, oRng1_i, pFor, List.map_cons, List.map_nil, List.replicate_succ, List.replicate_zero, List.cons_append, List.nil_append, List.getElem?_cons_zero, List.getElem?_cons_succ, List.set_cons_zero, List.set_cons_succ, List.length_cons, List.length_nil, pGet0, pGet1, pIx_dq0, pIx_dq1, lay_int, lay_bool, dep_int, dep_bool, lay_dq, dep_dq, eqv_int, eqv_dq, tyD_dq, decide_eq_true_eq, Bool.not_eq_true', decide_eq_false_iff_not, ite_not, true_and, Nat.zero_le, Int.zero_add, List.length_map, kit_tt, kit_ib, kit_bb, kit_ii, Bool.true_eq_false, Bool.false_eq_true, decide_true, eq_self, eqv_bool, pVarH_o, oVarH_d, pdatH, asH_d, pUnp_o, oUnp_d, qTup_dq, hold_app, pIx2_l, pIx2_q, pLen2_l, pLen2_q, reduceIte, reduceCtorEq, Nat.reduceAdd, Nat.reduceLeDiff, Nat.reduceSub, Bool.not_true, Bool.not_false, decide_false, and_true, Option.map_some, Option.join_some, Option.bind_some])
  refine ⟨rfl, fun t st => ?_⟩
  (try simp only [pSeq, pNext, pNever, pRet, pRetV_o, oRetV_d, pIf, pAsg, pPar_o, oPar_2, pTest, asB_b, pNot, pOr, pAndV, pIfE, pOp, pI_i, pI0_i, pEqD, pNeD, pIxL_h, pU_i, pUn, pNil, pCons, pTup, pLst, pCB, pAbs_i, pMax_i, pMin_i, pIsi_o, oKit_s, tyD_int, tyD_bool, pVar_o, oVar_d, pVarV_o, oVarV_d, oVarV_o, oVarV_b, pC, pdat, asD_d, asD_o, pCall_h, pNilA, pConsD, pConsV, pConsS, asL_l, isSt_s, qName, qNil_n, qCons_c, pWhile, pIterV_o, oIterV_d, asSeq_dq, pRng1_o, oRng1_i, pFor, List.map_cons, List.map_nil, List.replicate_succ, List.replicate_zero, List.cons_append, List.nil_append, List.getElem?_cons_zero, List.getElem?_cons_succ, List.set_cons_zero, List.set_cons_succ, List.length_cons, List.length_nil, pGet0, pGet1, pIx_dq0, pIx_dq1, lay_int, lay_bool, dep_int, dep_bool, lay_dq, dep_dq, eqv_int, eqv_dq, tyD_dq, decide_eq_true_eq, Bool.not_eq_true', decide_eq_false_iff_not, ite_not, true_and, Nat.zero_le, Int.zero_add, List.length_map, kit_tt, kit_ib, kit_bb, kit_ii, Bool.true_eq_false, Bool.false_eq_true, decide_true, eq_self, eqv_bool, pVarH_o, oVarH_d, pdatH, asH_d, pUnp_o, oUnp_d, qTup_dq, hold_app, pIx2_l, pIx2_q, pLen2_l, pLen2_q, reduceIte, reduceCtorEq, Nat.reduceAdd, Nat.reduceLeDiff, Nat.reduceSub, Bool.not_true, Bool.not_false, decide_false, and_true, Option.map_some, Option.join_some, Option.bind_some])
  refine ⟨cpow10 60, 4, rfl, by decide, sm4 4, fun d d0 d4 => ?_⟩
  (try simp only [pSeq, pNext, pNever, pRet, pRetV_o, oRetV_d, pIf, pAsg, pPar_o, oPar_2, pTest, asB_b, pNot, pOr, pAndV, pIfE, pOp, pI_i, pI0_i, pEqD, pNeD, pIxL_h, pU_i, pUn, pNil, pCons, pTup, pLst, pCB, pAbs_i, pMax_i, pMin_i, pIsi_o, oKit_s, tyD_int, tyD_bool, pVar_o, oVar_d, pVarV_o, oVarV_d, oVarV_o, oVarV_b, pC, pdat, asD_d, asD_o, pCall_h, pNilA, pConsD, pConsV, pConsS, asL_l, isSt_s, qName, qNil_n, qCons_c, pWhile, pIterV_o, oIterV_d, asSeq_dq, pRng1_o, oRng1_i, pFor, List.map_cons, List.map_nil, List.replicate_succ, List.replicate_zero, List.cons_append, List.nil_append, List.getElem?_cons_zero, List.getElem?_cons_succ, List.set_cons_zero, List.set_cons_succ, List.length_cons, List.length_nil, pGet0, pGet1, pIx_dq0, pIx_dq1, lay_int, lay_bool, dep_int, dep_bool, lay_dq, dep_dq, eqv_int, eqv_dq, tyD_dq, decide_eq_true_eq, Bool.not_eq_true', decide_eq_false_iff_not, ite_not, true_and, Nat.zero_le, Int.zero_add, List.length_map, kit_tt, kit_ib, kit_bb, kit_ii, Bool.true_eq_false, Bool.false_eq_true, decide_true, eq_self, eqv_bool, pVarH_o, oVarH_d, pdatH, asH_d, pUnp_o, oUnp_d, qTup_dq, hold_app, pIx2_l, pIx2_q, pLen2_l, pLen2_q, reduceIte, reduceCtorEq, Nat.reduceAdd, Nat.reduceLeDiff, Nat.reduceSub, Bool.not_true, Bool.not_false, decide_false, and_true, Option.map_some, Option.join_some, Option.bind_some])
  obtain ⟨z, hz, e⟩ := menuP (xs := [1, 6, 60, 10 ^ 60 - 1]) d0 d4
  have hb : 0 < z ∧ z ≤ 10 ^ 60 - 1 := by
    simp only [List.mem_cons, List.not_mem_nil, or_false] at hz
    rcases hz with rfl | rfl | rfl | rfl <;> decide
  refine pGet_of e ?_
  (try simp only [pSeq, pNext, pNever, pRet, pRetV_o, oRetV_d, pIf, pAsg, pPar_o, oPar_2, pTest, asB_b, pNot, pOr, pAndV, pIfE, pOp, pI_i, pI0_i, pEqD, pNeD, pIxL_h, pU_i, pUn, pNil, pCons, pTup, pLst, pCB, pAbs_i, pMax_i, pMin_i, pIsi_o, oKit_s, tyD_int, tyD_bool, pVar_o, oVar_d, pVarV_o, oVarV_d, oVarV_o, oVarV_b, pC, pdat, asD_d, asD_o, pCall_h, pNilA, pConsD, pConsV, pConsS, asL_l, isSt_s, qName, qNil_n, qCons_c, pWhile, pIterV_o, oIterV_d, asSeq_dq, pRng1_o, oRng1_i, pFor, List.map_cons, List.map_nil, List.replicate_succ, List.replicate_zero, List.cons_append, List.nil_append, List.getElem?_cons_zero, List.getElem?_cons_succ, List.set_cons_zero, List.set_cons_succ, List.length_cons, List.length_nil, pGet0, pGet1, pIx_dq0, pIx_dq1, lay_int, lay_bool, dep_int, dep_bool, lay_dq, dep_dq, eqv_int, eqv_dq, tyD_dq, decide_eq_true_eq, Bool.not_eq_true', decide_eq_false_iff_not, ite_not, true_and, Nat.zero_le, Int.zero_add, List.length_map, kit_tt, kit_ib, kit_bb, kit_ii, Bool.true_eq_false, Bool.false_eq_true, decide_true, eq_self, eqv_bool, pVarH_o, oVarH_d, pdatH, asH_d, pUnp_o, oUnp_d, qTup_dq, hold_app, pIx2_l, pIx2_q, pLen2_l, pLen2_q, reduceIte, reduceCtorEq, Nat.reduceAdd, Nat.reduceLeDiff, Nat.reduceSub, Bool.not_true, Bool.not_false, decide_false, and_true, Option.map_some, Option.join_some, Option.bind_some])
  refine ⟨z, rfl, hb.1, Sm.mono (k := 200) (sm_of (B := 10 ^ 60) (by omega) (by omega) (by decide)) (by decide), fun n n0 n1 => ?_⟩
  (try simp only [pSeq, pNext, pNever, pRet, pRetV_o, oRetV_d, pIf, pAsg, pPar_o, oPar_2, pTest, asB_b, pNot, pOr, pAndV, pIfE, pOp, pI_i, pI0_i, pEqD, pNeD, pIxL_h, pU_i, pUn, pNil, pCons, pTup, pLst, pCB, pAbs_i, pMax_i, pMin_i, pIsi_o, oKit_s, tyD_int, tyD_bool, pVar_o, oVar_d, pVarV_o, oVarV_d, oVarV_o, oVarV_b, pC, pdat, asD_d, asD_o, pCall_h, pNilA, pConsD, pConsV, pConsS, asL_l, isSt_s, qName, qNil_n, qCons_c, pWhile, pIterV_o, oIterV_d, asSeq_dq, pRng1_o, oRng1_i, pFor, List.map_cons, List.map_nil, List.replicate_succ, List.replicate_zero, List.cons_append, List.nil_append, List.getElem?_cons_zero, List.getElem?_cons_succ, List.set_cons_zero, List.set_cons_succ, List.length_cons, List.length_nil, pGet0, pGet1, pIx_dq0, pIx_dq1, lay_int, lay_bool, dep_int, dep_bool, lay_dq, dep_dq, eqv_int, eqv_dq, tyD_dq, decide_eq_true_eq, Bool.not_eq_true', decide_eq_false_iff_not, ite_not, true_and, Nat.zero_le, Int.zero_add, List.length_map, kit_tt, kit_ib, kit_bb, kit_ii, Bool.true_eq_false, Bool.false_eq_true, decide_true, eq_self, eqv_bool, pVarH_o, oVarH_d, pdatH, asH_d, pUnp_o, oUnp_d, qTup_dq, hold_app, pIx2_l, pIx2_q, pLen2_l, pLen2_q, reduceIte, reduceCtorEq, Nat.reduceAdd, Nat.reduceLeDiff, Nat.reduceSub, Bool.not_true, Bool.not_false, decide_false, and_true, Option.map_some, Option.join_some, Option.bind_some])
  have hn : Sm 200 (1 + n) := sm_of (B := 10 ^ 60) (by omega) (by omega) (by decide)
  exact ⟨_, _, rfl, by omega, st.mono (by decide), hn.mono (by decide), k _ (SmR.low st hn (by omega))⟩
def ps_Lis : Pu.PSp := fun as Q => ∃ t b : Int, as = [.d (dq (Rat.divInt t b)), .d (.int t), .d (.int b)] ∧ b ≠ 0 ∧ Sm 7000 t ∧ Sm 7000 b ∧ Q (.d (.bool true))
theorem ok_Lis (T : Txt K mg D) : FnOk P w K mg base CX0 2 D.a_Lis D.d_Lis ["_law_found", "_law_top", "_law_bottom"] (Pu.spOf K [.dat, .dat, .dat] ps_Lis) := by
  refine T.F_Lis.ok sc_Lis (Pu.spOf.len rfl) (fun cdv A outer s H vs Q E hr h => ?_)
  refine ⟨_, (QSs.out (qpss_cons (qps_if (QW.pt (qpw_or (qpt_not (qpt_val (qpe_callB (call_isiK (K := K) rfl) (by rfl) T.z_isinstance (by rfl) (qpa_cons (qpv 0) (qpa_cons (qpe_bltn (v := .ty "tuple") rfl T.z_tuple (by rfl) rfl) qpa_nil))))) (qpw_or1 (qpt_cmpR (op_neDK (K := K) rfl hr.units) (qpe_callB (call_len2K (K := K) rfl) (by rfl) T.z_len PySem.boot_len (qpa_cons (qpv 0) qpa_nil)) qpe_int (nomark _)))))
        (qpss_one (qps_ret qpe_bl))
        qpss_nil)
      (qpss_cons (qps_for PassesOwn.never rfl (qpi_sqK (K := K) rfl (qpv 0)) (qpg_name (i := 3) sc_Lis.nd rfl (Or.inl rfl) (Or.inl rfl))
        (qpss_one (qps_if (QW.pt (qpw_or (qpt_not (qpt_val (qpe_callB (call_isiK (K := K) rfl) (by rfl) T.z_isinstance (by rfl) (qpa_cons (qpv 3) (qpa_cons (qpe_bltn (v := .ty "int") rfl T.z_int (by rfl) rfl) qpa_nil))))) (qpw_or1 (qpt_val (qpe_callB (call_isiK (K := K) rfl) (by rfl) T.z_isinstance (by rfl) (qpa_cons (qpv 3) (qpa_cons (qpe_bltn (v := .ty "bool") rfl T.z_bool (by rfl) rfl) qpa_nil)))))))
          (qpss_one (qps_ret qpe_bl))
          qpss_nil)))
      (qpss_cons (qps_if (qpt_cmpR op_lt (qpv 2) qpe_int (nomark _))
        (qpss_cons (qps_set (i := 1) sc_Lis.nd rfl (Or.inl rfl) (qpe_op op_sub qpe_int (qpv 1)))
        (qpss_one (qps_set (i := 2) sc_Lis.nd rfl (Or.inl rfl) (qpe_op op_sub qpe_int (qpv 2)))))
        qpss_nil)
      (qpss_one (qps_ret (qpe_cmpR (op_eqDK (K := K) rfl hr.units) (qpv 0) (qpe_call (ok_Llow (K := K) T) (hr.mono (by first | decide | omega)) rfl T.m_Llow T.F_Llow.kp (b_Llow T) .nil pass0 (qpa_cons (qpv 1) (qpa_cons (qpv 2) qpa_nil))) (nomark _)))))))), ?_⟩
  refine Pu.enter h ?_
  rintro as Qp ⟨t, b, rfl, hb, st, sb, k⟩
  (try simp only [pSeq, pNext, pNever, pRet, pRetV_o, oRetV_d, pIf, pAsg, pPar_o, oPar_2, pTest, asB_b, pNot, pOr, pAndV, pIfE, pOp, pI_i, pI0_i, pEqD, pNeD, pIxL_h, pU_i, pUn, pNil, pCons, pTup, pLst, pCB, pAbs_i, pMax_i, pMin_i, pIsi_o, oKit_s, tyD_int, tyD_bool, pVar_o, oVar_d, pVarV_o, oVarV_d, oVarV_o, oVarV_b, pC, pdat, asD_d, asD_o, pCall_h, pNilA, pConsD, pConsV, pConsS, asL_l, isSt_s, qName, qNil_n, qCons_c, pWhile, pIterV_o, oIterV_d, asSeq_dq, pRng1_o, oRng1_i, pFor, List.map_cons, List.map_nil, List.replicate_succ, List.replicate_zero, List.cons_append, List.nil_append, List.getElem?_cons_zero, List.getElem?_cons_succ, List.set_cons_zero, List.set_cons_succ, List.length_cons, List.length_nil, pGet0, pGet1, pIx_dq0, pIx_dq1, lay_int, lay_bool, dep_int, dep_bool, lay_dq, dep_dq, eqv_int, eqv_dq, tyD_dq, decide_eq_true_eq, Bool.not_eq_true', decide_eq_false_iff_not, ite_not, true_and, Nat.zero_le, Int.zero_add, List.length_map, kit_tt, kit_ib, kit_bb, kit_ii, Bool.true_eq_false, Bool.false_eq_true, decide_true, eq_self, eqv_bool, pVarH_o, oVarH_d, pdatH, asH_d, pUnp_o, oUnp_d, qTup_dq, hold_app, pIx2_l, pIx2_q, pLen2_l, pLen2_q, reduceIte, reduceCtorEq, Nat.reduceAdd, Nat.reduceLeDiff, Nat.reduceSub, Bool.not_true, Bool.not_false, decide_false, and_true, Option.map_some, Option.join_some, Option.bind_some])
  refine for_seq (fun i e => ∃ o : Option SV, e = [some (.d (dq (Rat.divInt t b))), some (.d (.int t)), some (.d (.int b)), o]) ⟨_, rfl⟩ ?_ ?_
  · rintro i x e hx ⟨o, rfl⟩
    obtain ⟨z, rfl⟩ : ∃ z, x = .int z := by
      match i, hx with
      | 0, hx => exact ⟨_, (Option.some.inj hx).symm⟩
      | 1, hx => exact ⟨_, (Option.some.inj hx).symm⟩
      | i + 2, hx => simp at hx
    (try simp only [pSeq, pNext, pNever, pRet, pRetV_o, oRetV_d, pIf, pAsg, pPar_o, oPar_2, pTest, asB_b, pNot, pOr, pAndV, pIfE, pOp, pI_i, pI0_i, pEqD, pNeD, pIxL_h, pU_i, pUn, pNil, pCons, pTup, pLst, pCB, pAbs_i, pMax_i, pMin_i, pIsi_o, oKit_s, tyD_int, tyD_bool, pVar_o, oVar_d, pVarV_o, oVarV_d, oVarV_o, oVarV_b, pC, pdat, asD_d, asD_o, pCall_h, pNilA, pConsD, pConsV, pConsS, asL_l, isSt_s, qName, qNil_n, qCons_c, pWhile, pIterV_o, oIterV_d, asSeq_dq, pRng1_o, oRng1_i, pFor, List.map_cons, List.map_nil, List.replicate_succ, List.replicate_zero, List.cons_append, List.nil_append, List.getElem?_cons_zero, List.getElem?_cons_succ, List.set_cons_zero, List.set_cons_succ, List.length_cons, List.length_nil, pGet0, pGet1, pIx_dq0, pIx_dq1, lay_int, lay_bool, dep_int, dep_bool, lay_dq, dep_dq, eqv_int, eqv_dq, tyD_dq, decide_eq_true_eq, Bool.not_eq_true', decide_eq_false_iff_not, ite_not, true_and, Nat.zero_le, Int.zero_add, List.length_map, kit_tt, kit_ib, kit_bb, kit_ii, Bool.true_eq_false, Bool.false_eq_true, decide_true, eq_self, eqv_bool, pVarH_o, oVarH_d, pdatH, asH_d, pUnp_o, oUnp_d, qTup_dq, hold_app, pIx2_l, pIx2_q, pLen2_l, pLen2_q, reduceIte, reduceCtorEq, Nat.reduceAdd, Nat.reduceLeDiff, Nat.reduceSub, Bool.not_true, Bool.not_false, decide_false, and_true, Option.map_some, Option.join_some, Option.bind_some])
    exact ⟨_, rfl⟩
  · rintro e ⟨o, rfl⟩
    (try simp only [pSeq, pNext, pNever, pRet, pRetV_o, oRetV_d, pIf, pAsg, pPar_o, oPar_2, pTest, asB_b, pNot, pOr, pAndV, pIfE, pOp, pI_i, pI0_i, pEqD, pNeD, pIxL_h, pU_i, pUn, pNil, pCons, pTup, pLst, pCB, pAbs_i, pMax_i, pMin_i, pIsi_o, oKit_s, tyD_int, tyD_bool, pVar_o, oVar_d, pVarV_o, oVarV_d, oVarV_o, oVarV_b, pC, pdat, asD_d, asD_o, pCall_h, pNilA, pConsD, pConsV, pConsS, asL_l, isSt_s, qName, qNil_n, qCons_c, pWhile, pIterV_o, oIterV_d, asSeq_dq, pRng1_o, oRng1_i, pFor, List.map_cons, List.map_nil, List.replicate_succ, List.replicate_zero, List.cons_append, List.nil_append, List.getElem?_cons_zero, List.getElem?_cons_succ, List.set_cons_zero, List.set_cons_succ, List.length_cons, List.length_nil, pGet0, pGet1, pIx_dq0, pIx_dq1, lay_int, lay_bool, dep_int, dep_bool, lay_dq, dep_dq, eqv_int, eqv_dq, tyD_dq, decide_eq_true_eq, Bool.not_eq_true', decide_eq_false_iff_not, ite_not, true_and, Nat.zero_le, Int.zero_add, List.length_map, kit_tt, kit_ib, kit_bb, kit_ii, Bool.true_eq_false, Bool.false_eq_true, decide_true, eq_self, eqv_bool, pVarH_o, oVarH_d, pdatH, asH_d, pUnp_o, oUnp_d, qTup_dq, hold_app, pIx2_l, pIx2_q, pLen2_l, pLen2_q, reduceIte, reduceCtorEq, Nat.reduceAdd, Nat.reduceLeDiff, Nat.reduceSub, Bool.not_true, Bool.not_false, decide_false, and_true, Option.map_some, Option.join_some, Option.bind_some])
    refine ite2 (fun h => ?_) (fun h => ?_)
    · (try simp only [pSeq, pNext, pNever, pRet, pRetV_o, oRetV_d, pIf, pAsg, pPar_o, oPar_2, pTest, asB_b, pNot, pOr, pAndV, pIfE, pOp, pI_i, pI0_i, pEqD, pNeD, pIxL_h, pU_i, pUn, pNil, pCons, pTup, pLst, pCB, pAbs_i, pMax_i, pMin_i, pIsi_o, oKit_s, tyD_int, tyD_bool, pVar_o, oVar_d, pVarV_o, oVarV_d, oVarV_o, oVarV_b, pC, pdat, asD_d, asD_o, pCall_h, pNilA, pConsD, pConsV, pConsS, asL_l, isSt_s, qName, qNil_n, qCons_c, pWhile, pIterV_o, oIterV_d, asSeq_dq, pRng1_o, oRng1_i, pFor, List.map_cons, List.map_nil, List.replicate_succ, List.replicate_zero, List.cons_append, List.nil_append, List.getElem?_cons_zero, List.getElem?_cons_succ, List.set_cons_zero, List.set_cons_succ, List.length_cons, List.length_nil, pGet0, pGet1, pIx_dq0, pIx_dq1, lay_int, lay_bool, dep_int, dep_bool, lay_dq, dep_dq, eqv_int, eqv_dq, tyD_dq, decide_eq_true_eq, Bool.not_eq_true', decide_eq_false_iff_not, ite_not, true_and, Nat.zero_le, Int.zero_add, List.length_map, kit_tt, kit_ib, kit_bb, kit_ii, Bool.true_eq_false, Bool.false_eq_true, decide_true, eq_self, eqv_bool, pVarH_o, oVarH_d, pdatH, asH_d, pUnp_o, oUnp_d, qTup_dq, hold_app, pIx2_l, pIx2_q, pLen2_l, pLen2_q, reduceIte, reduceCtorEq, Nat.reduceAdd, Nat.reduceLeDiff, Nat.reduceSub, Bool.not_true, Bool.not_false, decide_false, and_true, Option.map_some, Option.join_some, Option.bind_some])
      have e1 : Rat.divInt (0 - t) (0 - b) = Rat.divInt t b := by rw [Int.zero_sub, Int.zero_sub, Rat.neg_divInt_neg]
      refine ⟨0 - t, 0 - b, rfl, by omega, by unfold Sm at *; omega, by unfold Sm at *; omega, ?_⟩
      rw [e1]
      (try simp only [pSeq, pNext, pNever, pRet, pRetV_o, oRetV_d, pIf, pAsg, pPar_o, oPar_2, pTest, asB_b, pNot, pOr, pAndV, pIfE, pOp, pI_i, pI0_i, pEqD, pNeD, pIxL_h, pU_i, pUn, pNil, pCons, pTup, pLst, pCB, pAbs_i, pMax_i, pMin_i, pIsi_o, oKit_s, tyD_int, tyD_bool, pVar_o, oVar_d, pVarV_o, oVarV_d, oVarV_o, oVarV_b, pC, pdat, asD_d, asD_o, pCall_h, pNilA, pConsD, pConsV, pConsS, asL_l, isSt_s, qName, qNil_n, qCons_c, pWhile, pIterV_o, oIterV_d, asSeq_dq, pRng1_o, oRng1_i, pFor, List.map_cons, List.map_nil, List.replicate_succ, List.replicate_zero, List.cons_append, List.nil_append, List.getElem?_cons_zero, List.getElem?_cons_succ, List.set_cons_zero, List.set_cons_succ, List.length_cons, List.length_nil, pGet0, pGet1, pIx_dq0, pIx_dq1, lay_int, lay_bool, dep_int, dep_bool, lay_dq, dep_dq, eqv_int, eqv_dq, tyD_dq, decide_eq_true_eq, Bool.not_eq_true', decide_eq_false_iff_not, ite_not, true_and, Nat.zero_le, Int.zero_add, List.length_map, kit_tt, kit_ib, kit_bb, kit_ii, Bool.true_eq_false, Bool.false_eq_true, decide_true, eq_self, eqv_bool, pVarH_o, oVarH_d, pdatH, asH_d, pUnp_o, oUnp_d, qTup_dq, hold_app, pIx2_l, pIx2_q, pLen2_l, pLen2_q, reduceIte, reduceCtorEq, Nat.reduceAdd, Nat.reduceLeDiff, Nat.reduceSub, Bool.not_true, Bool.not_false, decide_false, and_true, Option.map_some, Option.join_some, Option.bind_some])
      exact k
    · (try simp only [pSeq, pNext, pNever, pRet, pRetV_o, oRetV_d, pIf, pAsg, pPar_o, oPar_2, pTest, asB_b, pNot, pOr, pAndV, pIfE, pOp, pI_i, pI0_i, pEqD, pNeD, pIxL_h, pU_i, pUn, pNil, pCons, pTup, pLst, pCB, pAbs_i, pMax_i, pMin_i, pIsi_o, oKit_s, tyD_int, tyD_bool, pVar_o, oVar_d, pVarV_o, oVarV_d, oVarV_o, oVarV_b, pC, pdat, asD_d, asD_o, pCall_h, pNilA, pConsD, pConsV, pConsS, asL_l, isSt_s, qName, qNil_n, qCons_c, pWhile, pIterV_o, oIterV_d, asSeq_dq, pRng1_o, oRng1_i, pFor, List.map_cons, List.map_nil, List.replicate_succ, List.replicate_zero, List.cons_append, List.nil_append, List.getElem?_cons_zero, List.getElem?_cons_succ, List.set_cons_zero, List.set_cons_succ, List.length_cons, List.length_nil, pGet0, pGet1, pIx_dq0, pIx_dq1, lay_int, lay_bool, dep_int, dep_bool, lay_dq, dep_dq, eqv_int, eqv_dq, tyD_dq, decide_eq_true_eq, Bool.not_eq_true', decide_eq_false_iff_not, ite_not, true_and, Nat.zero_le, Int.zero_add, List.length_map, kit_tt, kit_ib, kit_bb, kit_ii, Bool.true_eq_false, Bool.false_eq_true, decide_true, eq_self, eqv_bool, pVarH_o, oVarH_d, pdatH, asH_d, pUnp_o, oUnp_d, qTup_dq, hold_app, pIx2_l, pIx2_q, pLen2_l, pLen2_q, reduceIte, reduceCtorEq, Nat.reduceAdd, Nat.reduceLeDiff, Nat.reduceSub, Bool.not_true, Bool.not_false, decide_false, and_true, Option.map_some, Option.join_some, Option.bind_some])
      refine ⟨t, b, rfl, by omega, st.mono (by decide), sb.mono (by decide), ?_⟩
      (try simp only [pSeq, pNext, pNever, pRet, pRetV_o, oRetV_d, pIf, pAsg, pPar_o, oPar_2, pTest, asB_b, pNot, pOr, pAndV, pIfE, pOp, pI_i, pI0_i, pEqD, pNeD, pIxL_h, pU_i, pUn, pNil, pCons, pTup, pLst, pCB, pAbs_i, pMax_i, pMin_i, pIsi_o, oKit_s, tyD_int, tyD_bool, pVar_o, oVar_d, pVarV_o, oVarV_d, oVarV_o, oVarV_b, pC, pdat, asD_d, asD_o, pCall_h, pNilA, pConsD, pConsV, pConsS, asL_l, isSt_s, qName, qNil_n, qCons_c, pWhile, pIterV_o, oIterV_d, asSeq_dq, pRng1_o, oRng1_i, pFor, List.map_cons, List.map_nil, List.replicate_succ, List.replicate_zero, List.cons_append, List.nil_append, List.getElem?_cons_zero, List.getElem?_cons_succ, List.set_cons_zero, List.set_cons_succ, List.length_cons, List.length_nil, pGet0, pGet1, pIx_dq0, pIx_dq1, lay_int, lay_bool, dep_int, dep_bool, lay_dq, dep_dq, eqv_int, eqv_dq, tyD_dq, decide_eq_true_eq, Bool.not_eq_true', decide_eq_false_iff_not, ite_not, true_and, Nat.zero_le, Int.zero_add, List.length_map, kit_tt, kit_ib, kit_bb, kit_ii, Bool.true_eq_false, Bool.false_eq_true, decide_true, eq_self, eqv_bool, pVarH_o, oVarH_d, pdatH, asH_d, pUnp_o, oUnp_d, qTup_dq, hold_app, pIx2_l, pIx2_q, pLen2_l, pLen2_q, reduceIte, reduceCtorEq, Nat.reduceAdd, Nat.reduceLeDiff, Nat.reduceSub, Bool.not_true, Bool.not_false, decide_false, and_true, Option.map_some, Option.join_some, Option.bind_some])
      exact k
def ps_Lnoparts : Pu.PSp := fun as Q => ∃ p : Rat, as = [.d (dq p), .d (dq 0)] ∧ Q (.d (.bool true))
theorem ok_Lnoparts (T : Txt K mg D) : FnOk P w K mg base CX0 4 D.a_Lnoparts D.d_Lnoparts ["_law_one", "_law_other"] (Pu.spOf K [.dat, .dat] ps_Lnoparts) := by
  refine T.F_Lnoparts.ok sc_Lnoparts (Pu.spOf.len rfl) (fun cdv A outer s H vs Q E hr h => ?_)
  refine ⟨_, (QSs.out (qpss_cons (qps_try (C := D.k_NoNumber) (i := 2) (b := true) (okx_parted (K := K) T) (hr.mono (by first | decide | omega)) (by rfl) T.m_parted T.F_parted.kp (b_parted T) (qpa_cons (qpv 0) (qpa_cons (qpv 1) qpa_nil)) (by rfl) T.c_HurryError T.xm_NoNumber_HurryError sc_Lnoparts.nd (by rfl) (by rfl) (fun _ _ he => (ks_skip (KE.t (ke_ist he (ExC.of T.xga_NoNumber T.xgn_NoNumber T.xgc_NoNumber T.xsb_NoNumber T.xso_NoNumber T.xhd_NoNumber T.xty_NoNumber) (by rfl) T.z_isinstance (by rfl) (Or.inl (by rfl)) (kcs_cons (kc_own (by rfl) T.c_NoChange) (kcs_cons (kc_own (by rfl) T.c_NoDeed) (kcs_cons (kc_own (by rfl) T.c_NoDiary) (kcs_cons (kc_own (by rfl) T.c_NoJoin) (kcs_cons (kc_own (by rfl) T.c_NoName) (kcs_cons (kc_own (by rfl) T.c_NoNet) (kcs_cons (kc_own (by rfl) T.c_NoPaper) (kcs_cons (kc_own (by rfl) T.c_NoRow) kcs_nil)))))))) T.xt_NoNumber_NoChange_NoDeed_NoDiary_NoJoin_NoName_NoNet_NoPaper_NoRow (Nat.le_of_ble_eq_true rfl))) (ks_skip (KE.t (ke_ist he (ExC.of T.xga_NoNumber T.xgn_NoNumber T.xgc_NoNumber T.xsb_NoNumber T.xso_NoNumber T.xhd_NoNumber T.xty_NoNumber) (by rfl) T.z_isinstance (by rfl) (Or.inl (by rfl)) (kcs_cons (kc_own (by rfl) T.c_NoText) (kcs_cons (kc_own (by rfl) T.c_NoTime) (kcs_cons (kc_own (by rfl) T.c_NoTree) (kcs_cons (kc_own (by rfl) T.c_NotSteps) (kcs_cons (kc_own (by rfl) T.c_NotStraight) (kcs_cons (kc_own (by rfl) T.c_TooMany) (kcs_cons (kc_own (by rfl) T.c_Unbalanced) kcs_nil))))))) T.xt_NoNumber_NoText_NoTime_NoTree_NotSteps_NotStraight_TooMany_Unbalanced (Nat.le_of_ble_eq_true rfl))) (ks_ret (ke_and (ke_is he (ExC.of T.xga_NoNumber T.xgn_NoNumber T.xgc_NoNumber T.xsb_NoNumber T.xso_NoNumber T.xhd_NoNumber T.xty_NoNumber) (by rfl) T.z_isinstance (by rfl) (Or.inl (by rfl)) (kc_own (by rfl) T.c_NoNumber) T.xi_NoNumber_NoNumber) (ke_one (ke_is he (ExC.of T.xga_NoNumber T.xgn_NoNumber T.xgc_NoNumber T.xsb_NoNumber T.xso_NoNumber T.xhd_NoNumber T.xty_NoNumber) (by rfl) T.z_isinstance (by rfl) (Or.inl (by rfl)) (kc_ty (by rfl) T.z_ValueError (by rfl)) T.xi_NoNumber_ValueError))))))))
      (qpss_one (qps_ret qpe_bl)))), ?_⟩
  refine Pu.enter h ?_
  rintro as Qp ⟨p, rfl, k⟩
  (try simp only [pSeq, pNext, pNever, pRet, pRetV_o, oRetV_d, pIf, pAsg, pPar_o, oPar_2, pTest, asB_b, pNot, pOr, pAndV, pIfE, pOp, pI_i, pI0_i, pEqD, pNeD, pIxL_h, pU_i, pUn, pNil, pCons, pTup, pLst, pCB, pAbs_i, pMax_i, pMin_i, pIsi_o, oKit_s, tyD_int, tyD_bool, pVar_o, oVar_d, pVarV_o, oVarV_d, oVarV_o, oVarV_b, pC, pdat, asD_d, asD_o, pCall_h, pNilA, pConsD, pConsV, pConsS, asL_l, isSt_s, qName, qNil_n, qCons_c, pWhile, pIterV_o, oIterV_d, asSeq_dq, pRng1_o, oRng1_i, pFor, List.map_cons, List.map_nil, List.replicate_succ, List.replicate_zero, List.cons_append, List.nil_append, List.getElem?_cons_zero, List.getElem?_cons_succ, List.set_cons_zero, List.set_cons_succ, List.length_cons, List.length_nil, pGet0, pGet1, pIx_dq0, pIx_dq1, lay_int, lay_bool, dep_int, dep_bool, lay_dq, dep_dq, eqv_int, eqv_dq, tyD_dq, decide_eq_true_eq, Bool.not_eq_true', decide_eq_false_iff_not, ite_not, true_and, Nat.zero_le, Int.zero_add, List.length_map, kit_tt, kit_ib, kit_bb, kit_ii, Bool.true_eq_false, Bool.false_eq_true, decide_true, eq_self, eqv_bool, pVarH_o, oVarH_d, pdatH, asH_d, pUnp_o, oUnp_d, qTup_dq, hold_app, pIx2_l, pIx2_q, pLen2_l, pLen2_q, reduceIte, reduceCtorEq, Nat.reduceAdd, Nat.reduceLeDiff, Nat.reduceSub, Bool.not_true, Bool.not_false, decide_false, and_true, Option.map_some, Option.join_some, Option.bind_some])
  unfold pTryR
  (try simp only [pSeq, pNext, pNever, pRet, pRetV_o, oRetV_d, pIf, pAsg, pPar_o, oPar_2, pTest, asB_b, pNot, pOr, pAndV, pIfE, pOp, pI_i, pI0_i, pEqD, pNeD, pIxL_h, pU_i, pUn, pNil, pCons, pTup, pLst, pCB, pAbs_i, pMax_i, pMin_i, pIsi_o, oKit_s, tyD_int, tyD_bool, pVar_o, oVar_d, pVarV_o, oVarV_d, oVarV_o, oVarV_b, pC, pdat, asD_d, asD_o, pCall_h, pNilA, pConsD, pConsV, pConsS, asL_l, isSt_s, qName, qNil_n, qCons_c, pWhile, pIterV_o, oIterV_d, asSeq_dq, pRng1_o, oRng1_i, pFor, List.map_cons, List.map_nil, List.replicate_succ, List.replicate_zero, List.cons_append, List.nil_append, List.getElem?_cons_zero, List.getElem?_cons_succ, List.set_cons_zero, List.set_cons_succ, List.length_cons, List.length_nil, pGet0, pGet1, pIx_dq0, pIx_dq1, lay_int, lay_bool, dep_int, dep_bool, lay_dq, dep_dq, eqv_int, eqv_dq, tyD_dq, decide_eq_true_eq, Bool.not_eq_true', decide_eq_false_iff_not, ite_not, true_and, Nat.zero_le, Int.zero_add, List.length_map, kit_tt, kit_ib, kit_bb, kit_ii, Bool.true_eq_false, Bool.false_eq_true, decide_true, eq_self, eqv_bool, pVarH_o, oVarH_d, pdatH, asH_d, pUnp_o, oUnp_d, qTup_dq, hold_app, pIx2_l, pIx2_q, pLen2_l, pLen2_q, reduceIte, reduceCtorEq, Nat.reduceAdd, Nat.reduceLeDiff, Nat.reduceSub, Bool.not_true, Bool.not_false, decide_false, and_true, Option.map_some, Option.join_some, Option.bind_some])
  exact ⟨⟨p, rfl⟩, k⟩
def ps_Lasked : Pu.PSp := fun as Q => ∃ p q : Rat, as = [.d (dq p), .d (dq q)] ∧ SmQ 250 p ∧ SmQ 250 q ∧ Q (.d (.bool true))
theorem ok_Lasked (T : Txt K mg D) : FnOk P w K mg base CX0 5 D.a_Lasked D.d_Lasked ["_law_one", "_law_other"] (Pu.spOf K [.dat, .dat] ps_Lasked) := by
  refine T.F_Lasked.ok sc_Lasked (Pu.spOf.len rfl) (fun cdv A outer s H vs Q E hr h => ?_)
  refine ⟨_, (QSs.out (qpss_cons (qps_asg (qpv 0) (qpg_tupK (K := K) (n := 2) rfl rfl (qpgs_cons (qpg_name (i := 2) sc_Lasked.nd rfl (Or.inl rfl) (Or.inl rfl)) (qpgs_cons (qpg_name (i := 3) sc_Lasked.nd rfl (Or.inl rfl) (Or.inl rfl)) qpgs_nil)) rfl rfl))
      (qpss_cons (qps_asg (qpv 1) (qpg_tupK (K := K) (n := 2) rfl rfl (qpgs_cons (qpg_name (i := 4) sc_Lasked.nd rfl (Or.inl rfl) (Or.inl rfl)) (qpgs_cons (qpg_name (i := 5) sc_Lasked.nd rfl (Or.inl rfl) (Or.inl rfl)) qpgs_nil)) rfl rfl))
      (qpss_cons (qps_if (QW.pt (qpw_or (qpt_not (qpt_val (qpe_call (ok_Lis (K := K) T) (hr.mono (by first | decide | omega)) rfl T.m_Lis T.F_Lis.kp (b_Lis T) .nil pass0 (qpa_cons (qpe_call (ok_plus (K := K) T) (hr.mono (by first | decide | omega)) rfl T.m_plus T.F_plus.kp (b_plus T) .nil pass0 (qpa_cons (qpv 0) (qpa_cons (qpv 1) qpa_nil))) (qpa_cons (qpe_op op_add (qpe_op op_mulB (qpv 2) (qpv 5)) (qpe_op op_mulB (qpv 4) (qpv 3))) (qpa_cons (qpe_op op_mulB (qpv 3) (qpv 5)) qpa_nil)))))) (qpw_or1 (qpt_not (qpt_val (qpe_call (ok_Lis (K := K) T) (hr.mono (by first | decide | omega)) rfl T.m_Lis T.F_Lis.kp (b_Lis T) .nil pass0 (qpa_cons (qpe_call (ok_minus (K := K) T) (hr.mono (by first | decide | omega)) rfl T.m_minus T.F_minus.kp (b_minus T) .nil pass0 (qpa_cons (qpv 0) (qpa_cons (qpv 1) qpa_nil))) (qpa_cons (qpe_op op_sub (qpe_op op_mulB (qpv 2) (qpv 5)) (qpe_op op_mulB (qpv 4) (qpv 3))) (qpa_cons (qpe_op op_mulB (qpv 3) (qpv 5)) qpa_nil)))))))))
        (qpss_one (qps_ret qpe_bl))
        qpss_nil)
      (qpss_cons (qps_if (qpt_not (qpt_val (qpe_call (ok_Lis (K := K) T) (hr.mono (by first | decide | omega)) rfl T.m_Lis T.F_Lis.kp (b_Lis T) .nil pass0 (qpa_cons (qpe_call (ok_product (K := K) T) (hr.mono (by first | decide | omega)) rfl T.m_product T.F_product.kp (b_product T) .nil pass0 (qpa_cons (qpv 0) (qpa_cons (qpv 1) qpa_nil))) (qpa_cons (qpe_op op_mulB (qpv 2) (qpv 4)) (qpa_cons (qpe_op op_mulB (qpv 3) (qpv 5)) qpa_nil))))))
        (qpss_one (qps_ret qpe_bl))
        qpss_nil)
      (qpss_cons (qps_if (qpt_cmpR (op_eqDK (K := K) rfl hr.units) (qpv 4) qpe_int (nomark _))
        (qpss_one (qps_if (qpt_not (qpt_val (qpe_call (ok_Lnoparts (K := K) T) (hr.mono (by first | decide | omega)) rfl T.m_Lnoparts T.F_Lnoparts.kp (b_Lnoparts T) .nil pass0 (qpa_cons (qpv 0) (qpa_cons (qpv 1) qpa_nil)))))
          (qpss_one (qps_ret qpe_bl))
          qpss_nil))
        (qpss_one (qps_if (qpt_not (qpt_val (qpe_call (ok_Lis (K := K) T) (hr.mono (by first | decide | omega)) rfl T.m_Lis T.F_Lis.kp (b_Lis T) .nil pass0 (qpa_cons (qpe_call (ok_parted (K := K) T) (hr.mono (by first | decide | omega)) rfl T.m_parted T.F_parted.kp (b_parted T) .nil pass0 (qpa_cons (qpv 0) (qpa_cons (qpv 1) qpa_nil))) (qpa_cons (qpe_op op_mulB (qpv 2) (qpv 5)) (qpa_cons (qpe_op op_mulB (qpv 3) (qpv 4)) qpa_nil))))))
          (qpss_one (qps_ret qpe_bl))
          qpss_nil)))
      (qpss_cons (qps_set (i := 6) sc_Lasked.nd rfl (Or.inl rfl) (qpe_call (ok_isless (K := K) T) (hr.mono (by first | decide | omega)) rfl T.m_isless T.F_isless.kp (b_isless T) .nil pass0 (qpa_cons (qpv 0) (qpa_cons (qpv 1) qpa_nil))))
      (qpss_cons (qps_if (QW.pt (qpw_or (qpt_not (qpt_val (qpe_callB (call_isiK (K := K) rfl) (by rfl) T.z_isinstance (by rfl) (qpa_cons (qpv 6) (qpa_cons (qpe_bltn (v := .ty "bool") rfl T.z_bool (by rfl) rfl) qpa_nil))))) (qpw_or1 (qpt_cmpR (op_neDK (K := K) rfl hr.units) (qpv 6) (qpe_cmpR op_lt (qpe_op op_mulB (qpv 2) (qpv 5)) (qpe_op op_mulB (qpv 4) (qpv 3)) (nomark _)) (nomark _)))))
        (qpss_one (qps_ret qpe_bl))
        qpss_nil)
      (qpss_cons (qps_set (i := 7) sc_Lasked.nd rfl (Or.inl rfl) (qpe_lst (qpa_cons (qpv 0) (qpa_cons (qpv 1) qpa_nil))))
      (qpss_cons (qps_if (qpt_val (qpv 6))
        (qpss_one (qps_set (i := 7) sc_Lasked.nd rfl (Or.inl rfl) (qpe_lst (qpa_cons (qpv 1) (qpa_cons (qpv 0) qpa_nil)))))
        qpss_nil)
      (qpss_one (qps_ret (qpe_and (qpe_call (ok_Lis (K := K) T) (hr.mono (by first | decide | omega)) rfl T.m_Lis T.F_Lis.kp (b_Lis T) .nil pass0 (qpa_cons (qpe_call (ok_larger (K := K) T) (hr.mono (by first | decide | omega)) rfl T.m_larger T.F_larger.kp (b_larger T) .nil pass0 (qpa_cons (qpv 0) (qpa_cons (qpv 1) qpa_nil))) (qpa_cons (qpe_ix (ix_seqK (K := K) rfl) (qpe_ix (ix_seqK (K := K) rfl) (qpv 7) qpe_int (fun _ _ => rfl)) qpe_int (fun _ _ => rfl)) (qpa_cons (qpe_ix (ix_seqK (K := K) rfl) (qpe_ix (ix_seqK (K := K) rfl) (qpv 7) qpe_int (fun _ _ => rfl)) qpe_int (fun _ _ => rfl)) qpa_nil)))) (qpe_one (qpe_call (ok_Lis (K := K) T) (hr.mono (by first | decide | omega)) rfl T.m_Lis T.F_Lis.kp (b_Lis T) .nil pass0 (qpa_cons (qpe_call (ok_smaller (K := K) T) (hr.mono (by first | decide | omega)) rfl T.m_smaller T.F_smaller.kp (b_smaller T) .nil pass0 (qpa_cons (qpv 0) (qpa_cons (qpv 1) qpa_nil))) (qpa_cons (qpe_ix (ix_seqK (K := K) rfl) (qpe_ix (ix_seqK (K := K) rfl) (qpv 7) qpe_int (fun _ _ => rfl)) qpe_int (fun _ _ => rfl)) (qpa_cons (qpe_ix (ix_seqK (K := K) rfl) (qpe_ix (ix_seqK (K := K) rfl) (qpv 7) qpe_int (fun _ _ => rfl)) qpe_int (fun _ _ => rfl)) qpa_nil)))))))))))))))))), ?_⟩
  refine Pu.enter h ?_
  rintro as Qp ⟨p, q, rfl, sp, sq, k⟩
  (try simp only [pSeq, pNext, pNever, pRet, pRetV_o, oRetV_d, pIf, pAsg, pPar_o, oPar_2, pTest, asB_b, pNot, pOr, pAndV, pIfE, pOp, pI_i, pI0_i, pEqD, pNeD, pIxL_h, pU_i, pUn, pNil, pCons, pTup, pLst, pCB, pAbs_i, pMax_i, pMin_i, pIsi_o, oKit_s, tyD_int, tyD_bool, pVar_o, oVar_d, pVarV_o, oVarV_d, oVarV_o, oVarV_b, pC, pdat, asD_d, asD_o, pCall_h, pNilA, pConsD, pConsV, pConsS, asL_l, isSt_s, qName, qNil_n, qCons_c, pWhile, pIterV_o, oIterV_d, asSeq_dq, pRng1_o, oRng1_i, pFor, List.map_cons, List.map_nil, List.replicate_succ, List.replicate_zero, List.cons_append, List.nil_append, List.getElem?_cons_zero, List.getElem?_cons_succ, List.set_cons_zero, List.set_cons_succ, List.length_cons, List.length_nil, pGet0, pGet1, pIx_dq0, pIx_dq1, lay_int, lay_bool, dep_int, dep_bool, lay_dq, dep_dq, eqv_int, eqv_dq, tyD_dq, decide_eq_true_eq, Bool.not_eq_true', decide_eq_false_iff_not, ite_not, true_and, Nat.zero_le, Int.zero_add, List.length_map, kit_tt, kit_ib, kit_bb, kit_ii, Bool.true_eq_false, Bool.false_eq_true, decide_true, eq_self, eqv_bool, pVarH_o, oVarH_d, pdatH, asH_d, pUnp_o, oUnp_d, qTup_dq, hold_app, pIx2_l, pIx2_q, pLen2_l, pLen2_q, reduceIte, reduceCtorEq, Nat.reduceAdd, Nat.reduceLeDiff, Nat.reduceSub, Bool.not_true, Bool.not_false, decide_false, and_true, Option.map_some, Option.join_some, Option.bind_some])
  have sp' : SmQ 3900 p := ⟨sp.1.mono (by decide), sp.2.mono (by decide)⟩
  have sq' : SmQ 3900 q := ⟨sq.1.mono (by decide), sq.2.mono (by decide)⟩
  have p1 := sp.1.mono (l := 8000) (by decide)
  have p2 := sp.2.mono (l := 8000) (by decide)
  have q1 := sq.1.mono (l := 8000) (by decide)
  have q2 := sq.2.mono (l := 8000) (by decide)
  refine ⟨p, q, rfl, sp', sq', ?_⟩
  (try simp only [pSeq, pNext, pNever, pRet, pRetV_o, oRetV_d, pIf, pAsg, pPar_o, oPar_2, pTest, asB_b, pNot, pOr, pAndV, pIfE, pOp, pI_i, pI0_i, pEqD, pNeD, pIxL_h, pU_i, pUn, pNil, pCons, pTup, pLst, pCB, pAbs_i, pMax_i, pMin_i, pIsi_o, oKit_s, tyD_int, tyD_bool, pVar_o, oVar_d, pVarV_o, oVarV_d, oVarV_o, oVarV_b, pC, pdat, asD_d, asD_o, pCall_h, pNilA, pConsD, pConsV, pConsS, asL_l, isSt_s, qName, qNil_n, qCons_c, pWhile, pIterV_o, oIterV_d, asSeq_dq, pRng1_o, oRng1_i, pFor, List.map_cons, List.map_nil, List.replicate_succ, List.replicate_zero, List.cons_append, List.nil_append, List.getElem?_cons_zero, List.getElem?_cons_succ, List.set_cons_zero, List.set_cons_succ, List.length_cons, List.length_nil, pGet0, pGet1, pIx_dq0, pIx_dq1, lay_int, lay_bool, dep_int, dep_bool, lay_dq, dep_dq, eqv_int, eqv_dq, tyD_dq, decide_eq_true_eq, Bool.not_eq_true', decide_eq_false_iff_not, ite_not, true_and, Nat.zero_le, Int.zero_add, List.length_map, kit_tt, kit_ib, kit_bb, kit_ii, Bool.true_eq_false, Bool.false_eq_true, decide_true, eq_self, eqv_bool, pVarH_o, oVarH_d, pdatH, asH_d, pUnp_o, oUnp_d, qTup_dq, hold_app, pIx2_l, pIx2_q, pLen2_l, pLen2_q, reduceIte, reduceCtorEq, Nat.reduceAdd, Nat.reduceLeDiff, Nat.reduceSub, Bool.not_true, Bool.not_false, decide_false, and_true, Option.map_some, Option.join_some, Option.bind_some])
  rw [← q_add p q]
  refine ⟨⟨p1, q2⟩, ⟨q1, p2⟩, ⟨p2, q2⟩, _, _, rfl, Int.ne_of_gt (Int.mul_pos (denp p) (denp q)), ((sp.1.mul sq.2).add (sq.1.mul sp.2)).mono (by decide), (sp.2.mul sq.2).mono (by decide), ?_⟩
  (try simp only [pSeq, pNext, pNever, pRet, pRetV_o, oRetV_d, pIf, pAsg, pPar_o, oPar_2, pTest, asB_b, pNot, pOr, pAndV, pIfE, pOp, pI_i, pI0_i, pEqD, pNeD, pIxL_h, pU_i, pUn, pNil, pCons, pTup, pLst, pCB, pAbs_i, pMax_i, pMin_i, pIsi_o, oKit_s, tyD_int, tyD_bool, pVar_o, oVar_d, pVarV_o, oVarV_d, oVarV_o, oVarV_b, pC, pdat, asD_d, asD_o, pCall_h, pNilA, pConsD, pConsV, pConsS, asL_l, isSt_s, qName, qNil_n, qCons_c, pWhile, pIterV_o, oIterV_d, asSeq_dq, pRng1_o, oRng1_i, pFor, List.map_cons, List.map_nil, List.replicate_succ, List.replicate_zero, List.cons_append, List.nil_append, List.getElem?_cons_zero, List.getElem?_cons_succ, List.set_cons_zero, List.set_cons_succ, List.length_cons, List.length_nil, pGet0, pGet1, pIx_dq0, pIx_dq1, lay_int, lay_bool, dep_int, dep_bool, lay_dq, dep_dq, eqv_int, eqv_dq, tyD_dq, decide_eq_true_eq, Bool.not_eq_true', decide_eq_false_iff_not, ite_not, true_and, Nat.zero_le, Int.zero_add, List.length_map, kit_tt, kit_ib, kit_bb, kit_ii, Bool.true_eq_false, Bool.false_eq_true, decide_true, eq_self, eqv_bool, pVarH_o, oVarH_d, pdatH, asH_d, pUnp_o, oUnp_d, qTup_dq, hold_app, pIx2_l, pIx2_q, pLen2_l, pLen2_q, reduceIte, reduceCtorEq, Nat.reduceAdd, Nat.reduceLeDiff, Nat.reduceSub, Bool.not_true, Bool.not_false, decide_false, and_true, Option.map_some, Option.join_some, Option.bind_some])
  refine ⟨p, q, rfl, sp', sq', ?_⟩
  (try simp only [pSeq, pNext, pNever, pRet, pRetV_o, oRetV_d, pIf, pAsg, pPar_o, oPar_2, pTest, asB_b, pNot, pOr, pAndV, pIfE, pOp, pI_i, pI0_i, pEqD, pNeD, pIxL_h, pU_i, pUn, pNil, pCons, pTup, pLst, pCB, pAbs_i, pMax_i, pMin_i, pIsi_o, oKit_s, tyD_int, tyD_bool, pVar_o, oVar_d, pVarV_o, oVarV_d, oVarV_o, oVarV_b, pC, pdat, asD_d, asD_o, pCall_h, pNilA, pConsD, pConsV, pConsS, asL_l, isSt_s, qName, qNil_n, qCons_c, pWhile, pIterV_o, oIterV_d, asSeq_dq, pRng1_o, oRng1_i, pFor, List.map_cons, List.map_nil, List.replicate_succ, List.replicate_zero, List.cons_append, List.nil_append, List.getElem?_cons_zero, List.getElem?_cons_succ, List.set_cons_zero, List.set_cons_succ, List.length_cons, List.length_nil, pGet0, pGet1, pIx_dq0, pIx_dq1, lay_int, lay_bool, dep_int, dep_bool, lay_dq, dep_dq, eqv_int, eqv_dq, tyD_dq, decide_eq_true_eq, Bool.not_eq_true', decide_eq_false_iff_not, ite_not, true_and, Nat.zero_le, Int.zero_add, List.length_map, kit_tt, kit_ib, kit_bb, kit_ii, Bool.true_eq_false, Bool.false_eq_true, decide_true, eq_self, eqv_bool, pVarH_o, oVarH_d, pdatH, asH_d, pUnp_o, oUnp_d, qTup_dq, hold_app, pIx2_l, pIx2_q, pLen2_l, pLen2_q, reduceIte, reduceCtorEq, Nat.reduceAdd, Nat.reduceLeDiff, Nat.reduceSub, Bool.not_true, Bool.not_false, decide_false, and_true, Option.map_some, Option.join_some, Option.bind_some])
  rw [← q_sub p q]
  refine ⟨⟨p1, q2⟩, ⟨q1, p2⟩, ⟨p2, q2⟩, _, _, rfl, Int.ne_of_gt (Int.mul_pos (denp p) (denp q)), ((sp.1.mul sq.2).sub (sq.1.mul sp.2)).mono (by decide), (sp.2.mul sq.2).mono (by decide), ?_⟩
  (try simp only [pSeq, pNext, pNever, pRet, pRetV_o, oRetV_d, pIf, pAsg, pPar_o, oPar_2, pTest, asB_b, pNot, pOr, pAndV, pIfE, pOp, pI_i, pI0_i, pEqD, pNeD, pIxL_h, pU_i, pUn, pNil, pCons, pTup, pLst, pCB, pAbs_i, pMax_i, pMin_i, pIsi_o, oKit_s, tyD_int, tyD_bool, pVar_o, oVar_d, pVarV_o, oVarV_d, oVarV_o, oVarV_b, pC, pdat, asD_d, asD_o, pCall_h, pNilA, pConsD, pConsV, pConsS, asL_l, isSt_s, qName, qNil_n, qCons_c, pWhile, pIterV_o, oIterV_d, asSeq_dq, pRng1_o, oRng1_i, pFor, List.map_cons, List.map_nil, List.replicate_succ, List.replicate_zero, List.cons_append, List.nil_append, List.getElem?_cons_zero, List.getElem?_cons_succ, List.set_cons_zero, List.set_cons_succ, List.length_cons, List.length_nil, pGet0, pGet1, pIx_dq0, pIx_dq1, lay_int, lay_bool, dep_int, dep_bool, lay_dq, dep_dq, eqv_int, eqv_dq, tyD_dq, decide_eq_true_eq, Bool.not_eq_true', decide_eq_false_iff_not, ite_not, true_and, Nat.zero_le, Int.zero_add, List.length_map, kit_tt, kit_ib, kit_bb, kit_ii, Bool.true_eq_false, Bool.false_eq_true, decide_true, eq_self, eqv_bool, pVarH_o, oVarH_d, pdatH, asH_d, pUnp_o, oUnp_d, qTup_dq, hold_app, pIx2_l, pIx2_q, pLen2_l, pLen2_q, reduceIte, reduceCtorEq, Nat.reduceAdd, Nat.reduceLeDiff, Nat.reduceSub, Bool.not_true, Bool.not_false, decide_false, and_true, Option.map_some, Option.join_some, Option.bind_some])
  refine ⟨p, q, rfl, sp', sq', ?_⟩
  (try simp only [pSeq, pNext, pNever, pRet, pRetV_o, oRetV_d, pIf, pAsg, pPar_o, oPar_2, pTest, asB_b, pNot, pOr, pAndV, pIfE, pOp, pI_i, pI0_i, pEqD, pNeD, pIxL_h, pU_i, pUn, pNil, pCons, pTup, pLst, pCB, pAbs_i, pMax_i, pMin_i, pIsi_o, oKit_s, tyD_int, tyD_bool, pVar_o, oVar_d, pVarV_o, oVarV_d, oVarV_o, oVarV_b, pC, pdat, asD_d, asD_o, pCall_h, pNilA, pConsD, pConsV, pConsS, asL_l, isSt_s, qName, qNil_n, qCons_c, pWhile, pIterV_o, oIterV_d, asSeq_dq, pRng1_o, oRng1_i, pFor, List.map_cons, List.map_nil, List.replicate_succ, List.replicate_zero, List.cons_append, List.nil_append, List.getElem?_cons_zero, List.getElem?_cons_succ, List.set_cons_zero, List.set_cons_succ, List.length_cons, List.length_nil, pGet0, pGet1, pIx_dq0, pIx_dq1, lay_int, lay_bool, dep_int, dep_bool, lay_dq, dep_dq, eqv_int, eqv_dq, tyD_dq, decide_eq_true_eq, Bool.not_eq_true', decide_eq_false_iff_not, ite_not, true_and, Nat.zero_le, Int.zero_add, List.length_map, kit_tt, kit_ib, kit_bb, kit_ii, Bool.true_eq_false, Bool.false_eq_true, decide_true, eq_self, eqv_bool, pVarH_o, oVarH_d, pdatH, asH_d, pUnp_o, oUnp_d, qTup_dq, hold_app, pIx2_l, pIx2_q, pLen2_l, pLen2_q, reduceIte, reduceCtorEq, Nat.reduceAdd, Nat.reduceLeDiff, Nat.reduceSub, Bool.not_true, Bool.not_false, decide_false, and_true, Option.map_some, Option.join_some, Option.bind_some])
  rw [← q_mul p q]
  refine ⟨⟨p1, q1⟩, ⟨p2, q2⟩, _, _, rfl, Int.ne_of_gt (Int.mul_pos (denp p) (denp q)), (sp.1.mul sq.1).mono (by decide), (sp.2.mul sq.2).mono (by decide), ?_⟩
  (try simp only [pSeq, pNext, pNever, pRet, pRetV_o, oRetV_d, pIf, pAsg, pPar_o, oPar_2, pTest, asB_b, pNot, pOr, pAndV, pIfE, pOp, pI_i, pI0_i, pEqD, pNeD, pIxL_h, pU_i, pUn, pNil, pCons, pTup, pLst, pCB, pAbs_i, pMax_i, pMin_i, pIsi_o, oKit_s, tyD_int, tyD_bool, pVar_o, oVar_d, pVarV_o, oVarV_d, oVarV_o, oVarV_b, pC, pdat, asD_d, asD_o, pCall_h, pNilA, pConsD, pConsV, pConsS, asL_l, isSt_s, qName, qNil_n, qCons_c, pWhile, pIterV_o, oIterV_d, asSeq_dq, pRng1_o, oRng1_i, pFor, List.map_cons, List.map_nil, List.replicate_succ, List.replicate_zero, List.cons_append, List.nil_append, List.getElem?_cons_zero, List.getElem?_cons_succ, List.set_cons_zero, List.set_cons_succ, List.length_cons, List.length_nil, pGet0, pGet1, pIx_dq0, pIx_dq1, lay_int, lay_bool, dep_int, dep_bool, lay_dq, dep_dq, eqv_int, eqv_dq, tyD_dq, decide_eq_true_eq, Bool.not_eq_true', decide_eq_false_iff_not, ite_not, true_and, Nat.zero_le, Int.zero_add, List.length_map, kit_tt, kit_ib, kit_bb, kit_ii, Bool.true_eq_false, Bool.false_eq_true, decide_true, eq_self, eqv_bool, pVarH_o, oVarH_d, pdatH, asH_d, pUnp_o, oUnp_d, qTup_dq, hold_app, pIx2_l, pIx2_q, pLen2_l, pLen2_q, reduceIte, reduceCtorEq, Nat.reduceAdd, Nat.reduceLeDiff, Nat.reduceSub, Bool.not_true, Bool.not_false, decide_false, and_true, Option.map_some, Option.join_some, Option.bind_some])
  refine two (G := ?G) ?g ?a ?b
  case a =>
    intro h kk
    have hq : q = 0 := Rat.num_eq_zero.mp h
    refine ⟨p, by rw [hq], ?_⟩
    (try simp only [pSeq, pNext, pNever, pRet, pRetV_o, oRetV_d, pIf, pAsg, pPar_o, oPar_2, pTest, asB_b, pNot, pOr, pAndV, pIfE, pOp, pI_i, pI0_i, pEqD, pNeD, pIxL_h, pU_i, pUn, pNil, pCons, pTup, pLst, pCB, pAbs_i, pMax_i, pMin_i, pIsi_o, oKit_s, tyD_int, tyD_bool, pVar_o, oVar_d, pVarV_o, oVarV_d, oVarV_o, oVarV_b, pC, pdat, asD_d, asD_o, pCall_h, pNilA, pConsD, pConsV, pConsS, asL_l, isSt_s, qName, qNil_n, qCons_c, pWhile, pIterV_o, oIterV_d, asSeq_dq, pRng1_o, oRng1_i, pFor, List.map_cons, List.map_nil, List.replicate_succ, List.replicate_zero, List.cons_append, List.nil_append, List.getElem?_cons_zero, List.getElem?_cons_succ, List.set_cons_zero, List.set_cons_succ, List.length_cons, List.length_nil, pGet0, pGet1, pIx_dq0, pIx_dq1, lay_int, lay_bool, dep_int, dep_bool, lay_dq, dep_dq, eqv_int, eqv_dq, tyD_dq, decide_eq_true_eq, Bool.not_eq_true', decide_eq_false_iff_not, ite_not, true_and, Nat.zero_le, Int.zero_add, List.length_map, kit_tt, kit_ib, kit_bb, kit_ii, Bool.true_eq_false, Bool.false_eq_true, decide_true, eq_self, eqv_bool, pVarH_o, oVarH_d, pdatH, asH_d, pUnp_o, oUnp_d, qTup_dq, hold_app, pIx2_l, pIx2_q, pLen2_l, pLen2_q, reduceIte, reduceCtorEq, Nat.reduceAdd, Nat.reduceLeDiff, Nat.reduceSub, Bool.not_true, Bool.not_false, decide_false, and_true, Option.map_some, Option.join_some, Option.bind_some])
    exact kk
  case b =>
    intro h kk
    refine ⟨p, q, rfl, sp', sq', fun z => h (by rw [z]; rfl), ?_⟩
    (try simp only [pSeq, pNext, pNever, pRet, pRetV_o, oRetV_d, pIf, pAsg, pPar_o, oPar_2, pTest, asB_b, pNot, pOr, pAndV, pIfE, pOp, pI_i, pI0_i, pEqD, pNeD, pIxL_h, pU_i, pUn, pNil, pCons, pTup, pLst, pCB, pAbs_i, pMax_i, pMin_i, pIsi_o, oKit_s, tyD_int, tyD_bool, pVar_o, oVar_d, pVarV_o, oVarV_d, oVarV_o, oVarV_b, pC, pdat, asD_d, asD_o, pCall_h, pNilA, pConsD, pConsV, pConsS, asL_l, isSt_s, qName, qNil_n, qCons_c, pWhile, pIterV_o, oIterV_d, asSeq_dq, pRng1_o, oRng1_i, pFor, List.map_cons, List.map_nil, List.replicate_succ, List.replicate_zero, List.cons_append, List.nil_append, List.getElem?_cons_zero, List.getElem?_cons_succ, List.set_cons_zero, List.set_cons_succ, List.length_cons, List.length_nil, pGet0, pGet1, pIx_dq0, pIx_dq1, lay_int, lay_bool, dep_int, dep_bool, lay_dq, dep_dq, eqv_int, eqv_dq, tyD_dq, decide_eq_true_eq, Bool.not_eq_true', decide_eq_false_iff_not, ite_not, true_and, Nat.zero_le, Int.zero_add, List.length_map, kit_tt, kit_ib, kit_bb, kit_ii, Bool.true_eq_false, Bool.false_eq_true, decide_true, eq_self, eqv_bool, pVarH_o, oVarH_d, pdatH, asH_d, pUnp_o, oUnp_d, qTup_dq, hold_app, pIx2_l, pIx2_q, pLen2_l, pLen2_q, reduceIte, reduceCtorEq, Nat.reduceAdd, Nat.reduceLeDiff, Nat.reduceSub, Bool.not_true, Bool.not_false, decide_false, and_true, Option.map_some, Option.join_some, Option.bind_some])
    rw [← q_div p q]
    refine ⟨⟨p1, q2⟩, ⟨p2, q1⟩, _, _, rfl, Int.mul_ne_zero (Int.ne_of_gt (denp p)) h, (sp.1.mul sq.2).mono (by decide), (sp.2.mul sq.1).mono (by decide), ?_⟩
    (try simp only [pSeq, pNext, pNever, pRet, pRetV_o, oRetV_d, pIf, pAsg, pPar_o, oPar_2, pTest, asB_b, pNot, pOr, pAndV, pIfE, pOp, pI_i, pI0_i, pEqD, pNeD, pIxL_h, pU_i, pUn, pNil, pCons, pTup, pLst, pCB, pAbs_i, pMax_i, pMin_i, pIsi_o, oKit_s, tyD_int, tyD_bool, pVar_o, oVar_d, pVarV_o, oVarV_d, oVarV_o, oVarV_b, pC, pdat, asD_d, asD_o, pCall_h, pNilA, pConsD, pConsV, pConsS, asL_l, isSt_s, qName, qNil_n, qCons_c, pWhile, pIterV_o, oIterV_d, asSeq_dq, pRng1_o, oRng1_i, pFor, List.map_cons, List.map_nil, List.replicate_succ, List.replicate_zero, List.cons_append, List.nil_append, List.getElem?_cons_zero, List.getElem?_cons_succ, List.set_cons_zero, List.set_cons_succ, List.length_cons, List.length_nil, pGet0, pGet1, pIx_dq0, pIx_dq1, lay_int, lay_bool, dep_int, dep_bool, lay_dq, dep_dq, eqv_int, eqv_dq, tyD_dq, decide_eq_true_eq, Bool.not_eq_true', decide_eq_false_iff_not, ite_not, true_and, Nat.zero_le, Int.zero_add, List.length_map, kit_tt, kit_ib, kit_bb, kit_ii, Bool.true_eq_false, Bool.false_eq_true, decide_true, eq_self, eqv_bool, pVarH_o, oVarH_d, pdatH, asH_d, pUnp_o, oUnp_d, qTup_dq, hold_app, pIx2_l, pIx2_q, pLen2_l, pLen2_q, reduceIte, reduceCtorEq, Nat.reduceAdd, Nat.reduceLeDiff, Nat.reduceSub, Bool.not_true, Bool.not_false, decide_false, and_true, Option.map_some, Option.join_some, Option.bind_some])
    exact kk
  case g =>
    refine ⟨p, q, rfl, sp', sq', ?_⟩
    (try simp only [pSeq, pNext, pNever, pRet, pRetV_o, oRetV_d, pIf, pAsg, pPar_o, oPar_2, pTest, asB_b, pNot, pOr, pAndV, pIfE, pOp, pI_i, pI0_i, pEqD, pNeD, pIxL_h, pU_i, pUn, pNil, pCons, pTup, pLst, pCB, pAbs_i, pMax_i, pMin_i, pIsi_o, oKit_s, tyD_int, tyD_bool, pVar_o, oVar_d, pVarV_o, oVarV_d, oVarV_o, oVarV_b, pC, pdat, asD_d, asD_o, pCall_h, pNilA, pConsD, pConsV, pConsS, asL_l, isSt_s, qName, qNil_n, qCons_c, pWhile, pIterV_o, oIterV_d, asSeq_dq, pRng1_o, oRng1_i, pFor, List.map_cons, List.map_nil, List.replicate_succ, List.replicate_zero, List.cons_append, List.nil_append, List.getElem?_cons_zero, List.getElem?_cons_succ, List.set_cons_zero, List.set_cons_succ, List.length_cons, List.length_nil, pGet0, pGet1, pIx_dq0, pIx_dq1, lay_int, lay_bool, dep_int, dep_bool, lay_dq, dep_dq, eqv_int, eqv_dq, tyD_dq, decide_eq_true_eq, Bool.not_eq_true', decide_eq_false_iff_not, ite_not, true_and, Nat.zero_le, Int.zero_add, List.length_map, kit_tt, kit_ib, kit_bb, kit_ii, Bool.true_eq_false, Bool.false_eq_true, decide_true, eq_self, eqv_bool, pVarH_o, oVarH_d, pdatH, asH_d, pUnp_o, oUnp_d, qTup_dq, hold_app, pIx2_l, pIx2_q, pLen2_l, pLen2_q, reduceIte, reduceCtorEq, Nat.reduceAdd, Nat.reduceLeDiff, Nat.reduceSub, Bool.not_true, Bool.not_false, decide_false, and_true, Option.map_some, Option.join_some, Option.bind_some])
    refine ⟨⟨p1, q2⟩, ⟨q1, p2⟩, ?_⟩
    rw [if_pos (less_iff p q).symm]
    have pp : [SV.d (dq p), .d (.int p.num), .d (.int p.den)] = [SV.d (dq (Rat.divInt p.num p.den)), .d (.int p.num), .d (.int p.den)] := by rw [Rat.num_divInt_den]
    have qq : [SV.d (dq q), .d (.int q.num), .d (.int q.den)] = [SV.d (dq (Rat.divInt q.num q.den)), .d (.int q.num), .d (.int q.den)] := by rw [Rat.num_divInt_den]
    have s1 := sp.1.mono (l := 7000) (by decide)
    have s2 := sp.2.mono (l := 7000) (by decide)
    have s3 := sq.1.mono (l := 7000) (by decide)
    have s4 := sq.2.mono (l := 7000) (by decide)
    refine ite2 (fun hl => ?_) (fun hl => ?_)
    · refine ⟨p, q, rfl, sp', sq', ?_⟩
      rw [if_pos hl]
      (try simp only [pSeq, pNext, pNever, pRet, pRetV_o, oRetV_d, pIf, pAsg, pPar_o, oPar_2, pTest, asB_b, pNot, pOr, pAndV, pIfE, pOp, pI_i, pI0_i, pEqD, pNeD, pIxL_h, pU_i, pUn, pNil, pCons, pTup, pLst, pCB, pAbs_i, pMax_i, pMin_i, pIsi_o, oKit_s, tyD_int, tyD_bool, pVar_o, oVar_d, pVarV_o, oVarV_d, oVarV_o, oVarV_b, pC, pdat, asD_d, asD_o, pCall_h, pNilA, pConsD, pConsV, pConsS, asL_l, isSt_s, qName, qNil_n, qCons_c, pWhile, pIterV_o, oIterV_d, asSeq_dq, pRng1_o, oRng1_i, pFor, List.map_cons, List.map_nil, List.replicate_succ, List.replicate_zero, List.cons_append, List.nil_append, List.getElem?_cons_zero, List.getElem?_cons_succ, List.set_cons_zero, List.set_cons_succ, List.length_cons, List.length_nil, pGet0, pGet1, pIx_dq0, pIx_dq1, lay_int, lay_bool, dep_int, dep_bool, lay_dq, dep_dq, eqv_int, eqv_dq, tyD_dq, decide_eq_true_eq, Bool.not_eq_true', decide_eq_false_iff_not, ite_not, true_and, Nat.zero_le, Int.zero_add, List.length_map, kit_tt, kit_ib, kit_bb, kit_ii, Bool.true_eq_false, Bool.false_eq_true, decide_true, eq_self, eqv_bool, pVarH_o, oVarH_d, pdatH, asH_d, pUnp_o, oUnp_d, qTup_dq, hold_app, pIx2_l, pIx2_q, pLen2_l, pLen2_q, reduceIte, reduceCtorEq, Nat.reduceAdd, Nat.reduceLeDiff, Nat.reduceSub, Bool.not_true, Bool.not_false, decide_false, and_true, Option.map_some, Option.join_some, Option.bind_some])
      refine ⟨_, _, qq, Int.ne_of_gt (denp q), s3, s4, ?_⟩
      (try simp only [pSeq, pNext, pNever, pRet, pRetV_o, oRetV_d, pIf, pAsg, pPar_o, oPar_2, pTest, asB_b, pNot, pOr, pAndV, pIfE, pOp, pI_i, pI0_i, pEqD, pNeD, pIxL_h, pU_i, pUn, pNil, pCons, pTup, pLst, pCB, pAbs_i, pMax_i, pMin_i, pIsi_o, oKit_s, tyD_int, tyD_bool, pVar_o, oVar_d, pVarV_o, oVarV_d, oVarV_o, oVarV_b, pC, pdat, asD_d, asD_o, pCall_h, pNilA, pConsD, pConsV, pConsS, asL_l, isSt_s, qName, qNil_n, qCons_c, pWhile, pIterV_o, oIterV_d, asSeq_dq, pRng1_o, oRng1_i, pFor, List.map_cons, List.map_nil, List.replicate_succ, List.replicate_zero, List.cons_append, List.nil_append, List.getElem?_cons_zero, List.getElem?_cons_succ, List.set_cons_zero, List.set_cons_succ, List.length_cons, List.length_nil, pGet0, pGet1, pIx_dq0, pIx_dq1, lay_int, lay_bool, dep_int, dep_bool, lay_dq, dep_dq, eqv_int, eqv_dq, tyD_dq, decide_eq_true_eq, Bool.not_eq_true', decide_eq_false_iff_not, ite_not, true_and, Nat.zero_le, Int.zero_add, List.length_map, kit_tt, kit_ib, kit_bb, kit_ii, Bool.true_eq_false, Bool.false_eq_true, decide_true, eq_self, eqv_bool, pVarH_o, oVarH_d, pdatH, asH_d, pUnp_o, oUnp_d, qTup_dq, hold_app, pIx2_l, pIx2_q, pLen2_l, pLen2_q, reduceIte, reduceCtorEq, Nat.reduceAdd, Nat.reduceLeDiff, Nat.reduceSub, Bool.not_true, Bool.not_false, decide_false, and_true, Option.map_some, Option.join_some, Option.bind_some])
      refine ⟨p, q, rfl, sp', sq', ?_⟩
      rw [if_neg (Rat.not_lt.mpr (Rat.le_of_lt hl))]
      (try simp only [pSeq, pNext, pNever, pRet, pRetV_o, oRetV_d, pIf, pAsg, pPar_o, oPar_2, pTest, asB_b, pNot, pOr, pAndV, pIfE, pOp, pI_i, pI0_i, pEqD, pNeD, pIxL_h, pU_i, pUn, pNil, pCons, pTup, pLst, pCB, pAbs_i, pMax_i, pMin_i, pIsi_o, oKit_s, tyD_int, tyD_bool, pVar_o, oVar_d, pVarV_o, oVarV_d, oVarV_o, oVarV_b, pC, pdat, asD_d, asD_o, pCall_h, pNilA, pConsD, pConsV, pConsS, asL_l, isSt_s, qName, qNil_n, qCons_c, pWhile, pIterV_o, oIterV_d, asSeq_dq, pRng1_o, oRng1_i, pFor, List.map_cons, List.map_nil, List.replicate_succ, List.replicate_zero, List.cons_append, List.nil_append, List.getElem?_cons_zero, List.getElem?_cons_succ, List.set_cons_zero, List.set_cons_succ, List.length_cons, List.length_nil, pGet0, pGet1, pIx_dq0, pIx_dq1, lay_int, lay_bool, dep_int, dep_bool, lay_dq, dep_dq, eqv_int, eqv_dq, tyD_dq, decide_eq_true_eq, Bool.not_eq_true', decide_eq_false_iff_not, ite_not, true_and, Nat.zero_le, Int.zero_add, List.length_map, kit_tt, kit_ib, kit_bb, kit_ii, Bool.true_eq_false, Bool.false_eq_true, decide_true, eq_self, eqv_bool, pVarH_o, oVarH_d, pdatH, asH_d, pUnp_o, oUnp_d, qTup_dq, hold_app, pIx2_l, pIx2_q, pLen2_l, pLen2_q, reduceIte, reduceCtorEq, Nat.reduceAdd, Nat.reduceLeDiff, Nat.reduceSub, Bool.not_true, Bool.not_false, decide_false, and_true, Option.map_some, Option.join_some, Option.bind_some])
      exact ⟨_, _, pp, Int.ne_of_gt (denp p), s1, s2, k⟩
    · refine ⟨p, q, rfl, sp', sq', ?_⟩
      rw [if_neg hl]
      (try simp only [pSeq, pNext, pNever, pRet, pRetV_o, oRetV_d, pIf, pAsg, pPar_o, oPar_2, pTest, asB_b, pNot, pOr, pAndV, pIfE, pOp, pI_i, pI0_i, pEqD, pNeD, pIxL_h, pU_i, pUn, pNil, pCons, pTup, pLst, pCB, pAbs_i, pMax_i, pMin_i, pIsi_o, oKit_s, tyD_int, tyD_bool, pVar_o, oVar_d, pVarV_o, oVarV_d, oVarV_o, oVarV_b, pC, pdat, asD_d, asD_o, pCall_h, pNilA, pConsD, pConsV, pConsS, asL_l, isSt_s, qName, qNil_n, qCons_c, pWhile, pIterV_o, oIterV_d, asSeq_dq, pRng1_o, oRng1_i, pFor, List.map_cons, List.map_nil, List.replicate_succ, List.replicate_zero, List.cons_append, List.nil_append, List.getElem?_cons_zero, List.getElem?_cons_succ, List.set_cons_zero, List.set_cons_succ, List.length_cons, List.length_nil, pGet0, pGet1, pIx_dq0, pIx_dq1, lay_int, lay_bool, dep_int, dep_bool, lay_dq, dep_dq, eqv_int, eqv_dq, tyD_dq, decide_eq_true_eq, Bool.not_eq_true', decide_eq_false_iff_not, ite_not, true_and, Nat.zero_le, Int.zero_add, List.length_map, kit_tt, kit_ib, kit_bb, kit_ii, Bool.true_eq_false, Bool.false_eq_true, decide_true, eq_self, eqv_bool, pVarH_o, oVarH_d, pdatH, asH_d, pUnp_o, oUnp_d, qTup_dq, hold_app, pIx2_l, pIx2_q, pLen2_l, pLen2_q, reduceIte, reduceCtorEq, Nat.reduceAdd, Nat.reduceLeDiff, Nat.reduceSub, Bool.not_true, Bool.not_false, decide_false, and_true, Option.map_some, Option.join_some, Option.bind_some])
      refine ⟨_, _, pp, Int.ne_of_gt (denp p), s1, s2, ?_⟩
      (try simp only [pSeq, pNext, pNever, pRet, pRetV_o, oRetV_d, pIf, pAsg, pPar_o, oPar_2, pTest, asB_b, pNot, pOr, pAndV, pIfE, pOp, pI_i, pI0_i, pEqD, pNeD, pIxL_h, pU_i, pUn, pNil, pCons, pTup, pLst, pCB, pAbs_i, pMax_i, pMin_i, pIsi_o, oKit_s, tyD_int, tyD_bool, pVar_o, oVar_d, pVarV_o, oVarV_d, oVarV_o, oVarV_b, pC, pdat, asD_d, asD_o, pCall_h, pNilA, pConsD, pConsV, pConsS, asL_l, isSt_s, qName, qNil_n, qCons_c, pWhile, pIterV_o, oIterV_d, asSeq_dq, pRng1_o, oRng1_i, pFor, List.map_cons, List.map_nil, List.replicate_succ, List.replicate_zero, List.cons_append, List.nil_append, List.getElem?_cons_zero, List.getElem?_cons_succ, List.set_cons_zero, List.set_cons_succ, List.length_cons, List.length_nil, pGet0, pGet1, pIx_dq0, pIx_dq1, lay_int, lay_bool, dep_int, dep_bool, lay_dq, dep_dq, eqv_int, eqv_dq, tyD_dq, decide_eq_true_eq, Bool.not_eq_true', decide_eq_false_iff_not, ite_not, true_and, Nat.zero_le, Int.zero_add, List.length_map, kit_tt, kit_ib, kit_bb, kit_ii, Bool.true_eq_false, Bool.false_eq_true, decide_true, eq_self, eqv_bool, pVarH_o, oVarH_d, pdatH, asH_d, pUnp_o, oUnp_d, qTup_dq, hold_app, pIx2_l, pIx2_q, pLen2_l, pLen2_q, reduceIte, reduceCtorEq, Nat.reduceAdd, Nat.reduceLeDiff, Nat.reduceSub, Bool.not_true, Bool.not_false, decide_false, and_true, Option.map_some, Option.join_some, Option.bind_some])
      refine ⟨p, q, rfl, sp', sq', ?_⟩
      have e : (if q < p then q else p) = q := by
        split
        · rfl
        · rename_i hz
          exact Rat.le_antisymm (Rat.not_lt.mp hz) (Rat.not_lt.mp hl)
      rw [e]
      (try simp only [pSeq, pNext, pNever, pRet, pRetV_o, oRetV_d, pIf, pAsg, pPar_o, oPar_2, pTest, asB_b, pNot, pOr, pAndV, pIfE, pOp, pI_i, pI0_i, pEqD, pNeD, pIxL_h, pU_i, pUn, pNil, pCons, pTup, pLst, pCB, pAbs_i, pMax_i, pMin_i, pIsi_o, oKit_s, tyD_int, tyD_bool, pVar_o, oVar_d, pVarV_o, oVarV_d, oVarV_o, oVarV_b, pC, pdat, asD_d, asD_o, pCall_h, pNilA, pConsD, pConsV, pConsS, asL_l, isSt_s, qName, qNil_n, qCons_c, pWhile, pIterV_o, oIterV_d, asSeq_dq, pRng1_o, oRng1_i, pFor, List.map_cons, List.map_nil, List.replicate_succ, List.replicate_zero, List.cons_append, List.nil_append, List.getElem?_cons_zero, List.getElem?_cons_succ, List.set_cons_zero, List.set_cons_succ, List.length_cons, List.length_nil, pGet0, pGet1, pIx_dq0, pIx_dq1, lay_int, lay_bool, dep_int, dep_bool, lay_dq, dep_dq, eqv_int, eqv_dq, tyD_dq, decide_eq_true_eq, Bool.not_eq_true', decide_eq_false_iff_not, ite_not, true_and, Nat.zero_le, Int.zero_add, List.length_map, kit_tt, kit_ib, kit_bb, kit_ii, Bool.true_eq_false, Bool.false_eq_true, decide_true, eq_self, eqv_bool, pVarH_o, oVarH_d, pdatH, asH_d, pUnp_o, oUnp_d, qTup_dq, hold_app, pIx2_l, pIx2_q, pLen2_l, pLen2_q, reduceIte, reduceCtorEq, Nat.reduceAdd, Nat.reduceLeDiff, Nat.reduceSub, Bool.not_true, Bool.not_false, decide_false, and_true, Option.map_some, Option.join_some, Option.bind_some])
      exact ⟨_, _, qq, Int.ne_of_gt (denp q), s3, s4, k⟩
theorem ok_law (T : Txt K mg D) : FnOk P w K mg base CX0 6 D.a_law D.d_law ["_law_script"] (spLaw K) := by
  refine FnOk.imp (sp := Pu.spOf K [.vw] Pu.pLaw) ?_ Pu.law_in
  refine T.F_law.ok sc_law (Pu.spOf.len rfl) (fun cdv A outer s H vs Q E hr h => ?_)
  refine ⟨_, (QSs.out (qpss_cons (qps_for PassesOwn.never rfl (qpi_range1 rfl T.z_range (qpa_cons (qpe_callB (call_maxN rfl) (by rfl) T.z_max (by rfl) (qpa_cons qpe_int (qpa_cons (qpe_callB (call_minN rfl) (by rfl) T.z_min (by rfl) (qpa_cons (qpe_callB (call_len2K (K := K) rfl) (by rfl) T.z_len PySem.boot_len (qpa_cons (qpv 0) qpa_nil)) (qpa_cons qpe_int qpa_nil))) qpa_nil))) qpa_nil)) (qpg_name (i := 1) sc_law.nd rfl (Or.inl rfl) (Or.inl rfl))
        (qpss_cons (qps_set (i := 2) sc_law.nd rfl (Or.inl rfl) (qpe_call (ok_Lbegun (K := K) T) (hr.mono (by first | decide | omega)) rfl T.m_Lbegun T.F_Lbegun.kp (b_Lbegun T) .nil pass0 (qpa_cons (qpv 0) (qpa_cons (qpv 1) qpa_nil))))
        (qpss_cons (qps_set (i := 3) sc_law.nd rfl (Or.inl rfl) (qpe_call (ok_Lfraction (K := K) T) (hr.mono (by first | decide | omega)) rfl T.m_Lfraction T.F_Lfraction.kp (b_Lfraction T) .nil pass0 (qpa_cons (qpv 2) qpa_nil)))
        (qpss_cons (qps_set (i := 4) sc_law.nd rfl (Or.inl rfl) (qpe_call (ok_Lfraction (K := K) T) (hr.mono (by first | decide | omega)) rfl T.m_Lfraction T.F_Lfraction.kp (b_Lfraction T) .nil pass0 (qpa_cons (qpv 2) qpa_nil)))
        (qpss_cons (qps_if (qpt_cmpR (op_eqDK (K := K) rfl hr.units) (qpe_call (ok_Ltake (K := K) T) (hr.mono (by first | decide | omega)) rfl T.m_Ltake T.F_Ltake.kp (b_Ltake T) .nil pass0 (qpa_cons (qpv 2) (qpa_cons qpe_int qpa_nil))) qpe_int (nomark _))
          (qpss_one (qps_set (i := 4) sc_law.nd rfl (Or.inl rfl) (qpv 3)))
          qpss_nil)
        (qpss_one (qps_if (qpt_not (qpt_val (qpe_call (ok_Lasked (K := K) T) (hr.mono (by first | decide | omega)) rfl T.m_Lasked T.F_Lasked.kp (b_Lasked T) .nil pass0 (qpa_cons (qpv 3) (qpa_cons (qpv 4) qpa_nil)))))
          (qpss_one (qps_ret qpe_bl))
          qpss_nil)))))))
      (qpss_one (qps_ret qpe_bl)))), ?_⟩
  refine Pu.enter h ?_
  rintro as Qp ⟨ns, rfl, hns, k⟩
  (try simp only [pSeq, pNext, pNever, pRet, pRetV_o, oRetV_d, pIf, pAsg, pPar_o, oPar_2, pTest, asB_b, pNot, pOr, pAndV, pIfE, pOp, pI_i, pI0_i, pEqD, pNeD, pIxL_h, pU_i, pUn, pNil, pCons, pTup, pLst, pCB, pAbs_i, pMax_i, pMin_i, pIsi_o, oKit_s, tyD_int, tyD_bool, pVar_o, oVar_d, pVarV_o, oVarV_d, oVarV_o, oVarV_b, pC, pdat, asD_d, asD_o, pCall_h, pNilA, pConsD, pConsV, pConsS, asL_l, isSt_s, qName, qNil_n, qCons_c, pWhile, pIterV_o, oIterV_d, asSeq_dq, pRng1_o, oRng1_i, pFor, List.map_cons, List.map_nil, List.replicate_succ, List.replicate_zero, List.cons_append, List.nil_append, List.getElem?_cons_zero, List.getElem?_cons_succ, List.set_cons_zero, List.set_cons_succ, List.length_cons, List.length_nil, pGet0, pGet1, pIx_dq0, pIx_dq1, lay_int, lay_bool, dep_int, dep_bool, lay_dq, dep_dq, eqv_int, eqv_dq, tyD_dq, decide_eq_true_eq, Bool.not_eq_true', decide_eq_false_iff_not, ite_not, true_and, Nat.zero_le, Int.zero_add, List.length_map, kit_tt, kit_ib, kit_bb, kit_ii, Bool.true_eq_false, Bool.false_eq_true, decide_true, eq_self, eqv_bool, pVarH_o, oVarH_d, pdatH, asH_d, pUnp_o, oUnp_d, qTup_dq, hold_app, pIx2_l, pIx2_q, pLen2_l, pLen2_q, reduceIte, reduceCtorEq, Nat.reduceAdd, Nat.reduceLeDiff, Nat.reduceSub, Bool.not_true, Bool.not_false, decide_false, and_true, Option.map_some, Option.join_some, Option.bind_some])
  refine ⟨by split <;> split <;> omega, for_rng (fun i e => ∃ o1 o2 o3 o4 : Option SV, e = [some (.bor (ns.map .int)), o1, o2, o3, o4]) ⟨_, _, _, _, rfl⟩ ?_ ?_⟩
  · rintro i e hi ⟨o1, o2, o3, o4, rfl⟩
    have hi8 : i < 63 := by
      revert hi
      split <;> split <;> intro hi <;> omega
    (try simp only [pSeq, pNext, pNever, pRet, pRetV_o, oRetV_d, pIf, pAsg, pPar_o, oPar_2, pTest, asB_b, pNot, pOr, pAndV, pIfE, pOp, pI_i, pI0_i, pEqD, pNeD, pIxL_h, pU_i, pUn, pNil, pCons, pTup, pLst, pCB, pAbs_i, pMax_i, pMin_i, pIsi_o, oKit_s, tyD_int, tyD_bool, pVar_o, oVar_d, pVarV_o, oVarV_d, oVarV_o, oVarV_b, pC, pdat, asD_d, asD_o, pCall_h, pNilA, pConsD, pConsV, pConsS, asL_l, isSt_s, qName, qNil_n, qCons_c, pWhile, pIterV_o, oIterV_d, asSeq_dq, pRng1_o, oRng1_i, pFor, List.map_cons, List.map_nil, List.replicate_succ, List.replicate_zero, List.cons_append, List.nil_append, List.getElem?_cons_zero, List.getElem?_cons_succ, List.set_cons_zero, List.set_cons_succ, List.length_cons, List.length_nil, pGet0, pGet1, pIx_dq0, pIx_dq1, lay_int, lay_bool, dep_int, dep_bool, lay_dq, dep_dq, eqv_int, eqv_dq, tyD_dq, decide_eq_true_eq, Bool.not_eq_true', decide_eq_false_iff_not, ite_not, true_and, Nat.zero_le, Int.zero_add, List.length_map, kit_tt, kit_ib, kit_bb, kit_ii, Bool.true_eq_false, Bool.false_eq_true, decide_true, eq_self, eqv_bool, pVarH_o, oVarH_d, pdatH, asH_d, pUnp_o, oUnp_d, qTup_dq, hold_app, pIx2_l, pIx2_q, pLen2_l, pLen2_q, reduceIte, reduceCtorEq, Nat.reduceAdd, Nat.reduceLeDiff, Nat.reduceSub, Bool.not_true, Bool.not_false, decide_false, and_true, Option.map_some, Option.join_some, Option.bind_some])
    refine ⟨ns, _, rfl, by omega, by omega, ?_⟩
    (try simp only [pSeq, pNext, pNever, pRet, pRetV_o, oRetV_d, pIf, pAsg, pPar_o, oPar_2, pTest, asB_b, pNot, pOr, pAndV, pIfE, pOp, pI_i, pI0_i, pEqD, pNeD, pIxL_h, pU_i, pUn, pNil, pCons, pTup, pLst, pCB, pAbs_i, pMax_i, pMin_i, pIsi_o, oKit_s, tyD_int, tyD_bool, pVar_o, oVar_d, pVarV_o, oVarV_d, oVarV_o, oVarV_b, pC, pdat, asD_d, asD_o, pCall_h, pNilA, pConsD, pConsV, pConsS, asL_l, isSt_s, qName, qNil_n, qCons_c, pWhile, pIterV_o, oIterV_d, asSeq_dq, pRng1_o, oRng1_i, pFor, List.map_cons, List.map_nil, List.replicate_succ, List.replicate_zero, List.cons_append, List.nil_append, List.getElem?_cons_zero, List.getElem?_cons_succ, List.set_cons_zero, List.set_cons_succ, List.length_cons, List.length_nil, pGet0, pGet1, pIx_dq0, pIx_dq1, lay_int, lay_bool, dep_int, dep_bool, lay_dq, dep_dq, eqv_int, eqv_dq, tyD_dq, decide_eq_true_eq, Bool.not_eq_true', decide_eq_false_iff_not, ite_not, true_and, Nat.zero_le, Int.zero_add, List.length_map, kit_tt, kit_ib, kit_bb, kit_ii, Bool.true_eq_false, Bool.false_eq_true, decide_true, eq_self, eqv_bool, pVarH_o, oVarH_d, pdatH, asH_d, pUnp_o, oUnp_d, qTup_dq, hold_app, pIx2_l, pIx2_q, pLen2_l, pLen2_q, reduceIte, reduceCtorEq, Nat.reduceAdd, Nat.reduceLeDiff, Nat.reduceSub, Bool.not_true, Bool.not_false, decide_false, and_true, Option.map_some, Option.join_some, Option.bind_some])
    refine ⟨rfl, fun p hp => ?_⟩
    (try simp only [pSeq, pNext, pNever, pRet, pRetV_o, oRetV_d, pIf, pAsg, pPar_o, oPar_2, pTest, asB_b, pNot, pOr, pAndV, pIfE, pOp, pI_i, pI0_i, pEqD, pNeD, pIxL_h, pU_i, pUn, pNil, pCons, pTup, pLst, pCB, pAbs_i, pMax_i, pMin_i, pIsi_o, oKit_s, tyD_int, tyD_bool, pVar_o, oVar_d, pVarV_o, oVarV_d, oVarV_o, oVarV_b, pC, pdat, asD_d, asD_o, pCall_h, pNilA, pConsD, pConsV, pConsS, asL_l, isSt_s, qName, qNil_n, qCons_c, pWhile, pIterV_o, oIterV_d, asSeq_dq, pRng1_o, oRng1_i, pFor, List.map_cons, List.map_nil, List.replicate_succ, List.replicate_zero, List.cons_append, List.nil_append, List.getElem?_cons_zero, List.getElem?_cons_succ, List.set_cons_zero, List.set_cons_succ, List.length_cons, List.length_nil, pGet0, pGet1, pIx_dq0, pIx_dq1, lay_int, lay_bool, dep_int, dep_bool, lay_dq, dep_dq, eqv_int, eqv_dq, tyD_dq, decide_eq_true_eq, Bool.not_eq_true', decide_eq_false_iff_not, ite_not, true_and, Nat.zero_le, Int.zero_add, List.length_map, kit_tt, kit_ib, kit_bb, kit_ii, Bool.true_eq_false, Bool.false_eq_true, decide_true, eq_self, eqv_bool, pVarH_o, oVarH_d, pdatH, asH_d, pUnp_o, oUnp_d, qTup_dq, hold_app, pIx2_l, pIx2_q, pLen2_l, pLen2_q, reduceIte, reduceCtorEq, Nat.reduceAdd, Nat.reduceLeDiff, Nat.reduceSub, Bool.not_true, Bool.not_false, decide_false, and_true, Option.map_some, Option.join_some, Option.bind_some])
    refine ⟨rfl, fun q hq => ?_⟩
    (try simp only [pSeq, pNext, pNever, pRet, pRetV_o, oRetV_d, pIf, pAsg, pPar_o, oPar_2, pTest, asB_b, pNot, pOr, pAndV, pIfE, pOp, pI_i, pI0_i, pEqD, pNeD, pIxL_h, pU_i, pUn, pNil, pCons, pTup, pLst, pCB, pAbs_i, pMax_i, pMin_i, pIsi_o, oKit_s, tyD_int, tyD_bool, pVar_o, oVar_d, pVarV_o, oVarV_d, oVarV_o, oVarV_b, pC, pdat, asD_d, asD_o, pCall_h, pNilA, pConsD, pConsV, pConsS, asL_l, isSt_s, qName, qNil_n, qCons_c, pWhile, pIterV_o, oIterV_d, asSeq_dq, pRng1_o, oRng1_i, pFor, List.map_cons, List.map_nil, List.replicate_succ, List.replicate_zero, List.cons_append, List.nil_append, List.getElem?_cons_zero, List.getElem?_cons_succ, List.set_cons_zero, List.set_cons_succ, List.length_cons, List.length_nil, pGet0, pGet1, pIx_dq0, pIx_dq1, lay_int, lay_bool, dep_int, dep_bool, lay_dq, dep_dq, eqv_int, eqv_dq, tyD_dq, decide_eq_true_eq, Bool.not_eq_true', decide_eq_false_iff_not, ite_not, true_and, Nat.zero_le, Int.zero_add, List.length_map, kit_tt, kit_ib, kit_bb, kit_ii, Bool.true_eq_false, Bool.false_eq_true, decide_true, eq_self, eqv_bool, pVarH_o, oVarH_d, pdatH, asH_d, pUnp_o, oUnp_d, qTup_dq, hold_app, pIx2_l, pIx2_q, pLen2_l, pLen2_q, reduceIte, reduceCtorEq, Nat.reduceAdd, Nat.reduceLeDiff, Nat.reduceSub, Bool.not_true, Bool.not_false, decide_false, and_true, Option.map_some, Option.join_some, Option.bind_some])
    refine ⟨6, rfl, by decide, sm4 6, fun d d0 d6 => ?_⟩
    (try simp only [pSeq, pNext, pNever, pRet, pRetV_o, oRetV_d, pIf, pAsg, pPar_o, oPar_2, pTest, asB_b, pNot, pOr, pAndV, pIfE, pOp, pI_i, pI0_i, pEqD, pNeD, pIxL_h, pU_i, pUn, pNil, pCons, pTup, pLst, pCB, pAbs_i, pMax_i, pMin_i, pIsi_o, oKit_s, tyD_int, tyD_bool, pVar_o, oVar_d, pVarV_o, oVarV_d, oVarV_o, oVarV_b, pC, pdat, asD_d, asD_o, pCall_h, pNilA, pConsD, pConsV, pConsS, asL_l, isSt_s, qName, qNil_n, qCons_c, pWhile, pIterV_o, oIterV_d, asSeq_dq, pRng1_o, oRng1_i, pFor, List.map_cons, List.map_nil, List.replicate_succ, List.replicate_zero, List.cons_append, List.nil_append, List.getElem?_cons_zero, List.getElem?_cons_succ, List.set_cons_zero, List.set_cons_succ, List.length_cons, List.length_nil, pGet0, pGet1, pIx_dq0, pIx_dq1, lay_int, lay_bool, dep_int, dep_bool, lay_dq, dep_dq, eqv_int, eqv_dq, tyD_dq, decide_eq_true_eq, Bool.not_eq_true', decide_eq_false_iff_not, ite_not, true_and, Nat.zero_le, Int.zero_add, List.length_map, kit_tt, kit_ib, kit_bb, kit_ii, Bool.true_eq_false, Bool.false_eq_true, decide_true, eq_self, eqv_bool, pVarH_o, oVarH_d, pdatH, asH_d, pUnp_o, oUnp_d, qTup_dq, hold_app, pIx2_l, pIx2_q, pLen2_l, pLen2_q, reduceIte, reduceCtorEq, Nat.reduceAdd, Nat.reduceLeDiff, Nat.reduceSub, Bool.not_true, Bool.not_false, decide_false, and_true, Option.map_some, Option.join_some, Option.bind_some])
    refine ite2 (fun h => ?_) (fun h => ?_)
    · (try simp only [pSeq, pNext, pNever, pRet, pRetV_o, oRetV_d, pIf, pAsg, pPar_o, oPar_2, pTest, asB_b, pNot, pOr, pAndV, pIfE, pOp, pI_i, pI0_i, pEqD, pNeD, pIxL_h, pU_i, pUn, pNil, pCons, pTup, pLst, pCB, pAbs_i, pMax_i, pMin_i, pIsi_o, oKit_s, tyD_int, tyD_bool, pVar_o, oVar_d, pVarV_o, oVarV_d, oVarV_o, oVarV_b, pC, pdat, asD_d, asD_o, pCall_h, pNilA, pConsD, pConsV, pConsS, asL_l, isSt_s, qName, qNil_n, qCons_c, pWhile, pIterV_o, oIterV_d, asSeq_dq, pRng1_o, oRng1_i, pFor, List.map_cons, List.map_nil, List.replicate_succ, List.replicate_zero, List.cons_append, List.nil_append, List.getElem?_cons_zero, List.getElem?_cons_succ, List.set_cons_zero, List.set_cons_succ, List.length_cons, List.length_nil, pGet0, pGet1, pIx_dq0, pIx_dq1, lay_int, lay_bool, dep_int, dep_bool, lay_dq, dep_dq, eqv_int, eqv_dq, tyD_dq, decide_eq_true_eq, Bool.not_eq_true', decide_eq_false_iff_not, ite_not, true_and, Nat.zero_le, Int.zero_add, List.length_map, kit_tt, kit_ib, kit_bb, kit_ii, Bool.true_eq_false, Bool.false_eq_true, decide_true, eq_self, eqv_bool, pVarH_o, oVarH_d, pdatH, asH_d, pUnp_o, oUnp_d, qTup_dq, hold_app, pIx2_l, pIx2_q, pLen2_l, pLen2_q, reduceIte, reduceCtorEq, Nat.reduceAdd, Nat.reduceLeDiff, Nat.reduceSub, Bool.not_true, Bool.not_false, decide_false, and_true, Option.map_some, Option.join_some, Option.bind_some])
      refine ⟨p, p, rfl, ⟨hp.1.mono (by decide), hp.2.mono (by decide)⟩, ⟨hp.1.mono (by decide), hp.2.mono (by decide)⟩, ?_⟩
      (try simp only [pSeq, pNext, pNever, pRet, pRetV_o, oRetV_d, pIf, pAsg, pPar_o, oPar_2, pTest, asB_b, pNot, pOr, pAndV, pIfE, pOp, pI_i, pI0_i, pEqD, pNeD, pIxL_h, pU_i, pUn, pNil, pCons, pTup, pLst, pCB, pAbs_i, pMax_i, pMin_i, pIsi_o, oKit_s, tyD_int, tyD_bool, pVar_o, oVar_d, pVarV_o, oVarV_d, oVarV_o, oVarV_b, pC, pdat, asD_d, asD_o, pCall_h, pNilA, pConsD, pConsV, pConsS, asL_l, isSt_s, qName, qNil_n, qCons_c, pWhile, pIterV_o, oIterV_d, asSeq_dq, pRng1_o, oRng1_i, pFor, List.map_cons, List.map_nil, List.replicate_succ, List.replicate_zero, List.cons_append, List.nil_append, List.getElem?_cons_zero, List.getElem?_cons_succ, List.set_cons_zero, List.set_cons_succ, List.length_cons, List.length_nil, pGet0, pGet1, pIx_dq0, pIx_dq1, lay_int, lay_bool, dep_int, dep_bool, lay_dq, dep_dq, eqv_int, eqv_dq, tyD_dq, decide_eq_true_eq, Bool.not_eq_true', decide_eq_false_iff_not, ite_not, true_and, Nat.zero_le, Int.zero_add, List.length_map, kit_tt, kit_ib, kit_bb, kit_ii, Bool.true_eq_false, Bool.false_eq_true, decide_true, eq_self, eqv_bool, pVarH_o, oVarH_d, pdatH, asH_d, pUnp_o, oUnp_d, qTup_dq, hold_app, pIx2_l, pIx2_q, pLen2_l, pLen2_q, reduceIte, reduceCtorEq, Nat.reduceAdd, Nat.reduceLeDiff, Nat.reduceSub, Bool.not_true, Bool.not_false, decide_false, and_true, Option.map_some, Option.join_some, Option.bind_some])
      exact ⟨_, _, _, _, rfl⟩
    · (try simp only [pSeq, pNext, pNever, pRet, pRetV_o, oRetV_d, pIf, pAsg, pPar_o, oPar_2, pTest, asB_b, pNot, pOr, pAndV, pIfE, pOp, pI_i, pI0_i, pEqD, pNeD, pIxL_h, pU_i, pUn, pNil, pCons, pTup, pLst, pCB, pAbs_i, pMax_i, pMin_i, pIsi_o, oKit_s, tyD_int, tyD_bool, pVar_o, oVar_d, pVarV_o, oVarV_d, oVarV_o, oVarV_b, pC, pdat, asD_d, asD_o, pCall_h, pNilA, pConsD, pConsV, pConsS, asL_l, isSt_s, qName, qNil_n, qCons_c, pWhile, pIterV_o, oIterV_d, asSeq_dq, pRng1_o, oRng1_i, pFor, List.map_cons, List.map_nil, List.replicate_succ, List.replicate_zero, List.cons_append, List.nil_append, List.getElem?_cons_zero, List.getElem?_cons_succ, List.set_cons_zero, List.set_cons_succ, List.length_cons, List.length_nil, pGet0, pGet1, pIx_dq0, pIx_dq1, lay_int, lay_bool, dep_int, dep_bool, lay_dq, dep_dq, eqv_int, eqv_dq, tyD_dq, decide_eq_true_eq, Bool.not_eq_true', decide_eq_false_iff_not, ite_not, true_and, Nat.zero_le, Int.zero_add, List.length_map, kit_tt, kit_ib, kit_bb, kit_ii, Bool.true_eq_false, Bool.false_eq_true, decide_true, eq_self, eqv_bool, pVarH_o, oVarH_d, pdatH, asH_d, pUnp_o, oUnp_d, qTup_dq, hold_app, pIx2_l, pIx2_q, pLen2_l, pLen2_q, reduceIte, reduceCtorEq, Nat.reduceAdd, Nat.reduceLeDiff, Nat.reduceSub, Bool.not_true, Bool.not_false, decide_false, and_true, Option.map_some, Option.join_some, Option.bind_some])
      refine ⟨p, q, rfl, ⟨hp.1.mono (by decide), hp.2.mono (by decide)⟩, ⟨hq.1.mono (by decide), hq.2.mono (by decide)⟩, ?_⟩
      (try simp only [pSeq, pNext, pNever, pRet, pRetV_o, oRetV_d, pIf, pAsg, pPar_o, oPar_2, pTest, asB_b, pNot, pOr, pAndV, pIfE, pOp, pI_i, pI0_i, pEqD, pNeD, pIxL_h, pU_i, pUn, pNil, pCons, pTup, pLst, pCB, pAbs_i, pMax_i, pMin_i, pIsi_o, oKit_s, tyD_int, tyD_bool, pVar_o, oVar_d, pVarV_o, oVarV_d, oVarV_o, oVarV_b, pC, pdat, asD_d, asD_o, pCall_h, pNilA, pConsD, pConsV, pConsS, asL_l, isSt_s, qName, qNil_n, qCons_c, pWhile, pIterV_o, oIterV_d, asSeq_dq, pRng1_o, oRng1_i, pFor, List.map_cons, List.map_nil, List.replicate_succ, List.replicate_zero, List.cons_append, List.nil_append, List.getElem?_cons_zero, List.getElem?_cons_succ, List.set_cons_zero, List.set_cons_succ, List.length_cons, List.length_nil, pGet0, pGet1, pIx_dq0, pIx_dq1, lay_int, lay_bool, dep_int, dep_bool, lay_dq, dep_dq, eqv_int, eqv_dq, tyD_dq, decide_eq_true_eq, Bool.not_eq_true', decide_eq_false_iff_not, ite_not, true_and, Nat.zero_le, Int.zero_add, List.length_map, kit_tt, kit_ib, kit_bb, kit_ii, Bool.true_eq_false, Bool.false_eq_true, decide_true, eq_self, eqv_bool, pVarH_o, oVarH_d, pdatH, asH_d, pUnp_o, oUnp_d, qTup_dq, hold_app, pIx2_l, pIx2_q, pLen2_l, pLen2_q, reduceIte, reduceCtorEq, Nat.reduceAdd, Nat.reduceLeDiff, Nat.reduceSub, Bool.not_true, Bool.not_false, decide_false, and_true, Option.map_some, Option.join_some, Option.bind_some])
      exact ⟨_, _, _, _, rfl⟩
  · rintro e ⟨o1, o2, o3, o4, rfl⟩
    (try simp only [pSeq, pNext, pNever, pRet, pRetV_o, oRetV_d, pIf, pAsg, pPar_o, oPar_2, pTest, asB_b, pNot, pOr, pAndV, pIfE, pOp, pI_i, pI0_i, pEqD, pNeD, pIxL_h, pU_i, pUn, pNil, pCons, pTup, pLst, pCB, pAbs_i, pMax_i, pMin_i, pIsi_o, oKit_s, tyD_int, tyD_bool, pVar_o, oVar_d, pVarV_o, oVarV_d, oVarV_o, oVarV_b, pC, pdat, asD_d, asD_o, pCall_h, pNilA, pConsD, pConsV, pConsS, asL_l, isSt_s, qName, qNil_n, qCons_c, pWhile, pIterV_o, oIterV_d, asSeq_dq, pRng1_o, oRng1_i, pFor, List.map_cons, List.map_nil, List.replicate_succ, List.replicate_zero, List.cons_append, List.nil_append, List.getElem?_cons_zero, List.getElem?_cons_succ, List.set_cons_zero, List.set_cons_succ, List.length_cons, List.length_nil, pGet0, pGet1, pIx_dq0, pIx_dq1, lay_int, lay_bool, dep_int, dep_bool, lay_dq, dep_dq, eqv_int, eqv_dq, tyD_dq, decide_eq_true_eq, Bool.not_eq_true', decide_eq_false_iff_not, ite_not, true_and, Nat.zero_le, Int.zero_add, List.length_map, kit_tt, kit_ib, kit_bb, kit_ii, Bool.true_eq_false, Bool.false_eq_true, decide_true, eq_self, eqv_bool, pVarH_o, oVarH_d, pdatH, asH_d, pUnp_o, oUnp_d, qTup_dq, hold_app, pIx2_l, pIx2_q, pLen2_l, pLen2_q, reduceIte, reduceCtorEq, Nat.reduceAdd, Nat.reduceLeDiff, Nat.reduceSub, Bool.not_true, Bool.not_false, decide_false, and_true, Option.map_some, Option.join_some, Option.bind_some])
    exact k
end
theorem all_mk {l : PySem.W.OpenLaw} {w : World} {K : PySem.W.Frag} {h : Heap} {mg : Str → Option Value} {fa : Addr} (X : K.In h) (G : h.Ns mainGlobals mg) (hfa : mg "law" = some (.ref fa))
    {od_commonpart an_commonpart : Option Addr} {sl_commonpart : Array (Option Value)} {oc_commonpart kV_commonpart dc_commonpart pm_commonpart cd_commonpart ct_commonpart : Value} {a_commonpart : Addr}
    {od_plus an_plus : Option Addr} {sl_plus : Array (Option Value)} {oc_plus kV_plus dc_plus pm_plus cd_plus ct_plus : Value} {a_plus : Addr}
    {od_minus an_minus : Option Addr} {sl_minus : Array (Option Value)} {oc_minus kV_minus dc_minus pm_minus cd_minus ct_minus : Value} {a_minus : Addr}
    {od_product an_product : Option Addr} {sl_product : Array (Option Value)} {oc_product kV_product dc_product pm_product cd_product ct_product : Value} {a_product : Addr}
    {od_parted an_parted : Option Addr} {sl_parted : Array (Option Value)} {oc_parted kV_parted dc_parted pm_parted cd_parted ct_parted : Value} {a_parted : Addr}
    {od_isless an_isless : Option Addr} {sl_isless : Array (Option Value)} {oc_isless kV_isless dc_isless pm_isless cd_isless ct_isless : Value} {a_isless : Addr}
    {od_larger an_larger : Option Addr} {sl_larger : Array (Option Value)} {oc_larger kV_larger dc_larger pm_larger cd_larger ct_larger : Value} {a_larger : Addr}
    {od_smaller an_smaller : Option Addr} {sl_smaller : Array (Option Value)} {oc_smaller kV_smaller dc_smaller pm_smaller cd_smaller ct_smaller : Value} {a_smaller : Addr}
    {od_Lbegun an_Lbegun : Option Addr} {sl_Lbegun : Array (Option Value)} {oc_Lbegun kV_Lbegun dc_Lbegun pm_Lbegun cd_Lbegun ct_Lbegun : Value} {a_Lbegun : Addr}
    {od_Ltake an_Ltake : Option Addr} {sl_Ltake : Array (Option Value)} {oc_Ltake kV_Ltake dc_Ltake pm_Ltake cd_Ltake ct_Ltake : Value} {a_Ltake : Addr}
    {od_Llow an_Llow : Option Addr} {sl_Llow : Array (Option Value)} {oc_Llow kV_Llow dc_Llow pm_Llow cd_Llow ct_Llow : Value} {a_Llow : Addr}
    {od_Lnumber an_Lnumber : Option Addr} {sl_Lnumber : Array (Option Value)} {oc_Lnumber kV_Lnumber dc_Lnumber pm_Lnumber cd_Lnumber ct_Lnumber : Value} {a_Lnumber : Addr}
    {od_Lfraction an_Lfraction : Option Addr} {sl_Lfraction : Array (Option Value)} {oc_Lfraction kV_Lfraction dc_Lfraction pm_Lfraction cd_Lfraction ct_Lfraction : Value} {a_Lfraction : Addr}
    {od_Lis an_Lis : Option Addr} {sl_Lis : Array (Option Value)} {oc_Lis kV_Lis dc_Lis pm_Lis cd_Lis ct_Lis : Value} {a_Lis : Addr}
    {od_Lnoparts an_Lnoparts : Option Addr} {sl_Lnoparts : Array (Option Value)} {oc_Lnoparts kV_Lnoparts dc_Lnoparts pm_Lnoparts cd_Lnoparts ct_Lnoparts : Value} {a_Lnoparts : Addr}
    {od_Lasked an_Lasked : Option Addr} {sl_Lasked : Array (Option Value)} {oc_Lasked kV_Lasked dc_Lasked pm_Lasked cd_Lasked ct_Lasked : Value} {a_Lasked : Addr}
    {od_law an_law : Option Addr} {sl_law : Array (Option Value)} {oc_law kV_law dc_law pm_law cd_law ct_law : Value} {a_law : Addr}
    {q_NoNumber : Addr}
    {q_HurryError : Addr}
    {q_NoChange : Addr}
    {q_NoDeed : Addr}
    {q_NoDiary : Addr}
    {q_NoJoin : Addr}
    {q_NoName : Addr}
    {q_NoNet : Addr}
    {q_NoPaper : Addr}
    {q_NoRow : Addr}
    {q_NoText : Addr}
    {q_NoTime : Addr}
    {q_NoTree : Addr}
    {q_NotSteps : Addr}
    {q_NotStraight : Addr}
    {q_TooMany : Addr}
    {q_Unbalanced : Addr}
    (g_commonpart : PySem.W.nsIn K mainGlobals "common_part" = some (some (.ref a_commonpart)))
    (l_commonpart : K.lookup a_commonpart = some ⟨oc_commonpart, od_commonpart, .func (PySem.W.fnOf "common_part" "common_part" (defArgs s_commonpart) (defBody s_commonpart) (defScope s_commonpart) .none kV_commonpart dc_commonpart pm_commonpart an_commonpart cd_commonpart ct_commonpart), sl_commonpart⟩)
    (c_commonpart : PySem.W.codeIn K cd_commonpart "common_part" = true)
    (k_commonpart : PySem.W.keepIn K (.ref a_commonpart) = true)
    (g_plus : PySem.W.nsIn K mainGlobals "plus" = some (some (.ref a_plus)))
    (l_plus : K.lookup a_plus = some ⟨oc_plus, od_plus, .func (PySem.W.fnOf "plus" "plus" (defArgs s_plus) (defBody s_plus) (defScope s_plus) .none kV_plus dc_plus pm_plus an_plus cd_plus ct_plus), sl_plus⟩)
    (c_plus : PySem.W.codeIn K cd_plus "plus" = true)
    (k_plus : PySem.W.keepIn K (.ref a_plus) = true)
    (g_minus : PySem.W.nsIn K mainGlobals "minus" = some (some (.ref a_minus)))
    (l_minus : K.lookup a_minus = some ⟨oc_minus, od_minus, .func (PySem.W.fnOf "minus" "minus" (defArgs s_minus) (defBody s_minus) (defScope s_minus) .none kV_minus dc_minus pm_minus an_minus cd_minus ct_minus), sl_minus⟩)
    (c_minus : PySem.W.codeIn K cd_minus "minus" = true)
    (k_minus : PySem.W.keepIn K (.ref a_minus) = true)
    (g_product : PySem.W.nsIn K mainGlobals "product" = some (some (.ref a_product)))
    (l_product : K.lookup a_product = some ⟨oc_product, od_product, .func (PySem.W.fnOf "product" "product" (defArgs s_product) (defBody s_product) (defScope s_product) .none kV_product dc_product pm_product an_product cd_product ct_product), sl_product⟩)
    (c_product : PySem.W.codeIn K cd_product "product" = true)
    (k_product : PySem.W.keepIn K (.ref a_product) = true)
    (g_parted : PySem.W.nsIn K mainGlobals "parted" = some (some (.ref a_parted)))
    (l_parted : K.lookup a_parted = some ⟨oc_parted, od_parted, .func (PySem.W.fnOf "parted" "parted" (defArgs s_parted) (defBody s_parted) (defScope s_parted) .none kV_parted dc_parted pm_parted an_parted cd_parted ct_parted), sl_parted⟩)
    (c_parted : PySem.W.codeIn K cd_parted "parted" = true)
    (k_parted : PySem.W.keepIn K (.ref a_parted) = true)
    (g_isless : PySem.W.nsIn K mainGlobals "is_less" = some (some (.ref a_isless)))
    (l_isless : K.lookup a_isless = some ⟨oc_isless, od_isless, .func (PySem.W.fnOf "is_less" "is_less" (defArgs s_isless) (defBody s_isless) (defScope s_isless) .none kV_isless dc_isless pm_isless an_isless cd_isless ct_isless), sl_isless⟩)
    (c_isless : PySem.W.codeIn K cd_isless "is_less" = true)
    (k_isless : PySem.W.keepIn K (.ref a_isless) = true)
    (g_larger : PySem.W.nsIn K mainGlobals "larger" = some (some (.ref a_larger)))
    (l_larger : K.lookup a_larger = some ⟨oc_larger, od_larger, .func (PySem.W.fnOf "larger" "larger" (defArgs s_larger) (defBody s_larger) (defScope s_larger) .none kV_larger dc_larger pm_larger an_larger cd_larger ct_larger), sl_larger⟩)
    (c_larger : PySem.W.codeIn K cd_larger "larger" = true)
    (k_larger : PySem.W.keepIn K (.ref a_larger) = true)
    (g_smaller : PySem.W.nsIn K mainGlobals "smaller" = some (some (.ref a_smaller)))
    (l_smaller : K.lookup a_smaller = some ⟨oc_smaller, od_smaller, .func (PySem.W.fnOf "smaller" "smaller" (defArgs s_smaller) (defBody s_smaller) (defScope s_smaller) .none kV_smaller dc_smaller pm_smaller an_smaller cd_smaller ct_smaller), sl_smaller⟩)
    (c_smaller : PySem.W.codeIn K cd_smaller "smaller" = true)
    (k_smaller : PySem.W.keepIn K (.ref a_smaller) = true)
    (g_Lbegun : PySem.W.nsIn K mainGlobals "_law_begun" = some (some (.ref a_Lbegun)))
    (l_Lbegun : K.lookup a_Lbegun = some ⟨oc_Lbegun, od_Lbegun, .func (PySem.W.fnOf "_law_begun" "_law_begun" (defArgs s_Lbegun) (defBody s_Lbegun) (defScope s_Lbegun) .none kV_Lbegun dc_Lbegun pm_Lbegun an_Lbegun cd_Lbegun ct_Lbegun), sl_Lbegun⟩)
    (c_Lbegun : PySem.W.codeIn K cd_Lbegun "_law_begun" = true)
    (k_Lbegun : PySem.W.keepIn K (.ref a_Lbegun) = true)
    (g_Ltake : PySem.W.nsIn K mainGlobals "_law_take" = some (some (.ref a_Ltake)))
    (l_Ltake : K.lookup a_Ltake = some ⟨oc_Ltake, od_Ltake, .func (PySem.W.fnOf "_law_take" "_law_take" (defArgs s_Ltake) (defBody s_Ltake) (defScope s_Ltake) .none kV_Ltake dc_Ltake pm_Ltake an_Ltake cd_Ltake ct_Ltake), sl_Ltake⟩)
    (c_Ltake : PySem.W.codeIn K cd_Ltake "_law_take" = true)
    (k_Ltake : PySem.W.keepIn K (.ref a_Ltake) = true)
    (g_Llow : PySem.W.nsIn K mainGlobals "_law_low" = some (some (.ref a_Llow)))
    (l_Llow : K.lookup a_Llow = some ⟨oc_Llow, od_Llow, .func (PySem.W.fnOf "_law_low" "_law_low" (defArgs s_Llow) (defBody s_Llow) (defScope s_Llow) .none kV_Llow dc_Llow pm_Llow an_Llow cd_Llow ct_Llow), sl_Llow⟩)
    (c_Llow : PySem.W.codeIn K cd_Llow "_law_low" = true)
    (k_Llow : PySem.W.keepIn K (.ref a_Llow) = true)
    (g_Lnumber : PySem.W.nsIn K mainGlobals "_law_number" = some (some (.ref a_Lnumber)))
    (l_Lnumber : K.lookup a_Lnumber = some ⟨oc_Lnumber, od_Lnumber, .func (PySem.W.fnOf "_law_number" "_law_number" (defArgs s_Lnumber) (defBody s_Lnumber) (defScope s_Lnumber) .none kV_Lnumber dc_Lnumber pm_Lnumber an_Lnumber cd_Lnumber ct_Lnumber), sl_Lnumber⟩)
    (c_Lnumber : PySem.W.codeIn K cd_Lnumber "_law_number" = true)
    (k_Lnumber : PySem.W.keepIn K (.ref a_Lnumber) = true)
    (g_Lfraction : PySem.W.nsIn K mainGlobals "_law_fraction" = some (some (.ref a_Lfraction)))
    (l_Lfraction : K.lookup a_Lfraction = some ⟨oc_Lfraction, od_Lfraction, .func (PySem.W.fnOf "_law_fraction" "_law_fraction" (defArgs s_Lfraction) (defBody s_Lfraction) (defScope s_Lfraction) .none kV_Lfraction dc_Lfraction pm_Lfraction an_Lfraction cd_Lfraction ct_Lfraction), sl_Lfraction⟩)
    (c_Lfraction : PySem.W.codeIn K cd_Lfraction "_law_fraction" = true)
    (k_Lfraction : PySem.W.keepIn K (.ref a_Lfraction) = true)
    (g_Lis : PySem.W.nsIn K mainGlobals "_law_is" = some (some (.ref a_Lis)))
    (l_Lis : K.lookup a_Lis = some ⟨oc_Lis, od_Lis, .func (PySem.W.fnOf "_law_is" "_law_is" (defArgs s_Lis) (defBody s_Lis) (defScope s_Lis) .none kV_Lis dc_Lis pm_Lis an_Lis cd_Lis ct_Lis), sl_Lis⟩)
    (c_Lis : PySem.W.codeIn K cd_Lis "_law_is" = true)
    (k_Lis : PySem.W.keepIn K (.ref a_Lis) = true)
    (g_Lnoparts : PySem.W.nsIn K mainGlobals "_law_no_parts" = some (some (.ref a_Lnoparts)))
    (l_Lnoparts : K.lookup a_Lnoparts = some ⟨oc_Lnoparts, od_Lnoparts, .func (PySem.W.fnOf "_law_no_parts" "_law_no_parts" (defArgs s_Lnoparts) (defBody s_Lnoparts) (defScope s_Lnoparts) .none kV_Lnoparts dc_Lnoparts pm_Lnoparts an_Lnoparts cd_Lnoparts ct_Lnoparts), sl_Lnoparts⟩)
    (c_Lnoparts : PySem.W.codeIn K cd_Lnoparts "_law_no_parts" = true)
    (k_Lnoparts : PySem.W.keepIn K (.ref a_Lnoparts) = true)
    (g_Lasked : PySem.W.nsIn K mainGlobals "_law_asked" = some (some (.ref a_Lasked)))
    (l_Lasked : K.lookup a_Lasked = some ⟨oc_Lasked, od_Lasked, .func (PySem.W.fnOf "_law_asked" "_law_asked" (defArgs s_Lasked) (defBody s_Lasked) (defScope s_Lasked) .none kV_Lasked dc_Lasked pm_Lasked an_Lasked cd_Lasked ct_Lasked), sl_Lasked⟩)
    (c_Lasked : PySem.W.codeIn K cd_Lasked "_law_asked" = true)
    (k_Lasked : PySem.W.keepIn K (.ref a_Lasked) = true)
    (g_law : PySem.W.nsIn K mainGlobals "law" = some (some (.ref a_law)))
    (l_law : K.lookup a_law = some ⟨oc_law, od_law, .func (PySem.W.fnOf "law" "law" (defArgs s_law) (defBody s_law) (defScope s_law) .none kV_law dc_law pm_law an_law cd_law ct_law), sl_law⟩)
    (c_law : PySem.W.codeIn K cd_law "law" = true)
    (k_law : PySem.W.keepIn K (.ref a_law) = true)
    (gc_NoNumber : PySem.W.nsIn K mainGlobals "NoNumber" = some (some (.ref q_NoNumber)))
    (gc_HurryError : PySem.W.nsIn K mainGlobals "HurryError" = some (some (.ref q_HurryError)))
    (gc_NoChange : PySem.W.nsIn K mainGlobals "NoChange" = some (some (.ref q_NoChange)))
    (gc_NoDeed : PySem.W.nsIn K mainGlobals "NoDeed" = some (some (.ref q_NoDeed)))
    (gc_NoDiary : PySem.W.nsIn K mainGlobals "NoDiary" = some (some (.ref q_NoDiary)))
    (gc_NoJoin : PySem.W.nsIn K mainGlobals "NoJoin" = some (some (.ref q_NoJoin)))
    (gc_NoName : PySem.W.nsIn K mainGlobals "NoName" = some (some (.ref q_NoName)))
    (gc_NoNet : PySem.W.nsIn K mainGlobals "NoNet" = some (some (.ref q_NoNet)))
    (gc_NoPaper : PySem.W.nsIn K mainGlobals "NoPaper" = some (some (.ref q_NoPaper)))
    (gc_NoRow : PySem.W.nsIn K mainGlobals "NoRow" = some (some (.ref q_NoRow)))
    (gc_NoText : PySem.W.nsIn K mainGlobals "NoText" = some (some (.ref q_NoText)))
    (gc_NoTime : PySem.W.nsIn K mainGlobals "NoTime" = some (some (.ref q_NoTime)))
    (gc_NoTree : PySem.W.nsIn K mainGlobals "NoTree" = some (some (.ref q_NoTree)))
    (gc_NotSteps : PySem.W.nsIn K mainGlobals "NotSteps" = some (some (.ref q_NotSteps)))
    (gc_NotStraight : PySem.W.nsIn K mainGlobals "NotStraight" = some (some (.ref q_NotStraight)))
    (gc_TooMany : PySem.W.nsIn K mainGlobals "TooMany" = some (some (.ref q_TooMany)))
    (gc_Unbalanced : PySem.W.nsIn K mainGlobals "Unbalanced" = some (some (.ref q_Unbalanced)))
    (z_ValueError : PySem.W.nsIn K mainGlobals "ValueError" = some none)
    (z_abs : PySem.W.nsIn K mainGlobals "abs" = some none)
    (z_bool : PySem.W.nsIn K mainGlobals "bool" = some none)
    (z_int : PySem.W.nsIn K mainGlobals "int" = some none)
    (z_isinstance : PySem.W.nsIn K mainGlobals "isinstance" = some none)
    (z_len : PySem.W.nsIn K mainGlobals "len" = some none)
    (z_max : PySem.W.nsIn K mainGlobals "max" = some none)
    (z_min : PySem.W.nsIn K mainGlobals "min" = some none)
    (z_range : PySem.W.nsIn K mainGlobals "range" = some none)
    (z_tuple : PySem.W.nsIn K mainGlobals "tuple" = some none)
    (ex_NoNumber : PySem.W.excIn K q_NoNumber vTail "ValueError.__new__" = true)
    (xm_NoNumber_HurryError : PySem.W.exmOne K (.ref q_NoNumber) (.ref q_HurryError) = some true)
    (xga_NoNumber : PySem.W.findIn K (.ref q_NoNumber) "__getattribute__" = some (some (.builtin "BaseException.__getattribute__")))
    (xgn_NoNumber : PySem.W.findIn K (.ref q_NoNumber) "__getattr__" = some none)
    (xgc_NoNumber : PySem.W.findIn K (.ref q_NoNumber) "__class__" = some (some (.builtin "object.__class__")))
    (xsb_NoNumber : PySem.W.subIn K (.ref q_NoNumber) (.type "BaseException") = some true)
    (xso_NoNumber : PySem.W.subIn K (.ref q_NoNumber) (.type "object") = some true)
    (xhd_NoNumber : PySem.W.hasDictIn K q_NoNumber = true)
    (xty_NoNumber : (K.lookup q_NoNumber).map (·.cls) = some (.type "type"))
    (xt_NoNumber_NoChange_NoDeed_NoDiary_NoJoin_NoName_NoNet_NoPaper_NoRow : PySem.W.kitAny K (.ref q_NoNumber) [(.ref q_NoChange), (.ref q_NoDeed), (.ref q_NoDiary), (.ref q_NoJoin), (.ref q_NoName), (.ref q_NoNet), (.ref q_NoPaper), (.ref q_NoRow)] = some false)
    (xt_NoNumber_NoText_NoTime_NoTree_NotSteps_NotStraight_TooMany_Unbalanced : PySem.W.kitAny K (.ref q_NoNumber) [(.ref q_NoText), (.ref q_NoTime), (.ref q_NoTree), (.ref q_NotSteps), (.ref q_NotStraight), (.ref q_TooMany), (.ref q_Unbalanced)] = some false)
    (xi_NoNumber_ValueError : PySem.W.kitOne K (.ref q_NoNumber) (.type "ValueError") = some true)
    (xi_NoNumber_NoNumber : PySem.W.kitOne K (.ref q_NoNumber) (.ref q_NoNumber) = some true)
    : ∃ fd : FuncData, (∀ (s : Shared) (v : Value), BindsTo s fd ⟨[v], []⟩ [("_law_script", v)]) ∧ ∀ base : Heap, K.In base → base.Ns mainGlobals mg → FnOk l.prog w K mg base CX0 6 fa fd ["_law_script"] (sp_law K) := by
  have e := hfa.symm.trans (PySem.W.mg_of X G g_law)
  cases e
  have T : Txt K mg ⟨a_commonpart, PySem.W.fnOf "common_part" "common_part" (defArgs s_commonpart) (defBody s_commonpart) (defScope s_commonpart) .none kV_commonpart dc_commonpart pm_commonpart an_commonpart cd_commonpart ct_commonpart, a_plus, PySem.W.fnOf "plus" "plus" (defArgs s_plus) (defBody s_plus) (defScope s_plus) .none kV_plus dc_plus pm_plus an_plus cd_plus ct_plus, a_minus, PySem.W.fnOf "minus" "minus" (defArgs s_minus) (defBody s_minus) (defScope s_minus) .none kV_minus dc_minus pm_minus an_minus cd_minus ct_minus, a_product, PySem.W.fnOf "product" "product" (defArgs s_product) (defBody s_product) (defScope s_product) .none kV_product dc_product pm_product an_product cd_product ct_product, a_parted, PySem.W.fnOf "parted" "parted" (defArgs s_parted) (defBody s_parted) (defScope s_parted) .none kV_parted dc_parted pm_parted an_parted cd_parted ct_parted, a_isless, PySem.W.fnOf "is_less" "is_less" (defArgs s_isless) (defBody s_isless) (defScope s_isless) .none kV_isless dc_isless pm_isless an_isless cd_isless ct_isless, a_larger, PySem.W.fnOf "larger" "larger" (defArgs s_larger) (defBody s_larger) (defScope s_larger) .none kV_larger dc_larger pm_larger an_larger cd_larger ct_larger, a_smaller, PySem.W.fnOf "smaller" "smaller" (defArgs s_smaller) (defBody s_smaller) (defScope s_smaller) .none kV_smaller dc_smaller pm_smaller an_smaller cd_smaller ct_smaller, a_Lbegun, PySem.W.fnOf "_law_begun" "_law_begun" (defArgs s_Lbegun) (defBody s_Lbegun) (defScope s_Lbegun) .none kV_Lbegun dc_Lbegun pm_Lbegun an_Lbegun cd_Lbegun ct_Lbegun, a_Ltake, PySem.W.fnOf "_law_take" "_law_take" (defArgs s_Ltake) (defBody s_Ltake) (defScope s_Ltake) .none kV_Ltake dc_Ltake pm_Ltake an_Ltake cd_Ltake ct_Ltake, a_Llow, PySem.W.fnOf "_law_low" "_law_low" (defArgs s_Llow) (defBody s_Llow) (defScope s_Llow) .none kV_Llow dc_Llow pm_Llow an_Llow cd_Llow ct_Llow, a_Lnumber, PySem.W.fnOf "_law_number" "_law_number" (defArgs s_Lnumber) (defBody s_Lnumber) (defScope s_Lnumber) .none kV_Lnumber dc_Lnumber pm_Lnumber an_Lnumber cd_Lnumber ct_Lnumber, a_Lfraction, PySem.W.fnOf "_law_fraction" "_law_fraction" (defArgs s_Lfraction) (defBody s_Lfraction) (defScope s_Lfraction) .none kV_Lfraction dc_Lfraction pm_Lfraction an_Lfraction cd_Lfraction ct_Lfraction, a_Lis, PySem.W.fnOf "_law_is" "_law_is" (defArgs s_Lis) (defBody s_Lis) (defScope s_Lis) .none kV_Lis dc_Lis pm_Lis an_Lis cd_Lis ct_Lis, a_Lnoparts, PySem.W.fnOf "_law_no_parts" "_law_no_parts" (defArgs s_Lnoparts) (defBody s_Lnoparts) (defScope s_Lnoparts) .none kV_Lnoparts dc_Lnoparts pm_Lnoparts an_Lnoparts cd_Lnoparts ct_Lnoparts, a_Lasked, PySem.W.fnOf "_law_asked" "_law_asked" (defArgs s_Lasked) (defBody s_Lasked) (defScope s_Lasked) .none kV_Lasked dc_Lasked pm_Lasked an_Lasked cd_Lasked ct_Lasked, fa, PySem.W.fnOf "law" "law" (defArgs s_law) (defBody s_law) (defScope s_law) .none kV_law dc_law pm_law an_law cd_law ct_law, q_NoNumber, q_HurryError, q_NoChange, q_NoDeed, q_NoDiary, q_NoJoin, q_NoName, q_NoNet, q_NoPaper, q_NoRow, q_NoText, q_NoTime, q_NoTree, q_NotSteps, q_NotStraight, q_TooMany, q_Unbalanced⟩ := ⟨fun_mk (st := s_commonpart) l_commonpart c_commonpart k_commonpart, PySem.W.mg_of X G g_commonpart, fun_mk (st := s_plus) l_plus c_plus k_plus, PySem.W.mg_of X G g_plus, fun_mk (st := s_minus) l_minus c_minus k_minus, PySem.W.mg_of X G g_minus, fun_mk (st := s_product) l_product c_product k_product, PySem.W.mg_of X G g_product, fun_mk (st := s_parted) l_parted c_parted k_parted, PySem.W.mg_of X G g_parted, fun_mk (st := s_isless) l_isless c_isless k_isless, PySem.W.mg_of X G g_isless, fun_mk (st := s_larger) l_larger c_larger k_larger, PySem.W.mg_of X G g_larger, fun_mk (st := s_smaller) l_smaller c_smaller k_smaller, PySem.W.mg_of X G g_smaller, fun_mk (st := s_Lbegun) l_Lbegun c_Lbegun k_Lbegun, PySem.W.mg_of X G g_Lbegun, fun_mk (st := s_Ltake) l_Ltake c_Ltake k_Ltake, PySem.W.mg_of X G g_Ltake, fun_mk (st := s_Llow) l_Llow c_Llow k_Llow, PySem.W.mg_of X G g_Llow, fun_mk (st := s_Lnumber) l_Lnumber c_Lnumber k_Lnumber, PySem.W.mg_of X G g_Lnumber, fun_mk (st := s_Lfraction) l_Lfraction c_Lfraction k_Lfraction, PySem.W.mg_of X G g_Lfraction, fun_mk (st := s_Lis) l_Lis c_Lis k_Lis, PySem.W.mg_of X G g_Lis, fun_mk (st := s_Lnoparts) l_Lnoparts c_Lnoparts k_Lnoparts, PySem.W.mg_of X G g_Lnoparts, fun_mk (st := s_Lasked) l_Lasked c_Lasked k_Lasked, PySem.W.mg_of X G g_Lasked, fun_mk (st := s_law) l_law c_law k_law, PySem.W.mg_of X G g_law, PySem.W.mg_of X G gc_NoNumber, PySem.W.mg_of X G gc_HurryError, PySem.W.mg_of X G gc_NoChange, PySem.W.mg_of X G gc_NoDeed, PySem.W.mg_of X G gc_NoDiary, PySem.W.mg_of X G gc_NoJoin, PySem.W.mg_of X G gc_NoName, PySem.W.mg_of X G gc_NoNet, PySem.W.mg_of X G gc_NoPaper, PySem.W.mg_of X G gc_NoRow, PySem.W.mg_of X G gc_NoText, PySem.W.mg_of X G gc_NoTime, PySem.W.mg_of X G gc_NoTree, PySem.W.mg_of X G gc_NotSteps, PySem.W.mg_of X G gc_NotStraight, PySem.W.mg_of X G gc_TooMany, PySem.W.mg_of X G gc_Unbalanced, PySem.W.mg_none_of X G z_ValueError, PySem.W.mg_none_of X G z_abs, PySem.W.mg_none_of X G z_bool, PySem.W.mg_none_of X G z_int, PySem.W.mg_none_of X G z_isinstance, PySem.W.mg_none_of X G z_len, PySem.W.mg_none_of X G z_max, PySem.W.mg_none_of X G z_min, PySem.W.mg_none_of X G z_range, PySem.W.mg_none_of X G z_tuple, ex_NoNumber, xm_NoNumber_HurryError, xga_NoNumber, xgn_NoNumber, xgc_NoNumber, xsb_NoNumber, xso_NoNumber, xhd_NoNumber, xty_NoNumber, xt_NoNumber_NoChange_NoDeed_NoDiary_NoJoin_NoName_NoNet_NoPaper_NoRow, xt_NoNumber_NoText_NoTime_NoTree_NotSteps_NotStraight_TooMany_Unbalanced, xi_NoNumber_ValueError, xi_NoNumber_NoNumber⟩
  exact ⟨PySem.W.fnOf "law" "law" (defArgs s_law) (defBody s_law) (defScope s_law) .none kV_law dc_law pm_law an_law cd_law ct_law, fun s v => .of_eq rfl, fun base _ _ => ok_law T⟩
theorem walk {l : PySem.W.OpenLaw} {q : Program} {loose : List Str} {XP : (Str → Option Value) → Heap → Prop} {YP : World → Heap → Prop} {d : DefRec} {K : Params → PySem.W.Frag} (hn : l.most = some 63) (hdf : d.params.defaults = [])
    (hY : ∀ (w : World) (h : Heap), YP w h → (K w.params).In h)
    (F : ∀ (w : World) (mg : Str → Option Value) (fa : Addr) (h : Heap), (K w.params).In h → h.Ns mainGlobals mg → mg d.name = some (.ref fa) →
      ∃ fd : FuncData, (∀ (s : Shared) (u : Value), BindsTo s fd ⟨[u], []⟩ [("_law_script", u)]) ∧ ∀ base : Heap, (K w.params).In base → base.Ns mainGlobals mg → FnOk l.prog w (K w.params) mg base CX0 6 fa fd ["_law_script"] (sp_law (K w.params))) :
    PySem.W.WalkO q loose XP YP l.row.toRowW d [] (fun f vs => PySem.call f vs) :=
  L2.walk_of (n := 63) (k := 6) (x := "_law_script") (CX := fun _ => CX0) (sp := fun w => sp_law (K w.params)) hn (by decide) hdf ⟨rfl, by decide, by decide⟩ hY F (fun _ _ a ns hl _ hS => ⟨a, ns, rfl, hS, hl, fun _ => rfl⟩) fun _ _ _ _ _ z => z
end Prf
open PySem PySem.W PyProof.Rows
set_option maxRecDepth 100000 in
set_option maxHeartbeats 0 in
theorem PySem.Challenge.cw_hurryprice_k02_fractions_reckoned_holds : PySem.Challenge.rw_hurryprice_k02_fractions_reckoned.Holds := by
  w_on; o_law; k_head; (case hw => w_witness2)
  k_fill
  refine Prf.walk (l := PySem.Challenge.rw_hurryprice_k02_fractions_reckoned) rfl rfl (fun w h Y => PySem.W.kIn_of Y) ?F
  case F =>
    intro w mg fa h KX G hmg
    refine' Prf.all_mk KX G hmg ?g_commonpart ?l_commonpart ?c_commonpart ?k_commonpart ?g_plus ?l_plus ?c_plus ?k_plus ?g_minus ?l_minus ?c_minus ?k_minus ?g_product ?l_product ?c_product ?k_product ?g_parted ?l_parted ?c_parted ?k_parted ?g_isless ?l_isless ?c_isless ?k_isless ?g_larger ?l_larger ?c_larger ?k_larger ?g_smaller ?l_smaller ?c_smaller ?k_smaller ?g_Lbegun ?l_Lbegun ?c_Lbegun ?k_Lbegun ?g_Ltake ?l_Ltake ?c_Ltake ?k_Ltake ?g_Llow ?l_Llow ?c_Llow ?k_Llow ?g_Lnumber ?l_Lnumber ?c_Lnumber ?k_Lnumber ?g_Lfraction ?l_Lfraction ?c_Lfraction ?k_Lfraction ?g_Lis ?l_Lis ?c_Lis ?k_Lis ?g_Lnoparts ?l_Lnoparts ?c_Lnoparts ?k_Lnoparts ?g_Lasked ?l_Lasked ?c_Lasked ?k_Lasked ?g_law ?l_law ?c_law ?k_law ?gc_NoNumber ?gc_HurryError ?gc_NoChange ?gc_NoDeed ?gc_NoDiary ?gc_NoJoin ?gc_NoName ?gc_NoNet ?gc_NoPaper ?gc_NoRow ?gc_NoText ?gc_NoTime ?gc_NoTree ?gc_NotSteps ?gc_NotStraight ?gc_TooMany ?gc_Unbalanced ?z_ValueError ?z_abs ?z_bool ?z_int ?z_isinstance ?z_len ?z_max ?z_min ?z_range ?z_tuple ?ex_NoNumber ?xm_NoNumber_HurryError ?xga_NoNumber ?xgn_NoNumber ?xgc_NoNumber ?xsb_NoNumber ?xso_NoNumber ?xhd_NoNumber ?xty_NoNumber ?xt_NoNumber_NoChange_NoDeed_NoDiary_NoJoin_NoName_NoNet_NoPaper_NoRow ?xt_NoNumber_NoText_NoTime_NoTree_NotSteps_NotStraight_TooMany_Unbalanced ?xi_NoNumber_ValueError ?xi_NoNumber_NoNumber
    (case g_commonpart => k_is)
    (case l_commonpart => k_is)
    (case c_commonpart => k_is)
    (case k_commonpart => k_is)
    (case g_plus => k_is)
    (case l_plus => k_is)
    (case c_plus => k_is)
    (case k_plus => k_is)
    (case g_minus => k_is)
    (case l_minus => k_is)
    (case c_minus => k_is)
    (case k_minus => k_is)
    (case g_product => k_is)
    (case l_product => k_is)
    (case c_product => k_is)
    (case k_product => k_is)
    (case g_parted => k_is)
    (case l_parted => k_is)
    (case c_parted => k_is)
    (case k_parted => k_is)
    (case g_isless => k_is)
    (case l_isless => k_is)
    (case c_isless => k_is)
    (case k_isless => k_is)
    (case g_larger => k_is)
    (case l_larger => k_is)
    (case c_larger => k_is)
    (case k_larger => k_is)
    (case g_smaller => k_is)
    (case l_smaller => k_is)
    (case c_smaller => k_is)
    (case k_smaller => k_is)
    (case g_Lbegun => k_is)
    (case l_Lbegun => k_is)
    (case c_Lbegun => k_is)
    (case k_Lbegun => k_is)
    (case g_Ltake => k_is)
    (case l_Ltake => k_is)
    (case c_Ltake => k_is)
    (case k_Ltake => k_is)
    (case g_Llow => k_is)
    (case l_Llow => k_is)
    (case c_Llow => k_is)
    (case k_Llow => k_is)
    (case g_Lnumber => k_is)
    (case l_Lnumber => k_is)
    (case c_Lnumber => k_is)
    (case k_Lnumber => k_is)
    (case g_Lfraction => k_is)
    (case l_Lfraction => k_is)
    (case c_Lfraction => k_is)
    (case k_Lfraction => k_is)
    (case g_Lis => k_is)
    (case l_Lis => k_is)
    (case c_Lis => k_is)
    (case k_Lis => k_is)
    (case g_Lnoparts => k_is)
    (case l_Lnoparts => k_is)
    (case c_Lnoparts => k_is)
    (case k_Lnoparts => k_is)
    (case g_Lasked => k_is)
    (case l_Lasked => k_is)
    (case c_Lasked => k_is)
    (case k_Lasked => k_is)
    (case g_law => k_is)
    (case l_law => k_is)
    (case c_law => k_is)
    (case k_law => k_is)
    (case gc_NoNumber => k_is)
    (case gc_HurryError => k_is)
    (case gc_NoChange => k_is)
    (case gc_NoDeed => k_is)
    (case gc_NoDiary => k_is)
    (case gc_NoJoin => k_is)
    (case gc_NoName => k_is)
    (case gc_NoNet => k_is)
    (case gc_NoPaper => k_is)
    (case gc_NoRow => k_is)
    (case gc_NoText => k_is)
    (case gc_NoTime => k_is)
    (case gc_NoTree => k_is)
    (case gc_NotSteps => k_is)
    (case gc_NotStraight => k_is)
    (case gc_TooMany => k_is)
    (case gc_Unbalanced => k_is)
    (case z_ValueError => k_is)
    (case z_abs => k_is)
    (case z_bool => k_is)
    (case z_int => k_is)
    (case z_isinstance => k_is)
    (case z_len => k_is)
    (case z_max => k_is)
    (case z_min => k_is)
    (case z_range => k_is)
    (case z_tuple => k_is)
    (case ex_NoNumber => with_unfolding_all exact rfl)
    (case xm_NoNumber_HurryError => exact rfl)
    (case xga_NoNumber => k_is)
    (case xgn_NoNumber => k_is)
    (case xgc_NoNumber => k_is)
    (case xsb_NoNumber => k_is)
    (case xso_NoNumber => k_is)
    (case xhd_NoNumber => k_is)
    (case xty_NoNumber => exact rfl)
    (case xt_NoNumber_NoChange_NoDeed_NoDiary_NoJoin_NoName_NoNet_NoPaper_NoRow => exact rfl)
    (case xt_NoNumber_NoText_NoTime_NoTree_NotSteps_NotStraight_TooMany_Unbalanced => exact rfl)
    (case xi_NoNumber_ValueError => exact rfl)
    (case xi_NoNumber_NoNumber => exact rfl)
