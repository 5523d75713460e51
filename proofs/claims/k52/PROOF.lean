import PyProof.Rows.All
import Wide.All
import OpenK.AllK
import Wide.FinOn
import Lean
import PyProof.EqAt
import PyProof.EqKinds
import PyProof.TupleCall
import PySem.Challenge.RW_hurryprice_k52_side_by_side
set_option Elab.async false
set_option linter.all false
set_option maxRecDepth 100000
set_option maxHeartbeats 4000000
namespace L2
open PySem PySem.Spec PyProof.Rows
def A8 (s : Stmt) : Arguments := match s with
  | .FunctionDef _ a _ _ _ _ _ _ _ _ => a
  | _ => { posonlyargs := [], args := [], vararg := none, kwonlyargs := [], kw_defaults := [], kwarg := none, defaults := [] }
def A7 (s : Stmt) : List Stmt := match s with
  | .FunctionDef _ _ b _ _ _ _ _ _ _ => b
  | _ => []
def A3 (s : Stmt) : Scope := match s with
  | .FunctionDef _ _ _ _ _ _ sc _ _ _ => sc
  | _ => { kind := .function, names := [], isGenerator := false, isCoroutine := false }
end L2
namespace L2
open PySem PySem.W PySem.Spec PyProof.Rows
def P8 (tb : String -> Option Builtin) (p : Program) (w : World) (m : Nat) (ann : Option Value) : Nat -> SharedT -> Thread -> Option SharedT
  | 0, _, _ => none
  | n + 1, s, t => match through t with
    | true => some s
    | false => match stepOk m ann t with
      | false => none
      | true => match stepT (denote tb) p w s t with
        | some x => P8 tb p w m ann n x.1 x.2
        | none => none
theorem V7 {tb : String -> Option Builtin} {p : Program} {w : World} {m : Nat} {ann : Option Value} : ∀ (n : Nat) (s r : SharedT) (t : Thread), P8 tb p w m ann n s t = some r -> topRun tb p w m ann n s.abs t = some r.abs
  | 0, _, _, _, h => by cases h
  | n + 1, s, r, t, h => by
    unfold P8 at h
    unfold topRun
    cases a : through t with
    | true => rw [a] at h; cases h; rfl
    | false =>
      rw [a] at h
      cases b : stepOk m ann t with
      | false => rw [b] at h; cases h
      | true =>
        rw [b] at h
        cases c : stepT (denote tb) p w s t with
        | none => rw [c] at h; cases h
        | some x =>
          rw [c] at h
          rw [stepT_spec (s' := x.1) (t' := x.2) c]
          exact V7 n x.1 r x.2 h
def mkT (os : List Obj) : Nat -> Nat -> Nat -> BT
  | 0, _, _ => .nil
  | k + 1, a, b => match os[b]? with
    | some o => .node o (mkT os k (2 * a) (a + b)) (mkT os k (2 * a) (2 * a + b))
    | none => .nil
noncomputable def A5c (w : World) (os : OsState) : Shared := ⟨boot_heap w.params, Array.mk [], boot_drawn, boot_toks, os⟩
noncomputable def B1s (w : World) (os : OsState) : SharedT := ⟨mkT (boot_heap w.params).objs.toList 12 1 0, (boot_heap w.params).objs.size, (boot_heap w.params).life, Array.mk [], boot_drawn, boot_toks, os⟩
theorem B1r (w : World) (os : OsState) : (B1s w os).abs = A5c w os := by kernel_rfl
theorem B6t (w : World) (os : OsState) : ((A5c w os).heap.isNs mainGlobals && (A5c w os).gens.size == 0) = true := by kernel_rfl
theorem C1c {p q : Program} {loose : List Str} {Xt : Shared -> Bool} {α : Type} {Yf : Shared -> α} {Ya : World -> α} {N : Nat} (ho : opening p = plainProg p.main.scope.names) (hN : Nat.ble 600 N = true) (hf : ∀ s, fenceModules? p s = some s)
    (run : ∀ (w : World) (os : OsState), (P8 treeTable p w (boot_heap w.params).objs.size ((boot_heap w.params).nsMap mainGlobals "__annotations__") N (B1s w os) (topStub p)).map
      (fun x => (staticsOk (importedModules p.main.body) (boot_heap w.params) x.abs.heap && namesBound p x.abs.heap && gensDone x.abs && laidKept (boot_heap w.params) x.abs.heap, openSeen q loose (importedModules p.main.body) Xt true x.abs, Yf x.abs)) = some (true, openGood q loose, Ya w)) :
    LeftO p q loose Xt Yf Ya N := fun w => by
  obtain ⟨⟨h, gs, d, k, os⟩, e, z⟩ := Option.map_eq_some_iff.mp (boot_open ho hN hf w)
  obtain ⟨rfl, rfl, rfl, rfl⟩ : h = boot_heap w.params /\ gs = Array.mk [] /\ d = boot_drawn /\ k = boot_toks := by simpa using z
  obtain ⟨x, r, v⟩ := Option.map_eq_some_iff.mp (run w os)
  have r := V7 _ _ _ _ r
  rw [B1r] at r
  obtain ⟨v1, v2⟩ := Prod.mk.inj v
  obtain ⟨v2, v3⟩ := Prod.mk.inj v2
  show ((fencedOpening treeTable p w N).bind (topFrom treeTable p w N)).map _ = _
  rw [e]
  show (topFrom treeTable p w N (A5c w os)).map _ = _
  have t : topFrom treeTable p w N (A5c w os) = some x.abs := by
    unfold topFrom
    rw [B6t]
    show (topRun treeTable p w (boot_heap w.params).objs.size ((boot_heap w.params).nsMap mainGlobals "__annotations__") N (A5c w os) (topStub p)).bind _ = _
    rw [r]
    show (match staticsOk (importedModules p.main.body) (boot_heap w.params) x.abs.heap && namesBound p x.abs.heap && gensDone x.abs && laidKept (boot_heap w.params) x.abs.heap with | true => some x.abs | false => none) = _
    rw [v1]
  rw [t]
  show some (openSeen q loose (importedModules p.main.body) Xt true x.abs, Yf x.abs) = _
  rw [v2, v3]
noncomputable abbrev ranT (p : Program) (N : Nat) (w : World) (os : OsState) : Option SharedT := P8 treeTable p w (boot_heap w.params).objs.size ((boot_heap w.params).nsMap mainGlobals "__annotations__") N (B1s w os) (topStub p)
theorem B9q {p q : Program} {loose : List Str} {Xt : Shared -> Bool} {α : Type} {Yf : Shared -> α} {Ya : World -> α} {N : Nat} (ho : opening p = plainProg p.main.scope.names) (hN : Nat.ble 600 N = true) (hf : ∀ s, fenceModules? p s = some s)
    (a : ∀ (w : World) (os : OsState), (ranT p N w os).map (fun x => staticsOk (importedModules p.main.body) (boot_heap w.params) x.abs.heap && namesBound p x.abs.heap && gensDone x.abs && laidKept (boot_heap w.params) x.abs.heap) = some true)
    (b : ∀ (w : World) (os : OsState), (ranT p N w os).map (fun x => openSeen q loose (importedModules p.main.body) Xt true x.abs) = some (openGood q loose))
    (c : ∀ (w : World) (os : OsState), (ranT p N w os).map (fun x => Yf x.abs) = some (Ya w)) : LeftO p q loose Xt Yf Ya N :=
  C1c ho hN hf fun w os => by
    obtain ⟨x, r, e⟩ := Option.map_eq_some_iff.mp (a w os)
    have r' : P8 treeTable p w (boot_heap w.params).objs.size ((boot_heap w.params).nsMap mainGlobals "__annotations__") N (B1s w os) (topStub p) = some x := r
    have f : openSeen q loose (importedModules p.main.body) Xt true x.abs = openGood q loose := by have z := b w os; rw [r] at z; exact Option.some.inj z
    have g : Yf x.abs = Ya w := by have z := c w os; rw [r] at z; exact Option.some.inj z
    rw [r']
    show some (_, _, _) = _
    rw [e, f, g]
theorem B9p {p q : Program} {loose : List Str} {Xt : Shared -> Bool} {α : Type} {Yf : Shared -> α} {Ya : World -> α} {N : Nat} (ho : opening p = plainProg p.main.scope.names) (hN : Nat.ble 600 N = true) (hf : ∀ s, fenceModules? p s = some s)
    (a : ∀ (w : World) (os : OsState), (ranT p N w os).map (fun x => staticsOk (importedModules p.main.body) (boot_heap w.params) x.abs.heap && namesBound p x.abs.heap && gensDone x.abs && laidKept (boot_heap w.params) x.abs.heap) = some true)
    (b : ∀ (w : World) (os : OsState), (ranT p N w os).map (fun x => (openSeen q loose (importedModules p.main.body) Xt true x.abs).1) = some (openGood q loose).1)
    (b' : ∀ (w : World) (os : OsState), (ranT p N w os).map (fun x => (openSeen q loose (importedModules p.main.body) Xt true x.abs).2) = some (openGood q loose).2)
    (c : ∀ (w : World) (os : OsState), (ranT p N w os).map (fun x => Yf x.abs) = some (Ya w)) : LeftO p q loose Xt Yf Ya N :=
  B9q ho hN hf a (fun w os => by
    obtain ⟨x, r, e⟩ := Option.map_eq_some_iff.mp (b w os)
    have z := b' w os
    rw [r] at z ⊢
    exact congrArg some (Prod.ext e (Option.some.inj z))) c
end L2
namespace Prf
open PySem L2
def top (i : Nat) : Stmt := PySem.Challenge.pw_hurryprice_k52_side_by_side.main.body.getD i (.Pass ⟨0, 0, 0, 0⟩)
abbrev s_commonpart : Stmt := top 1
abbrev s_plus : Stmt := top 7
abbrev s_minus : Stmt := top 8
abbrev s_product : Stmt := top 9
abbrev s_parted : Stmt := top 10
abbrev s_isless : Stmt := top 11
abbrev s_between : Stmt := top 13
abbrev s_sharebetween : Stmt := top 14
abbrev s_pieceat : Stmt := top 16
abbrev s_priceat : Stmt := top 17
abbrev s_mergedwholes : Stmt := top 18
abbrev s_wordat : Stmt := top 22
abbrev s_crossingbetween : Stmt := top 23
abbrev s_turningwholes : Stmt := top 24
abbrev s_sidebyside : Stmt := top 25
abbrev s_Lbegun : Stmt := top 27
abbrev s_Ltake : Stmt := top 28
abbrev s_Llow : Stmt := top 29
abbrev s_Lplus : Stmt := top 30
abbrev s_Lminus : Stmt := top 31
abbrev s_Ltimes : Stmt := top 32
abbrev s_Lunder : Stmt := top 33
abbrev s_Lamount : Stmt := top 34
abbrev s_Lshape : Stmt := top 35
abbrev s_Lparted : Stmt := top 36
abbrev s_Lfall : Stmt := top 37
abbrev s_Lprice : Stmt := top 38
abbrev s_Lword : Stmt := top 39
abbrev s_Ltoldword : Stmt := top 40
abbrev s_Lahead : Stmt := top 41
abbrev s_Lline : Stmt := top 42
abbrev s_Lcrossings : Stmt := top 43
abbrev s_Lspots : Stmt := top 44
abbrev s_Linform : Stmt := top 45
abbrev s_Lright : Stmt := top 46
abbrev s_law : Stmt := top 47
abbrev nE (P : Params) (x : Str) (t : Tok) (v : Value) : DictEntry := ⟨PyData.keyHash P x, .str x t, v⟩
noncomputable def kk : Params -> PySem.W.Frag := fun P =>
  (nat_lit 3, ⟨(.type "dict"), none, (.dict #[nE P "__name__" 165 (.str "law_hurryprice_k52_side_by_side" 374), nE P "__doc__" 166 .none, nE P "__package__" 167 .none, nE P "__loader__" 168 (.builtin "__main__.__loader__#opaque"), nE P "__spec__" 169 .none, nE P "__annotations__" 170 (.ref 6), nE P "__builtins__" 171 (.ref 4), nE P "__file__" 173 (.str "/claim/cut.py" 172), nE P "__cached__" 174 .none, nE P "common_part" 196 (.ref 21), nE P "HurryError" 216 (.ref 31), nE P "NoNumber" 232 (.ref 44), nE P "NOUGHT" 237 (.ref 47), nE P "plus" 250 (.ref 54), nE P "minus" 258 (.ref 61), nE P "product" 268 (.ref 68), nE P "parted" 278 (.ref 75), nE P "is_less" 286 (.ref 82), nE P "between" 297 (.ref 89), nE P "share_between" 306 (.ref 96), nE P "piece_at" 314 (.ref 101), nE P "price_at" 323 (.ref 108), nE P "merged_wholes" 329 (.ref 113), nE P "HALF" 334 (.ref 114), nE P "ONE" 337 (.ref 115), nE P "word_at" 348 (.ref 122), nE P "crossing_between" 354 (.ref 127), nE P "turning_wholes" 367 (.ref 134), nE P "side_by_side" 373 (.ref 139), nE P "_law_begun" 384 (.ref 146), nE P "_law_take" 395 (.ref 153), nE P "_law_low" 405 (.ref 160), nE P "_law_plus" 413 (.ref 167), nE P "_law_minus" 421 (.ref 174), nE P "_law_times" 429 (.ref 181), nE P "_law_under" 437 (.ref 188), nE P "_law_amount" 448 (.ref 195), nE P "_law_shape" 454 (.ref 200), nE P "_law_parted" 462 (.ref 207), nE P "_law_fall" 470 (.ref 214), nE P "_law_price" 481 (.ref 221), nE P "_law_word" 492 (.ref 228), nE P "_law_told_word" 504 (.ref 235), nE P "_law_ahead" 513 (.ref 242), nE P "_law_line" 522 (.ref 249), nE P "_law_crossings" 535 (.ref 256), nE P "_law_spots" 541 (.ref 261), nE P "_law_in_form" 554 (.ref 268), nE P "_law_right" 560 (.ref 273), nE P "law" 566 (.ref 278)] 50), #[]⟩) ::
  (nat_lit 20, ⟨(.type "code"), none, (.fields #[(.str "common_part" 189), (.str "common_part" 190), (.str "/claim/cut.py" 191), (.int 2 0), (.int 2 0), (.int 0 0), (.int 0 0), (.int 3 0), (.ref 15), (.bool true), (.int 181 0), (.ref 16), .none, (.ref 17), (.ref 18), (.ref 19), (.int 194 0), (.int 2 0), (.str "/claim/cut.py" 195)]), #[]⟩) ::
  (nat_lit 21, ⟨(.type "function"), none, (.func (PySem.W.fnOf "common_part" "common_part" (A8 s_commonpart) (A7 s_commonpart) (A3 s_commonpart) .none .none .none (.str "hurryprice.names" 187) none (.ref 20) .none)), #[]⟩) ::
  (nat_lit 47, ⟨(.type "tuple"), none, (.seq #[(.int 0 235), (.int 1 236)] 0), #[]⟩) ::
  (nat_lit 53, ⟨(.type "code"), none, (.fields #[(.str "plus" 238), (.str "plus" 239), (.str "/claim/cut.py" 240), (.int 14 0), (.int 2 0), (.int 0 0), (.int 0 0), (.int 3 0), (.ref 48), (.bool true), (.int 181 0), (.ref 49), .none, (.ref 50), (.ref 51), (.ref 52), (.int 248 0), (.int 14 0), (.str "/claim/cut.py" 249)]), #[]⟩) ::
  (nat_lit 54, ⟨(.type "function"), none, (.func (PySem.W.fnOf "plus" "plus" (A8 s_plus) (A7 s_plus) (A3 s_plus) .none .none .none (.str "hurryprice.ratios" 233) none (.ref 53) .none)), #[]⟩) ::
  (nat_lit 60, ⟨(.type "code"), none, (.fields #[(.str "minus" 251), (.str "minus" 252), (.str "/claim/cut.py" 253), (.int 20 0), (.int 2 0), (.int 0 0), (.int 0 0), (.int 3 0), (.ref 55), (.bool true), (.int 181 0), (.ref 56), .none, (.ref 57), (.ref 58), (.ref 59), (.int 256 0), (.int 20 0), (.str "/claim/cut.py" 257)]), #[]⟩) ::
  (nat_lit 61, ⟨(.type "function"), none, (.func (PySem.W.fnOf "minus" "minus" (A8 s_minus) (A7 s_minus) (A3 s_minus) .none .none .none (.str "hurryprice.ratios" 233) none (.ref 60) .none)), #[]⟩) ::
  (nat_lit 67, ⟨(.type "code"), none, (.fields #[(.str "product" 259), (.str "product" 260), (.str "/claim/cut.py" 261), (.int 22 0), (.int 2 0), (.int 0 0), (.int 0 0), (.int 3 0), (.ref 62), (.bool true), (.int 181 0), (.ref 63), .none, (.ref 64), (.ref 65), (.ref 66), (.int 266 0), (.int 22 0), (.str "/claim/cut.py" 267)]), #[]⟩) ::
  (nat_lit 68, ⟨(.type "function"), none, (.func (PySem.W.fnOf "product" "product" (A8 s_product) (A7 s_product) (A3 s_product) .none .none .none (.str "hurryprice.ratios" 233) none (.ref 67) .none)), #[]⟩) ::
  (nat_lit 74, ⟨(.type "code"), none, (.fields #[(.str "parted" 269), (.str "parted" 270), (.str "/claim/cut.py" 271), (.int 25 0), (.int 2 0), (.int 0 0), (.int 0 0), (.int 3 0), (.ref 69), (.bool true), (.int 181 0), (.ref 70), .none, (.ref 71), (.ref 72), (.ref 73), (.int 276 0), (.int 25 0), (.str "/claim/cut.py" 277)]), #[]⟩) ::
  (nat_lit 75, ⟨(.type "function"), none, (.func (PySem.W.fnOf "parted" "parted" (A8 s_parted) (A7 s_parted) (A3 s_parted) .none .none .none (.str "hurryprice.ratios" 233) none (.ref 74) .none)), #[]⟩) ::
  (nat_lit 81, ⟨(.type "code"), none, (.fields #[(.str "is_less" 279), (.str "is_less" 280), (.str "/claim/cut.py" 281), (.int 30 0), (.int 2 0), (.int 0 0), (.int 0 0), (.int 3 0), (.ref 76), (.bool true), (.int 181 0), (.ref 77), .none, (.ref 78), (.ref 79), (.ref 80), (.int 284 0), (.int 30 0), (.str "/claim/cut.py" 285)]), #[]⟩) ::
  (nat_lit 82, ⟨(.type "function"), none, (.func (PySem.W.fnOf "is_less" "is_less" (A8 s_isless) (A7 s_isless) (A3 s_isless) .none .none .none (.str "hurryprice.ratios" 233) none (.ref 81) .none)), #[]⟩) ::
  (nat_lit 88, ⟨(.type "code"), none, (.fields #[(.str "between" 289), (.str "between" 290), (.str "/claim/cut.py" 291), (.int 33 0), (.int 3 0), (.int 0 0), (.int 0 0), (.int 3 0), (.ref 83), (.bool true), (.int 181 0), (.ref 84), .none, (.ref 85), (.ref 86), (.ref 87), (.int 295 0), (.int 33 0), (.str "/claim/cut.py" 296)]), #[]⟩) ::
  (nat_lit 89, ⟨(.type "function"), none, (.func (PySem.W.fnOf "between" "between" (A8 s_between) (A7 s_between) (A3 s_between) .none .none .none (.str "hurryprice.plans" 287) none (.ref 88) .none)), #[]⟩) ::
  (nat_lit 95, ⟨(.type "code"), none, (.fields #[(.str "share_between" 298), (.str "share_between" 299), (.str "/claim/cut.py" 300), (.int 35 0), (.int 3 0), (.int 0 0), (.int 0 0), (.int 3 0), (.ref 90), (.bool true), (.int 181 0), (.ref 91), .none, (.ref 92), (.ref 93), (.ref 94), (.int 304 0), (.int 35 0), (.str "/claim/cut.py" 305)]), #[]⟩) ::
  (nat_lit 96, ⟨(.type "function"), none, (.func (PySem.W.fnOf "share_between" "share_between" (A8 s_sharebetween) (A7 s_sharebetween) (A3 s_sharebetween) .none .none .none (.str "hurryprice.plans" 287) none (.ref 95) .none)), #[]⟩) ::
  (nat_lit 100, ⟨(.type "code"), none, (.fields #[(.str "piece_at" 309), (.str "piece_at" 310), (.str "/claim/cut.py" 311), (.int 38 0), (.int 2 0), (.int 0 0), (.int 0 0), (.int 3 0), (.ref 97), (.bool true), (.int 181 0), (.ref 98), .none, .none, .none, (.ref 99), (.int 312 0), (.int 38 0), (.str "/claim/cut.py" 313)]), #[]⟩) ::
  (nat_lit 101, ⟨(.type "function"), none, (.func (PySem.W.fnOf "piece_at" "piece_at" (A8 s_pieceat) (A7 s_pieceat) (A3 s_pieceat) .none .none .none (.str "hurryprice.shapes" 307) none (.ref 100) .none)), #[]⟩) ::
  (nat_lit 107, ⟨(.type "code"), none, (.fields #[(.str "price_at" 315), (.str "price_at" 316), (.str "/claim/cut.py" 317), (.int 41 0), (.int 2 0), (.int 0 0), (.int 0 0), (.int 3 0), (.ref 102), (.bool true), (.int 181 0), (.ref 103), .none, (.ref 104), (.ref 105), (.ref 106), (.int 321 0), (.int 41 0), (.str "/claim/cut.py" 322)]), #[]⟩) ::
  (nat_lit 108, ⟨(.type "function"), none, (.func (PySem.W.fnOf "price_at" "price_at" (A8 s_priceat) (A7 s_priceat) (A3 s_priceat) .none .none .none (.str "hurryprice.shapes" 307) none (.ref 107) .none)), #[]⟩) ::
  (nat_lit 112, ⟨(.type "code"), none, (.fields #[(.str "merged_wholes" 324), (.str "merged_wholes" 325), (.str "/claim/cut.py" 326), (.int 48 0), (.int 2 0), (.int 0 0), (.int 0 0), (.int 3 0), (.ref 109), (.bool true), (.int 181 0), (.ref 110), .none, .none, .none, (.ref 111), (.int 327 0), (.int 48 0), (.str "/claim/cut.py" 328)]), #[]⟩) ::
  (nat_lit 113, ⟨(.type "function"), none, (.func (PySem.W.fnOf "merged_wholes" "merged_wholes" (A8 s_mergedwholes) (A7 s_mergedwholes) (A3 s_mergedwholes) .none .none .none (.str "hurryprice.shapes" 307) none (.ref 112) .none)), #[]⟩) ::
  (nat_lit 114, ⟨(.type "tuple"), none, (.seq #[(.int 1 332), (.int 2 333)] 0), #[]⟩) ::
  (nat_lit 115, ⟨(.type "tuple"), none, (.seq #[(.int 1 335), (.int 1 336)] 0), #[]⟩) ::
  (nat_lit 121, ⟨(.type "code"), none, (.fields #[(.str "word_at" 338), (.str "word_at" 339), (.str "/claim/cut.py" 340), (.int 62 0), (.int 3 0), (.int 0 0), (.int 0 0), (.int 3 0), (.ref 116), (.bool true), (.int 181 0), (.ref 117), .none, (.ref 118), (.ref 119), (.ref 120), (.int 346 0), (.int 62 0), (.str "/claim/cut.py" 347)]), #[]⟩) ::
  (nat_lit 122, ⟨(.type "function"), none, (.func (PySem.W.fnOf "word_at" "word_at" (A8 s_wordat) (A7 s_wordat) (A3 s_wordat) .none .none .none (.str "hurryprice.sides" 330) none (.ref 121) .none)), #[]⟩) ::
  (nat_lit 126, ⟨(.type "code"), none, (.fields #[(.str "crossing_between" 349), (.str "crossing_between" 350), (.str "/claim/cut.py" 351), (.int 73 0), (.int 4 0), (.int 0 0), (.int 0 0), (.int 3 0), (.ref 123), (.bool true), (.int 181 0), (.ref 124), .none, .none, .none, (.ref 125), (.int 352 0), (.int 73 0), (.str "/claim/cut.py" 353)]), #[]⟩) ::
  (nat_lit 127, ⟨(.type "function"), none, (.func (PySem.W.fnOf "crossing_between" "crossing_between" (A8 s_crossingbetween) (A7 s_crossingbetween) (A3 s_crossingbetween) .none .none .none (.str "hurryprice.sides" 330) none (.ref 126) .none)), #[]⟩) ::
  (nat_lit 133, ⟨(.type "code"), none, (.fields #[(.str "turning_wholes" 355), (.str "turning_wholes" 356), (.str "/claim/cut.py" 357), (.int 79 0), (.int 2 0), (.int 0 0), (.int 0 0), (.int 3 0), (.ref 128), (.bool true), (.int 181 0), (.ref 129), .none, (.ref 130), (.ref 131), (.ref 132), (.int 365 0), (.int 79 0), (.str "/claim/cut.py" 366)]), #[]⟩) ::
  (nat_lit 134, ⟨(.type "function"), none, (.func (PySem.W.fnOf "turning_wholes" "turning_wholes" (A8 s_turningwholes) (A7 s_turningwholes) (A3 s_turningwholes) .none .none .none (.str "hurryprice.sides" 330) none (.ref 133) .none)), #[]⟩) ::
  (nat_lit 138, ⟨(.type "code"), none, (.fields #[(.str "side_by_side" 368), (.str "side_by_side" 369), (.str "/claim/cut.py" 370), (.int 88 0), (.int 2 0), (.int 0 0), (.int 0 0), (.int 3 0), (.ref 135), (.bool true), (.int 181 0), (.ref 136), .none, .none, .none, (.ref 137), (.int 371 0), (.int 88 0), (.str "/claim/cut.py" 372)]), #[]⟩) ::
  (nat_lit 139, ⟨(.type "function"), none, (.func (PySem.W.fnOf "side_by_side" "side_by_side" (A8 s_sidebyside) (A7 s_sidebyside) (A3 s_sidebyside) .none .none .none (.str "hurryprice.sides" 330) none (.ref 138) .none)), #[]⟩) ::
  (nat_lit 145, ⟨(.type "code"), none, (.fields #[(.str "_law_begun" 376), (.str "_law_begun" 377), (.str "/claim/cut.py" 378), (.int 98 0), (.int 2 0), (.int 0 0), (.int 0 0), (.int 3 0), (.ref 140), (.bool true), (.int 181 0), (.ref 141), .none, (.ref 142), (.ref 143), (.ref 144), (.int 382 0), (.int 98 0), (.str "/claim/cut.py" 383)]), #[]⟩) ::
  (nat_lit 146, ⟨(.type "function"), none, (.func (PySem.W.fnOf "_law_begun" "_law_begun" (A8 s_Lbegun) (A7 s_Lbegun) (A3 s_Lbegun) .none .none .none (.str "law_hurryprice_k52_side_by_side" 374) none (.ref 145) .none)), #[]⟩) ::
  (nat_lit 152, ⟨(.type "code"), none, (.fields #[(.str "_law_take" 385), (.str "_law_take" 386), (.str "/claim/cut.py" 387), (.int 103 0), (.int 2 0), (.int 0 0), (.int 0 0), (.int 3 0), (.ref 147), (.bool true), (.int 181 0), (.ref 148), .none, (.ref 149), (.ref 150), (.ref 151), (.int 393 0), (.int 103 0), (.str "/claim/cut.py" 394)]), #[]⟩) ::
  (nat_lit 153, ⟨(.type "function"), none, (.func (PySem.W.fnOf "_law_take" "_law_take" (A8 s_Ltake) (A7 s_Ltake) (A3 s_Ltake) .none .none .none (.str "law_hurryprice_k52_side_by_side" 374) none (.ref 152) .none)), #[]⟩) ::
  (nat_lit 159, ⟨(.type "code"), none, (.fields #[(.str "_law_low" 396), (.str "_law_low" 397), (.str "/claim/cut.py" 398), (.int 114 0), (.int 2 0), (.int 0 0), (.int 0 0), (.int 3 0), (.ref 154), (.bool true), (.int 181 0), (.ref 155), .none, (.ref 156), (.ref 157), (.ref 158), (.int 403 0), (.int 114 0), (.str "/claim/cut.py" 404)]), #[]⟩) ::
  (nat_lit 160, ⟨(.type "function"), none, (.func (PySem.W.fnOf "_law_low" "_law_low" (A8 s_Llow) (A7 s_Llow) (A3 s_Llow) .none .none .none (.str "law_hurryprice_k52_side_by_side" 374) none (.ref 159) .none)), #[]⟩) ::
  (nat_lit 166, ⟨(.type "code"), none, (.fields #[(.str "_law_plus" 406), (.str "_law_plus" 407), (.str "/claim/cut.py" 408), (.int 120 0), (.int 2 0), (.int 0 0), (.int 0 0), (.int 3 0), (.ref 161), (.bool true), (.int 181 0), (.ref 162), .none, (.ref 163), (.ref 164), (.ref 165), (.int 411 0), (.int 120 0), (.str "/claim/cut.py" 412)]), #[]⟩) ::
  (nat_lit 167, ⟨(.type "function"), none, (.func (PySem.W.fnOf "_law_plus" "_law_plus" (A8 s_Lplus) (A7 s_Lplus) (A3 s_Lplus) .none .none .none (.str "law_hurryprice_k52_side_by_side" 374) none (.ref 166) .none)), #[]⟩) ::
  (nat_lit 173, ⟨(.type "code"), none, (.fields #[(.str "_law_minus" 414), (.str "_law_minus" 415), (.str "/claim/cut.py" 416), (.int 122 0), (.int 2 0), (.int 0 0), (.int 0 0), (.int 3 0), (.ref 168), (.bool true), (.int 181 0), (.ref 169), .none, (.ref 170), (.ref 171), (.ref 172), (.int 419 0), (.int 122 0), (.str "/claim/cut.py" 420)]), #[]⟩) ::
  (nat_lit 174, ⟨(.type "function"), none, (.func (PySem.W.fnOf "_law_minus" "_law_minus" (A8 s_Lminus) (A7 s_Lminus) (A3 s_Lminus) .none .none .none (.str "law_hurryprice_k52_side_by_side" 374) none (.ref 173) .none)), #[]⟩) ::
  (nat_lit 180, ⟨(.type "code"), none, (.fields #[(.str "_law_times" 422), (.str "_law_times" 423), (.str "/claim/cut.py" 424), (.int 124 0), (.int 2 0), (.int 0 0), (.int 0 0), (.int 3 0), (.ref 175), (.bool true), (.int 181 0), (.ref 176), .none, (.ref 177), (.ref 178), (.ref 179), (.int 427 0), (.int 124 0), (.str "/claim/cut.py" 428)]), #[]⟩) ::
  (nat_lit 181, ⟨(.type "function"), none, (.func (PySem.W.fnOf "_law_times" "_law_times" (A8 s_Ltimes) (A7 s_Ltimes) (A3 s_Ltimes) .none .none .none (.str "law_hurryprice_k52_side_by_side" 374) none (.ref 180) .none)), #[]⟩) ::
  (nat_lit 187, ⟨(.type "code"), none, (.fields #[(.str "_law_under" 430), (.str "_law_under" 431), (.str "/claim/cut.py" 432), (.int 126 0), (.int 2 0), (.int 0 0), (.int 0 0), (.int 3 0), (.ref 182), (.bool true), (.int 181 0), (.ref 183), .none, (.ref 184), (.ref 185), (.ref 186), (.int 435 0), (.int 126 0), (.str "/claim/cut.py" 436)]), #[]⟩) ::
  (nat_lit 188, ⟨(.type "function"), none, (.func (PySem.W.fnOf "_law_under" "_law_under" (A8 s_Lunder) (A7 s_Lunder) (A3 s_Lunder) .none .none .none (.str "law_hurryprice_k52_side_by_side" 374) none (.ref 187) .none)), #[]⟩) ::
  (nat_lit 194, ⟨(.type "code"), none, (.fields #[(.str "_law_amount" 438), (.str "_law_amount" 439), (.str "/claim/cut.py" 440), (.int 128 0), (.int 3 0), (.int 0 0), (.int 0 0), (.int 3 0), (.ref 189), (.bool true), (.int 181 0), (.ref 190), .none, (.ref 191), (.ref 192), (.ref 193), (.int 446 0), (.int 128 0), (.str "/claim/cut.py" 447)]), #[]⟩) ::
  (nat_lit 195, ⟨(.type "function"), none, (.func (PySem.W.fnOf "_law_amount" "_law_amount" (A8 s_Lamount) (A7 s_Lamount) (A3 s_Lamount) .none .none .none (.str "law_hurryprice_k52_side_by_side" 374) none (.ref 194) .none)), #[]⟩) ::
  (nat_lit 199, ⟨(.type "code"), none, (.fields #[(.str "_law_shape" 449), (.str "_law_shape" 450), (.str "/claim/cut.py" 451), (.int 134 0), (.int 3 0), (.int 0 0), (.int 0 0), (.int 3 0), (.ref 196), (.bool true), (.int 181 0), (.ref 197), .none, .none, .none, (.ref 198), (.int 452 0), (.int 134 0), (.str "/claim/cut.py" 453)]), #[]⟩) ::
  (nat_lit 200, ⟨(.type "function"), none, (.func (PySem.W.fnOf "_law_shape" "_law_shape" (A8 s_Lshape) (A7 s_Lshape) (A3 s_Lshape) .none .none .none (.str "law_hurryprice_k52_side_by_side" 374) none (.ref 199) .none)), #[]⟩) ::
  (nat_lit 206, ⟨(.type "code"), none, (.fields #[(.str "_law_parted" 455), (.str "_law_parted" 456), (.str "/claim/cut.py" 457), (.int 150 0), (.int 2 0), (.int 0 0), (.int 0 0), (.int 3 0), (.ref 201), (.bool true), (.int 181 0), (.ref 202), .none, (.ref 203), (.ref 204), (.ref 205), (.int 460 0), (.int 150 0), (.str "/claim/cut.py" 461)]), #[]⟩) ::
  (nat_lit 207, ⟨(.type "function"), none, (.func (PySem.W.fnOf "_law_parted" "_law_parted" (A8 s_Lparted) (A7 s_Lparted) (A3 s_Lparted) .none .none .none (.str "law_hurryprice_k52_side_by_side" 374) none (.ref 206) .none)), #[]⟩) ::
  (nat_lit 213, ⟨(.type "code"), none, (.fields #[(.str "_law_fall" 463), (.str "_law_fall" 464), (.str "/claim/cut.py" 465), (.int 152 0), (.int 2 0), (.int 0 0), (.int 0 0), (.int 3 0), (.ref 208), (.bool true), (.int 181 0), (.ref 209), .none, (.ref 210), (.ref 211), (.ref 212), (.int 468 0), (.int 152 0), (.str "/claim/cut.py" 469)]), #[]⟩) ::
  (nat_lit 214, ⟨(.type "function"), none, (.func (PySem.W.fnOf "_law_fall" "_law_fall" (A8 s_Lfall) (A7 s_Lfall) (A3 s_Lfall) .none .none .none (.str "law_hurryprice_k52_side_by_side" 374) none (.ref 213) .none)), #[]⟩) ::
  (nat_lit 220, ⟨(.type "code"), none, (.fields #[(.str "_law_price" 471), (.str "_law_price" 472), (.str "/claim/cut.py" 473), (.int 154 0), (.int 2 0), (.int 0 0), (.int 0 0), (.int 3 0), (.ref 215), (.bool true), (.int 181 0), (.ref 216), .none, (.ref 217), (.ref 218), (.ref 219), (.int 479 0), (.int 154 0), (.str "/claim/cut.py" 480)]), #[]⟩) ::
  (nat_lit 221, ⟨(.type "function"), none, (.func (PySem.W.fnOf "_law_price" "_law_price" (A8 s_Lprice) (A7 s_Lprice) (A3 s_Lprice) .none .none .none (.str "law_hurryprice_k52_side_by_side" 374) none (.ref 220) .none)), #[]⟩) ::
  (nat_lit 227, ⟨(.type "code"), none, (.fields #[(.str "_law_word" 482), (.str "_law_word" 483), (.str "/claim/cut.py" 484), (.int 163 0), (.int 3 0), (.int 0 0), (.int 0 0), (.int 3 0), (.ref 222), (.bool true), (.int 181 0), (.ref 223), .none, (.ref 224), (.ref 225), (.ref 226), (.int 490 0), (.int 163 0), (.str "/claim/cut.py" 491)]), #[]⟩) ::
  (nat_lit 228, ⟨(.type "function"), none, (.func (PySem.W.fnOf "_law_word" "_law_word" (A8 s_Lword) (A7 s_Lword) (A3 s_Lword) .none .none .none (.str "law_hurryprice_k52_side_by_side" 374) none (.ref 227) .none)), #[]⟩) ::
  (nat_lit 234, ⟨(.type "code"), none, (.fields #[(.str "_law_told_word" 493), (.str "_law_told_word" 494), (.str "/claim/cut.py" 495), (.int 171 0), (.int 2 0), (.int 0 0), (.int 0 0), (.int 3 0), (.ref 229), (.bool true), (.int 181 0), (.ref 230), .none, (.ref 231), (.ref 232), (.ref 233), (.int 502 0), (.int 171 0), (.str "/claim/cut.py" 503)]), #[]⟩) ::
  (nat_lit 235, ⟨(.type "function"), none, (.func (PySem.W.fnOf "_law_told_word" "_law_told_word" (A8 s_Ltoldword) (A7 s_Ltoldword) (A3 s_Ltoldword) .none .none .none (.str "law_hurryprice_k52_side_by_side" 374) none (.ref 234) .none)), #[]⟩) ::
  (nat_lit 241, ⟨(.type "code"), none, (.fields #[(.str "_law_ahead" 505), (.str "_law_ahead" 506), (.str "/claim/cut.py" 507), (.int 179 0), (.int 3 0), (.int 0 0), (.int 0 0), (.int 3 0), (.ref 236), (.bool true), (.int 181 0), (.ref 237), .none, (.ref 238), (.ref 239), (.ref 240), (.int 511 0), (.int 179 0), (.str "/claim/cut.py" 512)]), #[]⟩) ::
  (nat_lit 242, ⟨(.type "function"), none, (.func (PySem.W.fnOf "_law_ahead" "_law_ahead" (A8 s_Lahead) (A7 s_Lahead) (A3 s_Lahead) .none .none .none (.str "law_hurryprice_k52_side_by_side" 374) none (.ref 241) .none)), #[]⟩) ::
  (nat_lit 248, ⟨(.type "code"), none, (.fields #[(.str "_law_line" 514), (.str "_law_line" 515), (.str "/claim/cut.py" 516), (.int 181 0), (.int 2 0), (.int 0 0), (.int 0 0), (.int 3 0), (.ref 243), (.bool true), (.int 181 0), (.ref 244), .none, (.ref 245), (.ref 246), (.ref 247), (.int 520 0), (.int 181 0), (.str "/claim/cut.py" 521)]), #[]⟩) ::
  (nat_lit 249, ⟨(.type "function"), none, (.func (PySem.W.fnOf "_law_line" "_law_line" (A8 s_Lline) (A7 s_Lline) (A3 s_Lline) .none .none .none (.str "law_hurryprice_k52_side_by_side" 374) none (.ref 248) .none)), #[]⟩) ::
  (nat_lit 255, ⟨(.type "code"), none, (.fields #[(.str "_law_crossings" 523), (.str "_law_crossings" 524), (.str "/claim/cut.py" 525), (.int 186 0), (.int 2 0), (.int 0 0), (.int 0 0), (.int 3 0), (.ref 250), (.bool true), (.int 181 0), (.ref 251), .none, (.ref 252), (.ref 253), (.ref 254), (.int 533 0), (.int 186 0), (.str "/claim/cut.py" 534)]), #[]⟩) ::
  (nat_lit 256, ⟨(.type "function"), none, (.func (PySem.W.fnOf "_law_crossings" "_law_crossings" (A8 s_Lcrossings) (A7 s_Lcrossings) (A3 s_Lcrossings) .none .none .none (.str "law_hurryprice_k52_side_by_side" 374) none (.ref 255) .none)), #[]⟩) ::
  (nat_lit 260, ⟨(.type "code"), none, (.fields #[(.str "_law_spots" 536), (.str "_law_spots" 537), (.str "/claim/cut.py" 538), (.int 198 0), (.int 3 0), (.int 0 0), (.int 0 0), (.int 3 0), (.ref 257), (.bool true), (.int 181 0), (.ref 258), .none, .none, .none, (.ref 259), (.int 539 0), (.int 198 0), (.str "/claim/cut.py" 540)]), #[]⟩) ::
  (nat_lit 261, ⟨(.type "function"), none, (.func (PySem.W.fnOf "_law_spots" "_law_spots" (A8 s_Lspots) (A7 s_Lspots) (A3 s_Lspots) .none .none .none (.str "law_hurryprice_k52_side_by_side" 374) none (.ref 260) .none)), #[]⟩) ::
  (nat_lit 267, ⟨(.type "code"), none, (.fields #[(.str "_law_in_form" 542), (.str "_law_in_form" 543), (.str "/claim/cut.py" 544), (.int 205 0), (.int 3 0), (.int 0 0), (.int 0 0), (.int 3 0), (.ref 262), (.bool true), (.int 181 0), (.ref 263), .none, (.ref 264), (.ref 265), (.ref 266), (.int 552 0), (.int 205 0), (.str "/claim/cut.py" 553)]), #[]⟩) ::
  (nat_lit 268, ⟨(.type "function"), none, (.func (PySem.W.fnOf "_law_in_form" "_law_in_form" (A8 s_Linform) (A7 s_Linform) (A3 s_Linform) .none .none .none (.str "law_hurryprice_k52_side_by_side" 374) none (.ref 267) .none)), #[]⟩) ::
  (nat_lit 272, ⟨(.type "code"), none, (.fields #[(.str "_law_right" 555), (.str "_law_right" 556), (.str "/claim/cut.py" 557), (.int 221 0), (.int 2 0), (.int 0 0), (.int 0 0), (.int 3 0), (.ref 269), (.bool true), (.int 181 0), (.ref 270), .none, .none, .none, (.ref 271), (.int 558 0), (.int 221 0), (.str "/claim/cut.py" 559)]), #[]⟩) ::
  (nat_lit 273, ⟨(.type "function"), none, (.func (PySem.W.fnOf "_law_right" "_law_right" (A8 s_Lright) (A7 s_Lright) (A3 s_Lright) .none .none .none (.str "law_hurryprice_k52_side_by_side" 374) none (.ref 272) .none)), #[]⟩) ::
  (nat_lit 277, ⟨(.type "code"), none, (.fields #[(.str "law" 561), (.str "law" 562), (.str "/claim/cut.py" 563), (.int 233 0), (.int 1 0), (.int 0 0), (.int 0 0), (.int 3 0), (.ref 274), (.bool true), (.int 181 0), (.ref 275), .none, .none, .none, (.ref 276), (.int 564 0), (.int 233 0), (.str "/claim/cut.py" 565)]), #[]⟩) ::
  (nat_lit 278, ⟨(.type "function"), none, (.func (PySem.W.fnOf "law" "law" (A8 s_law) (A7 s_law) (A3 s_law) .none .none .none (.str "law_hurryprice_k52_side_by_side" 374) none (.ref 277) .none)), #[]⟩) :: []
def qq : Program := PySem.W.view PySem.Challenge.pw_hurryprice_k52_side_by_side [1, 3, 4, 6, 7, 8, 9, 10, 11, 13, 14, 16, 17, 18, 20, 21, 22, 23, 24, 25, 27, 28, 29, 30, 31, 32, 33, 34, 35, 36, 37, 38, 39, 40, 41, 42, 43, 44, 45, 46, 47]
def aa : List Nat := [3, 20, 21, 47, 53, 54, 60, 61, 67, 68, 74, 75, 81, 82, 88, 89, 95, 96, 100, 101, 107, 108, 112, 113, 114, 115, 121, 122, 126, 127, 133, 134, 138, 139, 145, 146, 152, 153, 159, 160, 166, 167, 173, 174, 180, 181, 187, 188, 194, 195, 199, 200, 206, 207, 213, 214, 220, 221, 227, 228, 234, 235, 241, 242, 248, 249, 255, 256, 260, 261, 267, 268, 272, 273, 277, 278]
theorem C1g : ∀ P : Params, aa = (kk P).map (·.1) := fun P => by kernel_rfl
noncomputable abbrev hh : PySem.W.Hook := PySem.W.kHook kk aa C1g
abbrev xt (s : Shared) : Bool := PySem.W.xlAt qq [] s && PySem.W.recOk (PySem.W.RowW.records PySem.Challenge.rw_hurryprice_k52_side_by_side.row.toRowW) s
theorem run1 (w : World) (os : OsState) : (L2.ranT PySem.Challenge.pw_hurryprice_k52_side_by_side 3320 w os).map (fun x => PySem.W.staticsOk (importedModules PySem.Challenge.pw_hurryprice_k52_side_by_side.main.body) (PySem.W.boot_heap w.params) x.abs.heap && PySem.W.namesBound PySem.Challenge.pw_hurryprice_k52_side_by_side x.abs.heap && PySem.W.gensDone x.abs && PySem.W.laidKept (PySem.W.boot_heap w.params) x.abs.heap) = some true := by kernel_rfl
theorem run2 (w : World) (os : OsState) : (L2.ranT PySem.Challenge.pw_hurryprice_k52_side_by_side 3320 w os).map (fun x => (PySem.W.openSeen qq [] (importedModules PySem.Challenge.pw_hurryprice_k52_side_by_side.main.body) xt true x.abs).1) = some (PySem.W.openGood qq []).1 := by kernel_rfl
theorem run4 (w : World) (os : OsState) : (L2.ranT PySem.Challenge.pw_hurryprice_k52_side_by_side 3320 w os).map (fun x => (PySem.W.openSeen qq [] (importedModules PySem.Challenge.pw_hurryprice_k52_side_by_side.main.body) xt true x.abs).2) = some (PySem.W.openGood qq []).2 := by kernel_rfl
theorem run3 (w : World) (os : OsState) : (L2.ranT PySem.Challenge.pw_hurryprice_k52_side_by_side 3320 w os).map (fun x => hh.obs x.abs) = some (hh.val w) := by kernel_rfl
theorem left : PySem.W.LeftO PySem.Challenge.pw_hurryprice_k52_side_by_side qq [] xt hh.obs hh.val 3320 := L2.B9p (by kernel_rfl) (by decide) (fun s => by kernel_rfl) run1 run2 run4 run3
theorem said : PySem.Challenge.rw_hurryprice_k52_side_by_side.wellSaid = true := by decide +kernel
end Prf
namespace L2
open PySem PySem.Spec PyProof.Rows
abbrev Key := Sum Int Str
def A5a : Key -> Value -> Bool
  | .inl k, v => Value.isInt k v
  | .inr x, v => Value.isStrOf x v
def keyH (w : World) : Key -> Int
  | .inl k => hashInt k
  | .inr x => hashStr w x
theorem D9 : ∀ {k : Key} {v : Value}, A5a k v = true -> (∃ i t, k = Sum.inl i /\ v = Value.int i t) \/ (∃ x t, k = Sum.inr x /\ v = Value.str x t)
  | .inl i, v, h => by
    obtain ⟨t, e⟩ := Value.isInt_shape (k := i) (v := v) h
    exact .inl ⟨i, t, rfl, e⟩
  | .inr x, v, h => by
    obtain ⟨t, e⟩ := Value.isStrOf_shape (x := x) (v := v) h
    exact .inr ⟨x, t, rfl, e⟩
theorem A9f (i : Int) (t : Tok) : A5a (.inl i) (.int i t) = true := by simp [A5a, Value.isInt]
theorem A9e (x : Str) (t : Tok) : A5a (.inr x) (.str x t) = true := by simp [A5a, Value.isStrOf]
theorem B9w (a b : Int) : decide ((Sum.inl a : Key) = Sum.inl b) = (a == b) := by
  by_cases e : a = b
  · subst e; simp
  · have h : ¬ (Sum.inl a : Key) = Sum.inl b := fun q => e (Sum.inl.inj q)
    rw [decide_eq_false h]
    exact (beq_eq_false_iff_ne.mpr e).symm
theorem B9t (a b : Str) : decide ((Sum.inr a : Key) = Sum.inr b) = decide (a = b) := by
  by_cases e : a = b
  · subst e; simp
  · have h : ¬ (Sum.inr a : Key) = Sum.inr b := fun q => e (Sum.inr.inj q)
    rw [decide_eq_false h, decide_eq_false e]
theorem B9v (a : Int) (b : Str) : decide ((Sum.inl a : Key) = Sum.inr b) = false := decide_eq_false (fun q => nomatch q)
theorem B9u (a : Str) (b : Int) : decide ((Sum.inr a : Key) = Sum.inl b) = false := decide_eq_false (fun q => nomatch q)
def K9 (prog : Program) (w : World) : PySem.KeyKind prog w Key where
  is := A5a
  hash := keyH w
  inj := fun v a b ha hb => by
    rcases D9 ha with ⟨i, t, rfl, rfl⟩ | ⟨x, t, rfl, rfl⟩
    · rcases D9 hb with ⟨j, u, rfl, e⟩ | ⟨y, u, rfl, e⟩
      · injection e with e1 _; rw [e1]
      · exact nomatch e
    · rcases D9 hb with ⟨j, u, rfl, e⟩ | ⟨y, u, rfl, e⟩
      · exact nomatch e
      · injection e with e1 _; rw [e1]
  byValue := fun k v h => by
    rcases D9 h with ⟨i, t, rfl, rfl⟩ | ⟨x, t, rfl, rfl⟩ <;> rfl
  pyHash := fun hv h => by
    rcases D9 hv with ⟨i, t, rfl, rfl⟩ | ⟨x, t, rfl, rfl⟩
    · exact wpAny_pyHash_int h
    · exact wpAny_pyHash_str h
  eqBool := fun hu hv h => by
    rcases D9 hu with ⟨i, t, rfl, rfl⟩ | ⟨x, t, rfl, rfl⟩
    · rcases D9 hv with ⟨j, u, rfl, rfl⟩ | ⟨y, u, rfl, rfl⟩
      · rw [B9w] at h; exact wpAny_eqBool_int h
      · rw [B9v] at h; exact SeqAt.EqAt.int_str i t y u _ _ _ _ h
    · rcases D9 hv with ⟨j, u, rfl, rfl⟩ | ⟨y, u, rfl, rfl⟩
      · rw [B9u] at h; exact SeqAt.EqAt.str_int x t j u _ _ _ _ h
      · rw [B9t] at h; exact wpAny_eqBool_str h
  «strs» := fun k x t v h => by
    rcases D9 h with ⟨i, u, rfl, e⟩ | ⟨y, u, rfl, e⟩
    · exact nomatch e
    · injection e with e1 _
      subst e1
      cases v <;> rfl
theorem A14 (prog : Program) (w : World) (i : Int) (t : Tok) : (K9 prog w).is (.inl i) (.int i t) = true := A9f i t
theorem A13 (prog : Program) (w : World) (x : Str) (t : Tok) : (K9 prog w).is (.inr x) (.str x t) = true := A9e x t
end L2
namespace L2
open PySem PySem.Spec PyProof.Rows
inductive V where
  | non | bl (b : Bool) | int (i : Int) | str (x : Str) | byt (b : Array UInt8) | flt (b : UInt64) | ref (a : Addr) | ty (n : String)
  deriving DecidableEq
def RelV : V -> Value -> Prop
  | .non, u => u = Value.none
  | .bl b, u => u = Value.bool b
  | .int i, u => ∃ t, u = Value.int i t
  | .str x, u => ∃ t, u = Value.str x t
  | .byt b, u => ∃ t, u = Value.bytes b t
  | .flt b, u => ∃ t, u = Value.float b t
  | .ref a, u => u = Value.ref a
  | .ty n, u => u = Value.type n
abbrev Vals : List V -> List Value -> Prop := Paired RelV
theorem Vals.length {xs : List V} {us : List Value} (r : Vals xs us) : xs.length = us.length := Paired.length r
theorem Vals.get : ∀ {xs : List V} {us : List Value} {i : Nat} {x : V}, Vals xs us -> xs[i]? = some x -> ∃ u, us[i]? = some u /\ RelV x u
  | _, _, _, _, .nil, e => by simp at e
  | _, _, 0, _, .cons r _, e => by simp at e; subst e; exact ⟨_, rfl, r⟩
  | _, _, i + 1, x, .cons _ t, e => by
    obtain ⟨u, h1, h2⟩ := Vals.get (i := i) (x := x) t (by simpa using e)
    exact ⟨u, by simpa using h1, h2⟩
theorem Vals.set {x : V} {u : Value} (r : RelV x u) : ∀ {xs : List V} {us : List Value} (i : Nat), Vals xs us -> Vals (xs.set i x) (us.set i u)
  | _, _, _, .nil => .nil
  | _, _, 0, .cons _ t => .cons r t
  | _, _, i + 1, .cons q t => .cons q (Vals.set r i t)
theorem Vals.append : ∀ {xs ys : List V} {us ws : List Value}, Vals xs us -> Vals ys ws -> Vals (xs ++ ys) (us ++ ws)
  | _, _, _, _, .nil, s => s
  | _, _, _, _, .cons r t, s => .cons r (Vals.append t s)
theorem Vals.take : ∀ {xs : List V} {us : List Value} (n : Nat), Vals xs us -> Vals (xs.take n) (us.take n)
  | _, _, 0, _ => .nil
  | _, _, _ + 1, .nil => .nil
  | _, _, n + 1, .cons r t => .cons r (Vals.take n t)
theorem Vals.drop : ∀ {xs : List V} {us : List Value} (n : Nat), Vals xs us -> Vals (xs.drop n) (us.drop n)
  | _, _, 0, r => r
  | _, _, _ + 1, .nil => .nil
  | _, _, n + 1, .cons _ t => Vals.drop n t
theorem Vals.none_of : ∀ {xs : List V} {us : List Value} {i : Nat}, Vals xs us -> xs[i]? = none -> us[i]? = none := fun {xs us i} r e => by
  have h1 := r.length
  have h2 : xs.length <= i := List.getElem?_eq_none_iff.mp e
  exact List.getElem?_eq_none_iff.mpr (by omega)
def RelO : Option V -> Option Value -> Prop
  | some v, some u => RelV v u
  | none, none => True
  | _, _ => False
def KV {κ : Type} : List (κ × V) -> List (κ × Value) -> Prop := Paired fun (p : κ × V) (q : κ × Value) => p.1 = q.1 /\ RelV p.2 q.2
def kV : Key -> V
  | .inl i => .int i
  | .inr x => .str x
inductive HO where
    | lst (xs : List V)
    | tup (xs : List V)
    | dK (kvs : List (Key × V)) | dT (kvs : List (List Key × V))
    | set (S : Int -> Bool) (n : Nat)
    | ins (C dx : Addr) (fs : List (Str × V))
    | own (x : Addr)
    | xd (fs : List (Str × V))
    | met (f x : Addr)
    | rng (lo hi : Int)
    | frz (o : Obj) (u : HO)
    | tbl (ps : Array Value)
    | ext (φ : Heap -> Prop)
abbrev Hp := Addr -> Option HO
def upd (H : Hp) (a : Addr) (o : HO) : Hp := fun b => if b = a then some o else H b
theorem C9 {H : Hp} {a : Addr} {o : HO} : upd H a o a = some o := by unfold upd; rw [if_pos rfl]
theorem C7 {H : Hp} {a b : Addr} {o : HO} (h : b ≠ a) : upd H a o b = H b := by unfold upd; rw [if_neg h]
theorem D4 {H : Hp} {a b : Addr} {o : HO} (h : H a = some o) (h' : H b = none) : a ≠ b := by
  intro e; subst e; rw [h] at h'; cases h'
section
variable (P : Program) (w : World)
def ObjOk (H : Hp) (h : Heap) (a : Addr) : HO -> Prop
  | .lst xs => xs.length <= sizeLine /\ ∃ (its : List Value) (n : Nat), Vals xs its /\ h.get? a = some { cls := .type "list", data := .seq its.toArray n }
  | .tup xs => xs.length <= sizeLine /\ ∃ its : List Value, Vals xs its /\ IsTup h a its.toArray
  | .dK kvs => kvs.length <= sizeLine /\ (a == sysModules) = false /\ ∃ vs, KV kvs vs /\ h.DictOf (K9 P w) a vs
  | .dT kvs => kvs.length <= sizeLine /\ (a == sysModules) = false /\ ∃ xs : List (List Key × Addr × Value),
      Paired (fun (p : List Key × V) (q : List Key × Addr × Value) => p.1 = q.1 /\ H q.2.1 = some (.tup (p.1.map kV)) /\ RelV p.2 q.2.2) kvs xs /\
      ∃ o es ep, h.get? a = some o /\ o.ExactDict /\ o.data = .dict es ep /\ es.toList = xs.map (entryOfKey (tupleKind (K9 P w))) /\ (xs.map (·.1)).Nodup
  | .set S n => h.SetOf (intKind P w) a S n
  | .ins C dx fs => H dx = some (.own a) /\ fs.length <= 1000 /\ dx ≠ a /\ h.get? a = some (PySem.W.instObj C dx) /\
      ∃ mA, h.Ns1 dx mA /\ (∀ f, RelO (fs.lookup f) (mA f)) /\ PySem.Within mA (fs.map (·.1))
  | .own _ => ∃ o, h.get? a = some o
  | .xd fs => ∃ mA, h.Ns1 a mA /\ ∀ f, RelO (fs.lookup f) (mA f)
  | .rng lo hi => ∃ t u v, h.get? a = some { cls := .type "range", data := .fields #[.int lo t, .int hi u, .int 1 v] }
  | .frz o u => h.get? a = some o /\ ObjOk H h a u
  | .tbl ps => h.get? a = some { cls := .none, data := .fields ps }
  | .met f x => h.get? a = some (PySem.W.methodObj (.ref f) (.ref x))
  | .ext φ => φ h /\ (∃ o, h.get? a = some o) /\ ∀ h1 h2 : Heap, φ h1 -> (∀ o, h1.get? a = some o -> h2.get? a = some o) -> φ h2
def HOk (H : Hp) (h : Heap) : Prop := ∀ a o, H a = some o -> ObjOk P w H h a o
end
section
variable {P : Program} {w : World} {H H' : Hp} {h h' : Heap} {a : Addr} {o : HO}
theorem ObjOk.lt (x : ObjOk P w H h a o) : a < h.objs.size := by
  cases o with
  | lst xs => obtain ⟨_, _, _, _, e⟩ := x; exact Heap.lt_size e
  | tup xs => obtain ⟨_, _, _, p⟩ := x; exact p.lt
  | dK kvs => obtain ⟨_, _, _, _, o, _, _, e, _⟩ := x; exact Heap.lt_size e
  | dT kvs => obtain ⟨_, _, _, _, o, _, _, e, _⟩ := x; exact Heap.lt_size e
  | set S n => obtain ⟨o, _, _, _, e, _⟩ := x; exact Heap.lt_size e
  | ins C dx fs => obtain ⟨_, _, _, e, _⟩ := x; exact Heap.lt_size e
  | own y => obtain ⟨_, e⟩ := x; exact Heap.lt_size e
  | xd fs => obtain ⟨_, ⟨_, _, _, e, _⟩, _⟩ := x; exact Heap.lt_size e
  | rng lo hi => obtain ⟨_, _, _, e⟩ := x; exact Heap.lt_size e
  | frz ob u => obtain ⟨e, _⟩ := x; exact Heap.lt_size e
  | tbl ps => exact Heap.lt_size (show h.get? a = some _ from x)
  | met f y => exact Heap.lt_size (show h.get? a = some _ from x)
  | ext φ => obtain ⟨_, ⟨_, e⟩, _⟩ := x; exact Heap.lt_size e
theorem Paired.mapP {α β : Type} {F G : α -> β -> Prop} : ∀ {l₁ : List α} {l₂ : List β}, Paired F l₁ l₂ -> (∀ a b, F a b -> G a b) -> Paired G l₁ l₂
  | _, _, .nil, _ => .nil
  | _, _, .cons r t, f => .cons (f _ _ r) (Paired.mapP t f)
theorem ObjOk.stay (x : ObjOk P w H h a o) (k : ∀ b u, (b = a \/ H b = some (.own a)) -> h.get? b = some u -> h'.get? b = some u)
    (ho : ∀ b, H b = some (.own a) -> H' b = some (.own a)) (ht : ∀ b xs, H b = some (.tup xs) -> H' b = some (.tup xs)) : ObjOk P w H' h' a o := by
  induction o with
  | lst xs => obtain ⟨z, its, n, r, e⟩ := x; exact ⟨z, its, n, r, k _ _ (.inl rfl) e⟩
  | tup xs => obtain ⟨z, its, r, ob, e, c⟩ := x; exact ⟨z, its, r, ob, k _ _ (.inl rfl) e, c⟩
  | dK kvs => obtain ⟨z, y, vs, r, ob, es, ep, e, c⟩ := x; exact ⟨z, y, vs, r, ob, es, ep, k _ _ (.inl rfl) e, c⟩
  | dT kvs =>
    obtain ⟨z, y, xs, r, ob, es, ep, e, c⟩ := x
    exact ⟨z, y, xs, Paired.mapP r fun p q z => ⟨z.1, ht _ _ z.2.1, z.2.2⟩, ob, es, ep, k _ _ (.inl rfl) e, c⟩
  | set S n => obtain ⟨ob, es, ep, t, e, c⟩ := x; exact ⟨ob, es, ep, t, k _ _ (.inl rfl) e, c⟩
  | ins C dx fs =>
    obtain ⟨d, z, ne, e, mA, ⟨od, es, ep, e2, c⟩, r⟩ := x
    exact ⟨ho _ d, z, ne, k _ _ (.inl rfl) e, mA, ⟨od, es, ep, k _ _ (.inr d) e2, c⟩, r⟩
  | own y => obtain ⟨ob, e⟩ := x; exact ⟨ob, k _ _ (.inl rfl) e⟩
  | xd fs => obtain ⟨mA, ⟨od, es, ep, e, c⟩, r⟩ := x; exact ⟨mA, ⟨od, es, ep, k _ _ (.inl rfl) e, c⟩, r⟩
  | rng lo hi => obtain ⟨t, u, v, e⟩ := x; exact ⟨t, u, v, k _ _ (.inl rfl) e⟩
  | frz ob u ih => obtain ⟨e, q⟩ := x; exact ⟨k _ _ (.inl rfl) e, ih q⟩
  | tbl ps =>
    have e : h.get? a = some { cls := .none, data := .fields ps } := x
    show h'.get? a = some { cls := .none, data := .fields ps }
    exact k a _ (.inl rfl) e
  | met f y =>
    have e : h.get? a = some (PySem.W.methodObj (.ref f) (.ref y)) := x
    show h'.get? a = some (PySem.W.methodObj (.ref f) (.ref y))
    exact k a _ (.inl rfl) e
  | ext φ => obtain ⟨p, ⟨o, e⟩, st⟩ := x; exact ⟨st _ _ p fun o q => k _ _ (.inl rfl) q, ⟨o, k _ _ (.inl rfl) e⟩, st⟩
theorem HOk.lt (x : HOk P w H h) (e : H a = some o) : a < h.objs.size := (x a o e).lt
theorem HOk.fresh (x : HOk P w H h) (e : h.objs.size <= a) : H a = none := by
  cases q : H a with
  | none => rfl
  | some u => exact absurd (Nat.lt_of_lt_of_le (x.lt q) e) (Nat.lt_irrefl _)
theorem HOk.kept (x : HOk P w H h) (k : ∀ b u, h.get? b = some u -> h'.get? b = some u) : HOk P w H h' := fun a o e =>
  (x a o e).stay (fun b u _ q => k b u q) (fun _ q => q) fun _ _ q => q
theorem HOk.laid (x : HOk P w H h) (k : ∀ b u, h.get? b = some u -> h'.get? b = some u) (hp : h.objs.size <= a) (new : ObjOk P w (upd H a o) h' a o) : HOk P w (upd H a o) h' := fun b u e => by
  have hn := x.fresh hp
  by_cases hb : b = a
  · subst hb; rw [C9] at e; cases e; exact new
  · rw [C7 hb] at e
    exact (x b u e).stay (fun c v _ q => k c v q) (fun c q => by rw [C7 (D4 q hn)]; exact q) fun c xs q => by rw [C7 (D4 q hn)]; exact q
end
def Rd (H : Hp) (a : Addr) (u : HO) : Prop := H a = some u \/ ∃ o, H a = some (.frz o u)
theorem Rd.ok {P : Program} {w : World} {H : Hp} {h : Heap} {a : Addr} {u : HO} (r : Rd H a u) (x : HOk P w H h) : ObjOk P w H h a u := by
  rcases r with r | ⟨o, r⟩
  · exact x a u r
  · obtain ⟨_, q⟩ := x a _ r
    exact q
def Mut : Option HO -> Prop
  | some (.lst _) => True
  | some (.dK _) => True
  | some (.dT _) => True
  | some (.set _ _) => True
  | some (.ins _ _ _) => True
  | some (.ext _) => True
  | _ => False
section
variable {P : Program} {w : World} {H : Hp} {h h' : Heap} {x e : Addr} {o' : HO}
theorem HOk.write (ok : HOk P w H h) (mu : Mut (H x)) (he : e = x \/ H e = some (.own x)) (k : ∀ b u, b ≠ e -> h.get? b = some u -> h'.get? b = some u) (heo : ∃ u, h'.get? e = some u)
    (new : ObjOk P w (upd H x o') h' x o') : HOk P w (upd H x o') h' := fun b u q => by
  have nown : ∀ c y, H c = some (.own y) -> c ≠ x := fun c y r z => by subst z; rw [r] at mu; exact mu
  have ntup : ∀ c xs, H c = some (.tup xs) -> c ≠ x := fun c xs r z => by subst z; rw [r] at mu; exact mu
  by_cases hb : b = x
  · subst hb; rw [C9] at q; cases q; exact new
  · rw [C7 hb] at q
    by_cases hbe : b = e
    · have q' : H b = some (.own x) := by
        rcases he with z | z
        · exact absurd (hbe.trans z) hb
        · rw [hbe]; exact z
      rw [q] at q'; cases q'
      obtain ⟨v, hv⟩ := heo
      exact ⟨v, by rw [hbe]; exact hv⟩
    · refine (ok b u q).stay (fun c v hc r => k c v ?_ r) (fun c r => by rw [C7 (nown c b r)]; exact r) fun c xs r => by rw [C7 (ntup c xs r)]; exact r
      rcases hc with rfl | hc
      · exact hbe
      · rintro rfl
        rcases he with z | z
        · exact nown c b hc z
        · rw [hc] at z; cases z; exact hb rfl
end
structure Un (fs ex : List Addr) (H H' : Hp) (h h' : Heap) : Prop where
  keep : ∀ b o, h.get? b = some o -> H b = none -> b ∉ fs -> b ∉ ex -> h'.get? b = some o
  slot : ∀ b o, h.get? b = some o -> H b = none -> b ∈ fs -> b ∉ ex -> ∃ sl, h'.get? b = some { o with slots := sl }
  free : ∀ b o, h.get? b = some o -> H b = none -> b ∉ ex -> H' b = none
  there : ∀ b o, h.get? b = some o -> b ∉ ex -> ∃ o', h'.get? b = some o'
  tups : ∀ b xs, H b = some (.tup xs) -> H' b = some (.tup xs)
  frzs : ∀ b o u, H b = some (.frz o u) -> H' b = some (.frz o u)
  tbls : ∀ b ps, H b = some (.tbl ps) -> ∃ more, H' b = some (.tbl (ps ++ more))
section
variable {fs fs' ex ex' : List Addr} {H H1 H2 : Hp} {h h1 h2 h' : Heap} {a x e : Addr} {o : HO}
theorem Un.any (u : Un fs ex H H1 h h1) {b : Addr} {ob : Obj} (q : h.get? b = some ob) (n : H b = none) (hx : b ∉ ex) : ∃ sl, h1.get? b = some { ob with slots := sl } := by
  by_cases hb : b ∈ fs
  · exact u.slot b ob q n hb hx
  · exact ⟨ob.slots, u.keep b ob q n hb hx⟩
theorem Un.kept (k : ∀ b u, h.get? b = some u -> h'.get? b = some u) : Un fs ex H H h h' :=
  ⟨fun b ob q _ _ _ => k b ob q, fun b ob q _ _ _ => ⟨ob.slots, k b ob q⟩, fun _ _ _ n _ => n, fun b ob q _ => ⟨ob, k b ob q⟩, fun _ _ q => q, fun _ _ _ q => q, fun _ ps q => ⟨#[], by rw [q]; simp⟩⟩
theorem Un.refl : Un fs ex H H h h := Un.kept fun _ _ q => q
theorem Un.laid (k : ∀ b u, h.get? b = some u -> h'.get? b = some u) (hp : h.objs.size <= a) (hn : H a = none) : Un fs ex H (upd H a o) h h' where
  keep := fun b u q _ _ _ => k b u q
  slot := fun b u q _ _ _ => ⟨u.slots, k b u q⟩
  free := fun b u q n _ => by rw [C7 (Nat.ne_of_lt (Nat.lt_of_lt_of_le (Heap.lt_size q) hp))]; exact n
  there := fun b u q _ => ⟨u, k b u q⟩
  tups := fun b xs q => by rw [C7 (D4 q hn)]; exact q
  frzs := fun b u xs q => by rw [C7 (D4 q hn)]; exact q
  tbls := fun b ps q => ⟨#[], by rw [C7 (D4 q hn), q]; simp⟩
theorem Un.write (mu : Mut (H x)) (he : e = x \/ H e = some (.own x)) (k : ∀ b u, b ≠ e -> h.get? b = some u -> h'.get? b = some u) (heo : ∃ u, h'.get? e = some u) : Un fs ex H (upd H x o) h h' := by
  have hx : ∀ b, H b = none -> b ≠ x := fun b n z => by subst z; rw [n] at mu; exact mu
  have hb : ∀ b, H b = none -> b ≠ e := fun b n z => by
    subst z
    rcases he with r | r
    · exact hx b n r
    · rw [n] at r; cases r
  have hm : ∀ b u, H b = some u -> ¬ Mut (some u) -> b ≠ x := fun b u q nm z => by subst z; rw [q] at mu; exact nm mu
  refine ⟨fun b u q n _ _ => k b u (hb b n) q, fun b u q n _ _ => ⟨u.slots, k b u (hb b n) q⟩, fun b u q n _ => by rw [C7 (hx b n)]; exact n, fun b u q _ => ?_,
    fun b xs q => by rw [C7 (hm b _ q fun z => z)]; exact q, fun b u xs q => by rw [C7 (hm b _ q fun z => z)]; exact q, fun b ps q => ⟨#[], by rw [C7 (hm b _ q fun z => z), q]; simp⟩⟩
  by_cases hbe : b = e
  · subst hbe; exact heo
  · exact ⟨u, k b u hbe q⟩
end
def trk (h : Heap) (H : Hp) : List Addr := (List.range h.objs.size).filter fun a => (H a).isSome
def hidT (h : Heap) (H : Hp) : Heap := PySem.W.hideAll h (trk h H)
theorem A9m (h : Heap) (H : Hp) : (hidT h H).objs.size = h.objs.size := PySem.W.hideAll_size _ _
theorem B1k {h : Heap} {H : Hp} {b : Addr} {o : Obj} (e : h.get? b = some o) (n : H b = none) : (hidT h H).get? b = some o :=
  PySem.W.hideAll_get _ e fun hm => by
    have q : (H b).isSome = true := (List.mem_filter.mp hm).2
    rw [n] at q; simp at q
theorem B6d {h : Heap} {H : Hp} {b : Addr} {o : Obj} (e : (hidT h H).get? b = some o) : h.get? b = some o /\ H b = none := by
  have e' : h.get? b = some o := PySem.W.of_hideAll (trk h H) e
  refine ⟨e', ?_⟩
  cases q : H b with
  | none => rfl
  | some x =>
    have hm : b ∈ trk h H := List.mem_filter.mpr ⟨List.mem_range.mpr (Heap.lt_size e'), by simp [q]⟩
    have z : (hidT h H).get? b = none := PySem.W.hideAll_none (trk h H) hm
    rw [z] at e; cases e
def B6w (g h : Heap) (L : Addr) : List (Addr × Obj) := (List.range h.objs.size).filterMap fun a => if a = L \/ (g.get? a).isSome = true then none else (h.get? a).map fun o => (a, o)
def rest (g h : Heap) (L d : Addr) : List (Addr × Obj) := (B6w g h L).filter fun p => decide (p.1 ≠ d)
end L2
namespace L2
open PySem PySem.Spec PyProof.Rows
structure Mod (K : PySem.W.Frag) (mg : Str -> Option Value) (base : Heap) : Prop where
  kin : K.In base
  glob : base.Ns mainGlobals mg
  blt : ∃ mb, base.Ns builtinsNs mb /\ ∀ x : Str, x ≠ "__name__" -> mb x = bootBuiltins x
  nolimit : base.NoLimit
structure Cx where
  prog : Program
  w : World
  K : PySem.W.Frag
  mg : Str -> Option Value
  base : Heap
  A : Around
  N : List Str
  s₀ : Shared
  H₀ : Hp
  env : Env
  outer : List Env
  stack : List Env
  ex : List Addr
  fn : Str -> Bool
  calm : Bool
  pn : List (Addr × Obj)
  xe : Value -> Shared -> Prop
def frs (l : List Env) : List Addr := l.filterMap (·.frame)
abbrev Cx.fs (X : Cx) : List Addr := frs X.outer
def Vis (sc : Scope) (x : Str) : Prop := sc.names.lookup x = some .local \/ sc.names.lookup x = some .cell \/ sc.names.lookup x = some .free
def Loc (sc : Scope) (x : Str) : Prop := sc.names.lookup x = some .local \/ sc.names.lookup x = some .cell
def Look (env : Env) (h : Heap) (m : Str -> Option Value) (x : Str) (u : Value) : Prop :=
  (env.kindOf x = some .local /\ m x = some u) \/ ((env.kindOf x = some .cell \/ env.kindOf x = some .free) /\ ∃ c, env.cells.lookup x = some c /\ h.IsCell c (some u))
structure Cx.Ok (X : Cx) : Prop where
  mod : Mod X.K X.mg X.base
  kind : X.env.scope.kind = .function
  glob : X.env.globals = mainGlobals
  blt : X.env.builtins = builtinsNs
  above : X.s₀.heap.objs.size <= X.env.locals
  inj : ∀ x y c, X.env.cells.lookup x = some c -> X.env.cells.lookup y = some c -> x = y
  has : ∀ x, (X.env.kindOf x = some .cell \/ X.env.kindOf x = some .free) -> ∃ c, X.env.cells.lookup x = some c
  cab : ∀ x c, X.fn x = true -> X.env.cells.lookup x = some c -> X.s₀.heap.objs.size <= c
  hd : X.calm = true -> X.A.handled = none
  frames : X.A.frames = some X.stack
  stk : X.stack = X.outer \/ (X.stack = X.env :: X.outer /\ X.env.frame = some X.env.locals)
  exf : ∀ b ∈ X.ex, b ≠ X.env.locals /\ ∀ x c, X.env.cells.lookup x = some c -> c ≠ b
  bs : ∀ b o, X.base.get? b = some o -> X.s₀.heap.get? b = some o /\ X.H₀ b = none
  bsz : X.base.objs.size <= X.s₀.heap.objs.size
  noex : ∀ b o, X.base.get? b = some o -> b ∉ X.ex
  exfs : ∀ b ∈ X.ex, b ∉ X.fs
  funs : X.s₀.heap.FunFrames X.base X.outer
  frf : ∀ b ∈ X.fs, X.H₀ b = none
structure Inv (X : Cx) (pins : List (Addr × Obj)) (σ : List (Option V)) (H : Hp) (s : Shared) : Prop where
  ok : X.Ok
  os : s.os = X.s₀.os
  bare : AllBare s.gens
  base : Un X.fs X.ex X.H₀ H X.s₀.heap s.heap
  loc : ∃ m, s.heap.Ns X.env.locals m /\ ∀ (i : Nat) (x : Str) (v : V), X.N[i]? = some x -> σ[i]? = some (some v) -> Vis X.env.scope x -> ∃ u, RelV v u /\ Look X.env s.heap m x u
  cell : ∀ x c, X.env.cells.lookup x = some c -> ∃ v, s.heap.IsCell c v
  free : H X.env.locals = none
  freeC : ∀ x c, X.env.cells.lookup x = some c -> H c = none
  pin : ∀ p ∈ X.pn ++ pins, s.heap.get? p.1 = some p.2 /\ H p.1 = none /\ p.1 ≠ X.env.locals /\ p.1 ∉ X.fs /\ ∀ v, p.2.data ≠ .cell v
  hok : HOk X.prog X.w H s.heap
  len : σ.length = X.N.length
section
variable {X : Cx} {pins : List (Addr × Obj)} {σ : List (Option V)} {H H' : Hp} {s : Shared} {h' : Heap}
theorem Cx.Ok.nofr (ok : X.Ok) {b : Addr} {o : Obj} (e : X.base.get? b = some o) : b ∉ X.fs := fun hb => by
  have := (ok.funs.mem hb).1
  rw [e] at this; cases this
theorem Inv.bs (I : Inv X pins σ H s) : ∀ b o, X.base.get? b = some o -> s.heap.get? b = some o /\ H b = none := fun b o e =>
  ⟨I.base.keep b o (I.ok.bs b o e).1 (I.ok.bs b o e).2 (I.ok.nofr e) (I.ok.noex b o e), I.base.free b o (I.ok.bs b o e).1 (I.ok.bs b o e).2 (I.ok.noex b o e)⟩
theorem Inv.bk (I : Inv X pins σ H s) : ∀ b o, X.base.get? b = some o -> s.heap.get? b = some o := fun b o e => (I.bs b o e).1
theorem Inv.mod (I : Inv X pins σ H s) : Mod X.K X.mg X.base := I.ok.mod
theorem Inv.kIn (I : Inv X pins σ H s) : X.K.In s.heap := I.ok.mod.kin.keeps I.bk
theorem Inv.lt (I : Inv X pins σ H s) : X.env.locals < s.heap.objs.size := let ⟨_, hn, _⟩ := I.loc; hn.lt
theorem Inv.sz (I : Inv X pins σ H s) : X.s₀.heap.objs.size <= s.heap.objs.size := Nat.le_trans I.ok.above (Nat.le_of_lt I.lt)
theorem Inv.nofs (I : Inv X pins σ H s) {a : Addr} (h : s.heap.objs.size <= a) : a ∉ X.fs := fun hb => by
  obtain ⟨_, o, ho, _⟩ := I.ok.funs.mem hb
  exact absurd (Nat.lt_of_lt_of_le (Heap.lt_size ho) (Nat.le_trans I.sz h)) (Nat.lt_irrefl _)
theorem Inv.cne (I : Inv X pins σ H s) : ∀ x c, X.env.cells.lookup x = some c -> c ≠ X.env.locals := fun x c e z => by
  obtain ⟨v, o, ho, hd⟩ := I.cell x c e
  obtain ⟨m, ⟨o', es, ep, ho', hd', _⟩, _⟩ := I.loc
  rw [z, ho'] at ho; cases ho; rw [hd'] at hd; cases hd
theorem Inv.funs (I : Inv X pins σ H s) : s.heap.FunFrames X.base X.outer := by
  have all : ∀ (l : List Env), (∀ b ∈ frs l, b ∈ X.fs) -> X.s₀.heap.FunFrames X.base l -> s.heap.FunFrames X.base l := by
    intro l
    induction l with
    | nil => intro _ _; trivial
    | cons env r ih =>
      intro hs hl
      obtain ⟨hk, ⟨L, o, hf, hn, ho, hd⟩, hr⟩ := hl
      have hL : L ∈ X.fs := hs L (by unfold frs; rw [List.filterMap_cons, hf]; exact List.mem_cons_self)
      obtain ⟨sl, e⟩ := I.base.slot L o ho (I.ok.frf L hL) hL fun z => I.ok.exfs L z hL
      exact ⟨hk, ⟨L, _, hf, hn, e, hd⟩, ih (fun b hb => hs b (by unfold frs; rw [List.filterMap_cons, hf]; exact List.mem_cons_of_mem _ hb)) hr⟩
  exact all X.outer (fun _ hb => hb) I.ok.funs
theorem Inv.stack (I : Inv X pins σ H s) : s.heap.FunFrames X.base X.stack := by
  rcases I.ok.stk with e | ⟨e, hf⟩
  · rw [e]; exact I.funs
  · rw [e]
    obtain ⟨m, hn, _⟩ := I.loc
    refine .cons (by rw [I.ok.kind]; decide) hf hn ?_ I.funs
    exact Heap.get?_none_of_le (Nat.le_trans I.ok.bsz I.ok.above)
theorem Inv.stkSub (I : Inv X pins σ H s) : ∀ b ∈ frs X.stack, b ∈ X.env.locals :: X.fs := fun b hb => by
  rcases I.ok.stk with e | ⟨e, hf⟩
  · rw [e] at hb; exact List.mem_cons_of_mem _ hb
  · rw [e] at hb
    unfold frs at hb
    rw [List.filterMap_cons, hf] at hb
    exact hb
theorem Inv.stkFree (I : Inv X pins σ H s) : ∀ b ∈ frs X.stack, H b = none := fun b hb => by
  rcases List.mem_cons.mp (I.stkSub b hb) with e | hb
  · rw [e]; exact I.free
  · obtain ⟨_, o, ho, _⟩ := I.ok.funs.mem hb
    exact I.base.free b o ho (I.ok.frf b hb) fun z => I.ok.exfs b z hb
theorem Inv.step {g' : Array GenState} {t' : Nat} {d' : Drawn} {ch : List Addr} (I : Inv X pins σ H s)
    (hch : ∀ b ∈ ch, (b ∈ X.ex \/ X.s₀.heap.objs.size <= b) /\ b ≠ X.env.locals /\ (∀ x c, X.env.cells.lookup x = some c -> c ≠ b) /\ ∀ p ∈ X.pn ++ pins, p.1 ≠ b)
    (keep : ∀ b o, b ≠ X.env.locals -> b ∉ X.fs -> b ∉ ch -> s.heap.get? b = some o -> H b = none -> h'.get? b = some o)
    (slot : ∀ b o, b ≠ X.env.locals -> b ∈ X.fs -> b ∉ ch -> s.heap.get? b = some o -> H b = none -> ∃ sl, h'.get? b = some { o with slots := sl }) (free : ∀ b o, b ∉ ch -> s.heap.get? b = some o -> H b = none -> H' b = none)
    (there : ∀ b o, b ∉ ch -> s.heap.get? b = some o -> ∃ o', h'.get? b = some o')
    (tups : ∀ b xs, H b = some (.tup xs) -> H' b = some (.tup xs)) (frzs : ∀ b o u, H b = some (.frz o u) -> H' b = some (.frz o u)) (tbls : ∀ b ps, H b = some (.tbl ps) -> ∃ more, H' b = some (.tbl (ps ++ more)))
    (ns : ∀ m, s.heap.Ns X.env.locals m -> h'.Ns X.env.locals m) (hok : HOk X.prog X.w H' h') (hg : AllBare g') :
    Inv X pins σ H' { s with heap := h', gens := g', drawn := d', toks := t' } := by
  have neL : ∀ b o, X.s₀.heap.get? b = some o -> b ≠ X.env.locals := fun b o e => Nat.ne_of_lt (Nat.lt_of_lt_of_le (Heap.lt_size e) I.ok.above)
  have neC : ∀ b o, X.s₀.heap.get? b = some o -> b ∉ X.ex -> b ∉ ch := fun b o e hx hb => by
    rcases (hch b hb).1 with z | z
    · exact hx z
    · exact absurd (Nat.lt_of_lt_of_le (Heap.lt_size e) z) (Nat.lt_irrefl _)
  have cellK : ∀ x c, X.env.cells.lookup x = some c -> ∀ v, s.heap.IsCell c v -> h'.IsCell c v := fun x c e v ⟨o, ho, hd⟩ => by
    have nch : c ∉ ch := fun z => (hch c z).2.2.1 x c e rfl
    by_cases hc : c ∈ X.fs
    · obtain ⟨sl, q⟩ := slot c o (I.cne x c e) hc nch ho (I.freeC x c e)
      exact ⟨_, q, hd⟩
    · exact ⟨o, keep c o (I.cne x c e) hc nch ho (I.freeC x c e), hd⟩
  refine ⟨I.ok, I.os, hg, ⟨fun b o e n hb hx => ?_, fun b o e n hb hx => ?_, fun b o e n hx => ?_, fun b o e hx => ?_, fun b xs e => tups b xs (I.base.tups b xs e), fun b o xs e => frzs b o xs (I.base.frzs b o xs e), fun b ps e => ?_⟩, ?_, fun x c e => ?_, ?_, fun x c e => ?_, fun p hp => ?_, hok, I.len⟩
  · exact keep b o (neL b o e) hb (neC b o e hx) (I.base.keep b o e n hb hx) (I.base.free b o e n hx)
  · obtain ⟨sl, e1⟩ := I.base.slot b o e n hb hx
    obtain ⟨sl', e2⟩ := slot b _ (neL b o e) hb (neC b o e hx) e1 (I.base.free b o e n hx)
    exact ⟨sl', e2⟩
  · obtain ⟨o', e1⟩ := I.base.there b o e hx
    exact free b o' (neC b o e hx) e1 (I.base.free b o e n hx)
  · obtain ⟨o', e1⟩ := I.base.there b o e hx
    exact there b o' (neC b o e hx) e1
  · obtain ⟨m1, e1⟩ := I.base.tbls b ps e
    obtain ⟨m2, e2⟩ := tbls b _ e1
    exact ⟨m1 ++ m2, by rw [e2, Array.append_assoc]⟩
  · obtain ⟨m, hn, hl⟩ := I.loc
    refine ⟨m, ns m hn, fun i x v e1 e2 e3 => ?_⟩
    obtain ⟨u, r, l⟩ := hl i x v e1 e2 e3
    refine ⟨u, r, ?_⟩
    rcases l with l | ⟨k, c, e, z⟩
    · exact .inl l
    · exact .inr ⟨k, c, e, cellK x c e _ z⟩
  · obtain ⟨v, z⟩ := I.cell x c e
    exact ⟨v, cellK x c e v z⟩
  · obtain ⟨m, ⟨o, _, _, ho, _⟩, _⟩ := I.loc
    exact free _ o (fun z => (hch _ z).2.1 rfl) ho I.free
  · obtain ⟨v, o, ho, hd⟩ := I.cell x c e
    exact free c o (fun z => (hch c z).2.2.1 x c e rfl) ho (I.freeC x c e)
  · obtain ⟨e, n, ne, nf, d⟩ := I.pin p hp
    have nch : p.1 ∉ ch := fun z => (hch p.1 z).2.2.2 p hp rfl
    exact ⟨keep p.1 p.2 ne nf nch e n, free p.1 p.2 nch e n, ne, nf, d⟩
theorem Inv.un {t' : Nat} (I : Inv X pins σ H s) (u : Un X.fs [] H H' s.heap h') (hok : HOk X.prog X.w H' h') : Inv X pins σ H' { s with heap := h', toks := t' } := by
  obtain ⟨m, ⟨o, es, ep, ho, r⟩, _⟩ := id I.loc
  obtain ⟨sl, hL⟩ := u.any ho I.free (by simp)
  exact I.step (g' := s.gens) (d' := s.drawn) (ch := []) (fun _ z => nomatch z) (fun b o _ hb _ e n => u.keep b o e n hb (by simp)) (fun b o _ hb _ e n => u.slot b o e n hb (by simp)) (fun b o _ e n => u.free b o e n (by simp)) (fun b o _ e => u.there b o e (by simp)) u.tups u.frzs u.tbls (fun m' hm => by
    obtain ⟨o', es', ep', ho', r'⟩ := hm
    rw [ho] at ho'; cases ho'
    exact ⟨_, es', ep', hL, r'⟩) hok I.bare
theorem Inv.call {g' : Array GenState} {t' : Nat} {d' : Drawn} {ch : List Addr} (I : Inv X pins σ H s) (u : Un (frs X.stack) ch H H' s.heap h') (hok : HOk X.prog X.w H' h') (hg : AllBare g')
    (hch : ∀ b ∈ ch, (b ∈ X.ex \/ X.s₀.heap.objs.size <= b) /\ b ≠ X.env.locals /\ (∀ x c, X.env.cells.lookup x = some c -> c ≠ b) /\ ∀ p ∈ X.pn ++ pins, p.1 ≠ b) :
    Inv X pins σ H' { s with heap := h', gens := g', drawn := d', toks := t' } := by
  obtain ⟨m, ⟨o, es, ep, ho, r⟩, _⟩ := id I.loc
  obtain ⟨sl, hL⟩ := u.any ho I.free fun z => (hch _ z).2.1 rfl
  exact I.step (ch := ch) hch (fun b o hL hb hc e n => u.keep b o e n (fun z => (List.mem_cons.mp (I.stkSub b z)).elim hL hb) hc) (fun b o _ _ hc e n => u.any e n hc) (fun b o hc e n => u.free b o e n hc) (fun b o hc e => u.there b o e hc) u.tups u.frzs u.tbls (fun m' hm => by
    obtain ⟨o', es', ep', ho', r'⟩ := hm
    rw [ho] at ho'; cases ho'
    exact ⟨_, es', ep', hL, r'⟩) hok hg
theorem Inv.turned {t' : Nat} {it : Addr} (I : Inv X pins σ H s) (k : ∀ b o, b ≠ it -> s.heap.get? b = some o -> h'.get? b = some o) (hn : H it = none) (hL : it ≠ X.env.locals)
    (h1 : it ∈ X.ex \/ X.s₀.heap.objs.size <= it) (h2 : ∀ x c, X.env.cells.lookup x = some c -> c ≠ it) (h3 : ∀ p ∈ X.pn ++ pins, p.1 ≠ it) : Inv X pins σ H { s with heap := h', toks := t' } := by
  have nit : ∀ b u, H b = some u -> b ≠ it := fun b u e z => by rw [z, hn] at e; cases e
  refine I.step (g' := s.gens) (d' := s.drawn) (ch := [it]) (fun b hb => ?_) (fun b o _ _ hc e _ => k b o (fun z => hc (by simp [z])) e) (fun b o _ _ hc e _ => ⟨o.slots, k b o (fun z => hc (by simp [z])) e⟩) (fun _ _ _ _ n => n)
    (fun b o hc e => ⟨o, k b o (fun z => hc (by simp [z])) e⟩) (fun _ _ e => e) (fun _ _ _ e => e) (fun b ps e => ⟨#[], by rw [e]; simp⟩) (fun m hm => ?_) (fun b u e => ?_) I.bare
  · have e : b = it := by simpa using hb
    subst e
    exact ⟨h1, hL, h2, h3⟩
  · obtain ⟨o, es, ep, ho, r⟩ := hm
    exact ⟨o, es, ep, k _ o (Ne.symm hL) ho, r⟩
  · refine (I.hok b u e).stay (fun c v hc q => k c v ?_ q) (fun _ q => q) fun _ _ q => q
    rcases hc with z | z
    · rw [z]; exact nit b u e
    · exact nit c _ z
theorem Inv.tok (I : Inv X pins σ H s) (t : Nat) : Inv X pins σ H { s with toks := t } := I.un (h' := s.heap) (t' := t) Un.refl I.hok
theorem Inv.kept {t' : Nat} (I : Inv X pins σ H s) (k : ∀ b u, s.heap.get? b = some u -> h'.get? b = some u) : Inv X pins σ H { s with heap := h', toks := t' } := I.un (Un.kept k) (I.hok.kept k)
theorem Inv.laid {a : Addr} {o : HO} {t' : Nat} (I : Inv X pins σ H s) (k : ∀ b u, s.heap.get? b = some u -> h'.get? b = some u) (hp : s.heap.objs.size <= a) (new : ObjOk X.prog X.w (upd H a o) h' a o) :
    Inv X pins σ (upd H a o) { s with heap := h', toks := t' } := I.un (Un.laid k hp (I.hok.fresh hp)) (I.hok.laid k hp new)
theorem Inv.write {x e : Addr} {o : HO} {t' : Nat} (I : Inv X pins σ H s) (mu : Mut (H x)) (he : e = x \/ H e = some (.own x)) (k : ∀ b u, b ≠ e -> s.heap.get? b = some u -> h'.get? b = some u) (heo : ∃ u, h'.get? e = some u)
    (new : ObjOk X.prog X.w (upd H x o) h' x o) : Inv X pins σ (upd H x o) { s with heap := h', toks := t' } := I.un (Un.write mu he k heo) (I.hok.write mu he k heo new)
theorem Inv.pins_of {pins' : List (Addr × Obj)} (I : Inv X pins σ H s) (h : ∀ p ∈ pins', s.heap.get? p.1 = some p.2 /\ H p.1 = none /\ p.1 ≠ X.env.locals /\ p.1 ∉ X.fs /\ ∀ v, p.2.data ≠ .cell v) : Inv X pins' σ H s :=
  ⟨I.ok, I.os, I.bare, I.base, I.loc, I.cell, I.free, I.freeC, fun p hp => (List.mem_append.mp hp).elim (fun z => I.pin p (List.mem_append_left _ z)) (h p), I.hok, I.len⟩
theorem A3n {N : List Str} (hN : N.Nodup) {i j : Nat} {x : Str} (a : N[i]? = some x) (b : N[j]? = some x) : i = j := by
  obtain ⟨h1, e1⟩ := List.getElem?_eq_some_iff.mp a
  obtain ⟨h2, e2⟩ := List.getElem?_eq_some_iff.mp b
  exact (List.getElem_inj hN).mp (e1.trans e2.symm)
theorem A0d {M : Model} {A : Around} {E : Value -> Shared -> Prop} {i : Nat} {x : Str} {v : V} {u : Value} {Q : Unit -> Shared -> Prop} (I : Inv X pins σ H s) (hN : X.N.Nodup) (hi : X.N[i]? = some x) (hx : Loc X.env.scope x) (r : RelV v u)
    (h : ∀ s', Inv X pins (σ.set i (some v)) H s' -> (∃ a, Heap.SameBut a s.heap s'.heap /\ (a = X.env.locals \/ X.env.cells.lookup x = some a)) -> Q () s') (hf : X.fn x = true \/ X.env.scope.names.lookup x = some .local := by first | exact .inl rfl | exact .inr rfl | assumption) : wpAny M A (storeName X.env x u) Q E s := by
  obtain ⟨m, hn, hl⟩ := id I.loc
  have hcls : (X.env.scope.kind == .class || (X.env.scope.kind == .module && X.env.locals != X.env.globals)) = false := by rw [I.ok.kind]; rfl
  have hiσ : i < σ.length := by rw [I.len]; exact (List.getElem?_eq_some_iff.mp hi).1
  have cne := I.cne
  have tracked : ∀ {a : Addr} {h' : Heap}, (∃ o, s.heap.get? a = some o /\ H a = none) -> Heap.SameBut a s.heap h' -> HOk X.prog X.w H h' := fun {a h'} ha hs b ob e => by
    obtain ⟨_, _, hfree⟩ := ha
    refine (I.hok b ob e).stay (fun c w' hc q => (hs.2 c ?_).trans q) (fun _ q => q) fun _ _ q => q
    rintro rfl
    rcases hc with rfl | hc
    · rw [hfree] at e; cases e
    · rw [hfree] at hc; cases hc
  rcases hx with hk | hk
  · refine wpAny_storeName_local hk hn (fun h' hn' hs => ?_) hcls
    obtain ⟨oL, _, _, hoL, _⟩ := id hn
    refine h _ ⟨I.ok, I.os, I.bare, ⟨fun b o e n hb hx => ?_, fun b o e n hb hx => ?_, I.base.free, fun b o e hx => ?_, I.base.tups, I.base.frzs, I.base.tbls⟩, ⟨_, hn', fun j y v' e1 e2 e3 => ?_⟩, fun y c e => ?_, I.free, I.freeC, fun p hp => ?_, tracked ⟨oL, hoL, I.free⟩ hs, by simpa using I.len⟩ ⟨_, hs, .inl rfl⟩
    · exact (hs.2 b (Nat.ne_of_lt (Nat.lt_of_lt_of_le (Heap.lt_size e) I.ok.above))).trans (I.base.keep b o e n hb hx)
    · obtain ⟨sl, e1⟩ := I.base.slot b o e n hb hx
      exact ⟨sl, (hs.2 b (Nat.ne_of_lt (Nat.lt_of_lt_of_le (Heap.lt_size e) I.ok.above))).trans e1⟩
    · obtain ⟨o', e1⟩ := I.base.there b o e hx
      exact ⟨o', (hs.2 b (Nat.ne_of_lt (Nat.lt_of_lt_of_le (Heap.lt_size e) I.ok.above))).trans e1⟩
    · by_cases hj : j = i
      · subst hj
        rw [hi] at e1; cases e1
        rw [List.getElem?_set_self hiσ] at e2
        cases e2
        exact ⟨u, r, .inl ⟨hk, by simp⟩⟩
      · rw [List.getElem?_set_ne (Ne.symm hj)] at e2
        obtain ⟨u', r', q⟩ := hl j y v' e1 e2 e3
        refine ⟨u', r', ?_⟩
        rcases q with ⟨k, e⟩ | ⟨k, c, e, z⟩
        · refine .inl ⟨k, ?_⟩
          have : y ≠ x := fun e => hj (A3n hN e1 (e ▸ hi))
          simp [this, e]
        · exact .inr ⟨k, c, e, z.sameBut hs (cne y c e)⟩
    · obtain ⟨w', z⟩ := I.cell y c e
      exact ⟨w', z.sameBut hs (cne y c e)⟩
    · obtain ⟨e, n, ne, nf, d⟩ := I.pin p hp
      exact ⟨(hs.2 p.1 ne).trans e, n, ne, nf, d⟩
  · have hfn : X.fn x = true := by
      rcases hf with z | z
      · exact z
      · rw [z] at hk; cases hk
    obtain ⟨c, hc⟩ := I.ok.has x (.inl hk)
    obtain ⟨w', z⟩ := I.cell x c hc
    refine wpAny_storeName_cell I.ok.kind hk hc z (fun h' hc' hs => ?_)
    obtain ⟨oc, hoc, hocd⟩ := id z
    refine h { s with heap := h' } ⟨I.ok, I.os, I.bare, ⟨fun b o e n hb hx => ?_, fun b o e n hb hx => ?_, I.base.free, fun b o e hx => ?_, I.base.tups, I.base.frzs, I.base.tbls⟩, ⟨m, hn.sameBut hs (Ne.symm (cne x c hc)), fun j y v' e1 e2 e3 => ?_⟩, fun y c' e => ?_, I.free, I.freeC, fun p hp => ?_, tracked ⟨oc, hoc, I.freeC x c hc⟩ hs, by simpa using I.len⟩ ⟨c, hs, .inr hc⟩
    · exact (hs.2 b (Nat.ne_of_lt (Nat.lt_of_lt_of_le (Heap.lt_size e) (I.ok.cab x c hfn hc)))).trans (I.base.keep b o e n hb hx)
    · obtain ⟨sl, e1⟩ := I.base.slot b o e n hb hx
      exact ⟨sl, (hs.2 b (Nat.ne_of_lt (Nat.lt_of_lt_of_le (Heap.lt_size e) (I.ok.cab x c hfn hc)))).trans e1⟩
    · obtain ⟨o', e1⟩ := I.base.there b o e hx
      exact ⟨o', (hs.2 b (Nat.ne_of_lt (Nat.lt_of_lt_of_le (Heap.lt_size e) (I.ok.cab x c hfn hc)))).trans e1⟩
    · by_cases hj : j = i
      · subst hj
        rw [hi] at e1; cases e1
        rw [List.getElem?_set_self hiσ] at e2
        cases e2
        exact ⟨u, r, .inr ⟨.inl hk, c, hc, hc'⟩⟩
      · rw [List.getElem?_set_ne (Ne.symm hj)] at e2
        obtain ⟨u', r', q⟩ := hl j y v' e1 e2 e3
        refine ⟨u', r', ?_⟩
        rcases q with q | ⟨k, c', e, z'⟩
        · exact .inl q
        · refine .inr ⟨k, c', e, z'.sameBut hs ?_⟩
          rintro rfl
          exact hj (A3n hN e1 (I.ok.inj _ _ _ e hc ▸ hi))
    · by_cases hcc : c' = c
      · subst hcc; exact ⟨_, hc'⟩
      · obtain ⟨w2, z2⟩ := I.cell y c' e
        exact ⟨w2, z2.sameBut hs hcc⟩
    · obtain ⟨e, n, ne, nf, d⟩ := I.pin p hp
      refine ⟨(hs.2 p.1 ?_).trans e, n, ne, nf, d⟩
      intro q
      rw [q, hoc] at e
      have q' : oc = p.2 := Option.some.inj e
      exact d w' (by rw [<- q']; exact hocd)
theorem S4 {M : Model} {A : Around} {E : Value -> Shared -> Prop} {i : Nat} {x : Str} {v : V} {u : Value} {Q : Unit -> Shared -> Prop} (I : Inv X pins σ H s) (hN : X.N.Nodup) (hi : X.N[i]? = some x) (hx : Loc X.env.scope x) (r : RelV v u)
    (h : ∀ s', Inv X pins (σ.set i (some v)) H s' -> Q () s') (hf : X.fn x = true \/ X.env.scope.names.lookup x = some .local := by first | exact .inl rfl | exact .inr rfl | assumption) : wpAny M A (storeName X.env x u) Q E s :=
  A0d I hN hi hx r (fun s' I' _ => h s' I') hf
theorem Inv.call' {s' : Shared} {ch : List Addr} (I : Inv X pins σ H s) (ho : s'.os = s.os) (u : Un (frs X.stack) ch H H' s.heap s'.heap) (hok : HOk X.prog X.w H' s'.heap) (hg : AllBare s'.gens)
    (hch : ∀ b ∈ ch, (b ∈ X.ex \/ X.s₀.heap.objs.size <= b) /\ b ≠ X.env.locals /\ (∀ x c, X.env.cells.lookup x = some c -> c ≠ b) /\ ∀ p ∈ X.pn ++ pins, p.1 ≠ b) : Inv X pins σ H' s' := by
  obtain ⟨h', g', d', t', o'⟩ := s'
  have e : o' = s.os := ho
  subst e
  exact I.call (g' := g') (t' := t') (d' := d') u hok hg hch
end
abbrev XK := Value -> Option Addr -> Hp -> Prop
abbrev St := List (Option V)
abbrev VK := V -> Hp -> Prop
abbrev TE := St -> Hp -> VK -> Prop
abbrev TT := St -> Hp -> (Bool -> Hp -> Prop) -> Prop
abbrev TA := St -> Hp -> (List V -> Hp -> Prop) -> Prop
structure Ends where
  nx : St -> Hp -> Prop
  rt : VK
  bk : St -> Hp -> Prop := fun _ _ => False
  ct : St -> Hp -> Prop := fun _ _ => False
abbrev TS := Ends -> St -> Hp -> Prop
def EP (X : Cx) (pins : List (Addr × Obj)) (σ : St) (Q : VK) (u : Value) (s' : Shared) : Prop := ∃ v H', Inv X pins σ H' s' /\ RelV v u /\ Q v H'
def TP (X : Cx) (pins : List (Addr × Obj)) (σ : St) (Q : Bool -> Hp -> Prop) (b : Bool) (s' : Shared) : Prop := ∃ H', Inv X pins σ H' s' /\ Q b H'
def AP (X : Cx) (pins : List (Addr × Obj)) (σ : St) (Q : List V -> Hp -> Prop) (us : List Value) (s' : Shared) : Prop := ∃ vs H', Inv X pins σ H' s' /\ Vals vs us /\ Q vs H'
def SP (X : Cx) (pins : List (Addr × Obj)) (D : Ends) (f : Flow) (s' : Shared) : Prop :=
  match f with
  | .next => ∃ σ' H', Inv X pins σ' H' s' /\ D.nx σ' H'
  | .brk => ∃ σ' H', Inv X pins σ' H' s' /\ D.bk σ' H'
  | .cont => ∃ σ' H', Inv X pins σ' H' s' /\ D.ct σ' H'
  | .ret u => ∃ v σ' H', Inv X pins σ' H' s' /\ RelV v u /\ D.rt v H'
def PE (X : Cx) (e : Expr) (t : TE) : Prop :=
  ∀ (pins : List (Addr × Obj)) (s : Shared) (σ : St) (H : Hp) (Q : VK), Inv X pins σ H s -> t σ H Q -> wpAny (model X.prog X.w) X.A (eval e X.env) (EP X pins σ Q) X.xe s
def PT (X : Cx) (e : Expr) (t : TT) : Prop :=
  ∀ (pins : List (Addr × Obj)) (s : Shared) (σ : St) (H : Hp) (Q : Bool -> Hp -> Prop), Inv X pins σ H s -> t σ H Q -> wpAny (model X.prog X.w) X.A (isTrue e X.env (eval e X.env)) (TP X pins σ Q) X.xe s
def PW (X : Cx) (e : Expr) (t : TT) : Prop :=
  ∀ (whole : Sem Value) (pins : List (Addr × Obj)) (s : Shared) (σ : St) (H : Hp) (Q : Bool -> Hp -> Prop), Inv X pins σ H s -> t σ H Q -> wpAny (model X.prog X.w) X.A (isTrue e X.env whole) (TP X pins σ Q) X.xe s
theorem PW.pt {X : Cx} {e : Expr} {t : TT} (h : PW X e t) : PT X e t := h _
def PA (X : Cx) (es : List Expr) (t : TA) : Prop :=
  ∀ (pos : Pos) (pins : List (Addr × Obj)) (s : Shared) (σ : St) (H : Hp) (Q : List V -> Hp -> Prop), Inv X pins σ H s -> t σ H Q -> wpAny (model X.prog X.w) X.A (spliced (backTo pos (starEach es X.env))) (AP X pins σ Q) X.xe s
def PS (X : Cx) (st : Stmt) (t : TS) : Prop :=
  ∀ (pins : List (Addr × Obj)) (s : Shared) (σ : St) (H : Hp) (D : Ends), Inv X pins σ H s -> t D σ H -> wpAny (model X.prog X.w) X.A (exec st X.env) (SP X pins D) X.xe s
def PSs (X : Cx) (st : List Stmt) (t : TS) : Prop :=
  ∀ (pins : List (Addr × Obj)) (s : Shared) (σ : St) (H : Hp) (D : Ends), Inv X pins σ H s -> t D σ H -> wpAny (model X.prog X.w) X.A (execs st X.env) (SP X pins D) X.xe s
theorem thn {α : Type} {t : Sem α} {Q Q' : α -> Shared -> Prop} {M : Model} {A : Around} {E : Value -> Shared -> Prop} {s : Shared} (h : wpAny M A t Q E s) (hQ : ∀ a s, Q a s -> Q' a s) : wpAny M A t Q' E s := wpAny_mono h hQ fun _ _ x => x
end L2
namespace L2
open PySem PySem.Spec PyProof.Rows
section
variable {X : Cx}
theorem bin {a b : Expr} {ta tb : TE} (ha : PE X a ta) (hb : PE X b tb) {pins : List (Addr × Obj)} {s : Shared} {σ : St} {H : Hp} {R : V -> V -> Hp -> Prop} (I : Inv X pins σ H s) (h : ta σ H fun x H1 => tb σ H1 fun y H2 => R x y H2)
    {α : Type} {Q : α -> Shared -> Prop} {f : Value -> Value -> Sem α}
    (hf : ∀ v u s2 x y H2, Inv X pins σ H2 s2 -> RelV x v -> RelV y u -> R x y H2 -> wpAny (model X.prog X.w) X.A (f v u) Q X.xe s2) :
    wpAny (model X.prog X.w) X.A (eval a X.env) (fun v s₁ => wpAny (model X.prog X.w) X.A (eval b X.env) (fun u s₂ => wpAny (model X.prog X.w) X.A (f v u) Q X.xe s₂) X.xe s₁) X.xe s := by
  refine thn (ha pins s σ H _ I h) fun v s1 ⟨x, H1, I1, r1, q1⟩ => ?_
  refine thn (hb pins s1 σ H1 _ I1 q1) fun u s2 ⟨y, H2, I2, r2, q2⟩ => ?_
  exact hf v u s2 x y H2 I2 r1 r2 q2
def tVar (i : Nat) : TE := fun σ H Q => ∃ v, σ[i]? = some (some v) /\ Q v H
def tC (v : V) : TE := fun _ H Q => Q v H
theorem B75 {i : Nat} {x : Str} {pos : Pos} (hN : X.N[i]? = some x) (hv : Vis X.env.scope x) (hd : (x == ("__debug__" : Str)) = false := by decide) (hcd : (x == ("__classdict__" : Str)) = false := by decide) : PE X (.Name x pos) (tVar i) := by
  intro pins s σ H Q I h
  obtain ⟨v, e, h⟩ := h
  obtain ⟨m, hn, hl⟩ := I.loc
  obtain ⟨u, r, l⟩ := hl i x v hN e hv
  have fin : EP X pins σ Q u s := ⟨v, H, I, r, h⟩
  rcases l with ⟨hk, hm⟩ | ⟨hk, c, hc, hcell⟩
  · exact wpAny_Name (wpAny_loadName_local I.ok.kind hk hn hm fin) hd
  · rcases hk with hk | hk
    · exact wpAny_Name (wpAny_loadName_cell I.ok.kind hk hc hcell fin) hd
    · exact wpAny_Name (wpAny_loadName_free I.ok.kind hk hc hcell fin hcd) hd
theorem D5 {i j pos} : PE X (.Constant (.int i) j pos) (tC (.int i)) := fun _ _ _ H _ I h => wpAny_Constant_int ⟨.int i, H, I.tok _, ⟨_, rfl⟩, h⟩
theorem C02 {b j pos} : PE X (.Constant (.bool b) j pos) (tC (.bl b)) := fun _ _ _ H _ I h => Constant_bool ⟨.bl b, H, I, rfl, h⟩
theorem B8a {j pos} : PE X (.Constant .none j pos) (tC .non) := fun _ _ _ H _ I h => Constant_none ⟨.non, H, I, rfl, h⟩
theorem B77 {x j pos} : PE X (.Constant (.str x) j pos) (tC (.str x)) := fun _ _ _ H _ I h => Calls.Constant_str ⟨.str x, H, I.tok _, ⟨_, rfl⟩, h⟩
def Gl (X : Cx) (x : Str) : Prop := X.env.kindOf x = some .globalImplicit
theorem A8j {E : Value -> Shared -> Prop} {pins : List (Addr × Obj)} {s : Shared} {σ : St} {H : Hp} {x : Str} {u : Value} {pos : Pos} {Q : Value -> Shared -> Prop} (I : Inv X pins σ H s) (hg : Gl X x) (hm : X.mg x = some u) (h : Q u s)
    (hd : (x == ("__debug__" : Str)) = false := by decide) : wpAny (model X.prog X.w) X.A (eval (.Name x pos) X.env) Q E s :=
  Calls.Name_function_global I.ok.kind hg (Calls.loadGlobal_global (by rw [I.ok.glob]; exact I.mod.glob.keeps I.bk) hm h) hd
theorem U1 {E : Value -> Shared -> Prop} {pins : List (Addr × Obj)} {s : Shared} {σ : St} {H : Hp} {x : Str} {u : Value} {pos : Pos} {Q : Value -> Shared -> Prop} (I : Inv X pins σ H s) (hg : Gl X x) (hm : X.mg x = none) (hv : bootBuiltins x = some u) (h : Q u s)
    (hn : x ≠ "__name__" := by decide) (hd : (x == ("__debug__" : Str)) = false := by decide) : wpAny (model X.prog X.w) X.A (eval (.Name x pos) X.env) Q E s := by
  obtain ⟨mb, h1, h2⟩ := I.mod.blt
  exact Calls.Name_function_global I.ok.kind hg (Calls.loadGlobal_builtin (by rw [I.ok.glob]; exact I.mod.glob.keeps I.bk) hm (by rw [I.ok.blt]; exact h1.keeps I.bk) ((h2 x hn).trans hv) h) hd
theorem B5q {x : Str} {v : V} {u : Value} {pos : Pos} (hg : Gl X x) (hm : X.mg x = some u) (r : RelV v u) (hd : (x == ("__debug__" : Str)) = false := by decide) : PE X (.Name x pos) (tC v) :=
  fun _ _ _ H _ I h => A8j I hg hm ⟨v, H, I, r, h⟩ hd
theorem B5t {x : Str} {v : V} {u : Value} {pos : Pos} (hg : Gl X x) (hm : X.mg x = none) (hv : bootBuiltins x = some u) (r : RelV v u) (hn : x ≠ "__name__" := by decide) (hd : (x == ("__debug__" : Str)) = false := by decide) : PE X (.Name x pos) (tC v) :=
  fun _ _ _ H _ I h => U1 I hg hm hv ⟨v, H, I, r, h⟩ hn hd
variable {a b : Expr} {ta tb : TE} {pos : Pos}
def PC (X : Cx) (op : CmpOp) (a b : Expr) (t : TE) : Prop :=
  ∀ (pins : List (Addr × Obj)) (s : Shared) (σ : St) (H : Hp) (Q : VK), Inv X pins σ H s -> t σ H Q ->
    wpAny (model X.prog X.w) X.A (eval a X.env) (fun v s₁ => wpAny (model X.prog X.w) X.A (eval b X.env) (fun u s₂ => wpAny (model X.prog X.w) X.A (compareOp op v u) (EP X pins σ Q) X.xe s₂) X.xe s₁) X.xe s
theorem B1f (b : Expr) {op : CmpOp} (h : op ≠ .In) (h2 : op ≠ .NotIn) : behindInMarks op b = false := by
  have e1 : (op == CmpOp.In) = false := by cases op <;> first | rfl | exact absurd rfl h
  have e2 : (op == CmpOp.NotIn) = false := by cases op <;> first | rfl | exact absurd rfl h2
  cases b <;> simp [behindInMarks, e1, e2]
def tB (t : TE) : TT := fun σ H Q => t σ H fun x H1 => ∃ c, x = .bl c /\ Q c H1
theorem C1i {op : CmpOp} {t : TE} (h : PC X op a b t) (h1 : behindInMarks op b = false := by first | exact B1f _ (by decide) (by decide) | rfl) : PT X (.Compare a [op] [b] pos) (tB t) := by
  intro pins s σ H Q I hw
  refine wpAny_isTrue_Compare1 (thn (h pins s σ H _ I hw) fun v s1 h1 => thn h1 fun u s2 h2 => thn h2 fun c s3 ⟨x, H1, I1, r1, q1⟩ => ?_) h1
  obtain ⟨d, rfl, q⟩ := q1
  cases r1
  exact wpAny_truthy_bool ⟨H1, I1, q⟩
theorem B2b {e : Expr} {t : TE} (h : PE X e t) (he : ∀ whole, isTrue e X.env whole = (do let v <- whole; standAt e.pos; holding [v] (truthy v)) := by intro _; rfl) : PT X e (tB t) := by
  intro pins s σ H Q I hw
  refine isTrue_plain (thn (h pins s σ H _ I hw) fun v s1 ⟨x, H1, I1, r1, q1⟩ => ?_) (he _)
  obtain ⟨d, rfl, q⟩ := q1
  cases r1
  exact wpAny_truthy_bool ⟨H1, I1, q⟩
variable {tA tB' : TT} {rest : List Expr}
def tAnd (t u : TT) : TT := fun σ H Q => t σ H fun c H1 => if c = true then u σ H1 Q else Q false H1
def tOr (t u : TT) : TT := fun σ H Q => t σ H fun c H1 => if c = true then Q true H1 else u σ H1 Q
def tNot (t : TT) : TT := fun σ H Q => t σ H fun c H1 => Q (!c) H1
theorem B5d (ha : PT X a tA) : PW X (.BoolOp .And [a] pos) tA := by
  intro wh pins s σ H Q I h
  refine isTrue_and (thn (ha pins s σ H Q I h) fun c s1 e => ?_)
  cases c with
  | true => exact isTrue_and_nil e
  | false => exact e
theorem B7x (ha : PT X a tA) : PW X (.BoolOp .Or [a] pos) tA := by
  intro wh pins s σ H Q I h
  refine isTrue_or (thn (ha pins s σ H Q I h) fun c s1 e => ?_)
  cases c with
  | false => exact isTrue_or_nil e
  | true => exact e
theorem B7y (ha : PT X a tA) (hb : PW X (.BoolOp .And (b :: rest) pos) tB') : PW X (.BoolOp .And (a :: b :: rest) pos) (tAnd tA tB') := by
  intro wh pins s σ H Q I h
  refine isTrue_and (thn (ha pins s σ H _ I h) fun c s1 ⟨H1, I1, q1⟩ => ?_)
  cases c with
  | true => exact hb wh pins s1 σ H1 Q I1 q1
  | false => exact ⟨H1, I1, q1⟩
theorem C0x (ha : PT X a tA) (hb : PW X (.BoolOp .Or (b :: rest) pos) tB') : PW X (.BoolOp .Or (a :: b :: rest) pos) (tOr tA tB') := by
  intro wh pins s σ H Q I h
  refine isTrue_or (thn (ha pins s σ H _ I h) fun c s1 ⟨H1, I1, q1⟩ => ?_)
  cases c with
  | true => exact ⟨H1, I1, q1⟩
  | false => exact hb wh pins s1 σ H1 Q I1 q1
theorem B7z (ha : PT X a tA) : PT X (.UnaryOp .Not a pos) (tNot tA) := by
  intro pins s σ H Q I h
  exact isTrue_not (ha pins s σ H (fun c H1 => Q (!c) H1) I h)
def B41 (ta tb : TE) : TE := fun σ H Q => ta σ H fun x H1 => ∃ c, x = .bl c /\ if c = true then tb σ H1 Q else Q (.bl false) H1
def tOrV (ta tb : TE) : TE := fun σ H Q => ta σ H fun x H1 => ∃ c, x = .bl c /\ if c = true then Q (.bl true) H1 else tb σ H1 Q
def B4x (ta : TE) : TE := fun σ H Q => ta σ H fun x H1 => ∃ c, x = .bl c /\ Q (.bl (!c)) H1
theorem B78 {op} {t : TE} (h : PE X a t) : PE X (.BoolOp op [a] pos) t := fun pins s σ H Q I hw => BoolOp_one (h pins s σ H Q I hw)
theorem B8c (ha : PE X a ta) (hb : PE X (.BoolOp .And (b :: rest) pos) tb) : PE X (.BoolOp .And (a :: b :: rest) pos) (B41 ta tb) := by
  intro pins s σ H Q I h
  refine BoolOp_and (thn (ha pins s σ H _ I h) fun v s1 ⟨x, H1, I1, r1, q1⟩ => ?_)
  obtain ⟨c, rfl, q1⟩ := q1
  cases r1
  refine wpAny_truthy_bool ?_
  cases c with
  | true => exact hb pins s1 σ H1 Q I1 q1
  | false => exact ⟨.bl false, H1, I1, rfl, q1⟩
theorem C00 (ha : PE X a ta) (hb : PE X (.BoolOp .Or (b :: rest) pos) tb) : PE X (.BoolOp .Or (a :: b :: rest) pos) (tOrV ta tb) := by
  intro pins s σ H Q I h
  refine BoolOp_or (thn (ha pins s σ H _ I h) fun v s1 ⟨x, H1, I1, r1, q1⟩ => ?_)
  obtain ⟨c, rfl, q1⟩ := q1
  cases r1
  refine wpAny_truthy_bool ?_
  cases c with
  | false => exact hb pins s1 σ H1 Q I1 q1
  | true => exact ⟨.bl true, H1, I1, rfl, q1⟩
theorem B79 (ha : PE X a ta) : PE X (.UnaryOp .Not a pos) (B4x ta) := by
  intro pins s σ H Q I h
  refine UnaryOp_ (thn (ha pins s σ H _ I h) fun v s1 ⟨x, H1, I1, r1, q1⟩ => ?_)
  obtain ⟨c, rfl, q1⟩ := q1
  cases r1
  exact not_of (wpAny_truthy_bool ⟨.bl (!c), H1, I1, rfl, q1⟩)
def tIf (t : TT) (ta tb : TE) : TE := fun σ H Q => t σ H fun c H1 => if c = true then ta σ H1 Q else tb σ H1 Q
theorem B05 {c : Expr} (hc : PT X c tA) (ha : PE X a ta) (hb : PE X b tb) : PE X (.IfExp c a b pos) (tIf tA ta tb) := by
  intro pins s σ H Q I h
  refine wpAny_IfExp (thn (hc pins s σ H _ I h) fun d s1 ⟨H1, I1, q1⟩ => ?_)
  cases d with
  | true => exact ha pins s1 σ H1 Q I1 q1
  | false => exact hb pins s1 σ H1 Q I1 q1
end
end L2
namespace L2
open PySem PySem.Spec PyProof.Rows
def SqL (K : PySem.W.Frag) (H : Hp) (a : Addr) (xs : List V) : Prop :=
  Rd H a (.lst xs) \/
    ∃ (o : Obj) (its : Array Value) (n : Nat), K.lookup a = some o /\ o.cls = .type "list" /\ o.dict = none /\ o.data = .seq its n /\ its.size <= sizeLine /\ Vals xs its.toList
def SqT (K : PySem.W.Frag) (H : Hp) (a : Addr) (xs : List V) : Prop :=
  Rd H a (.tup xs) \/
    ∃ (o : Obj) (its : Array Value) (n : Nat), K.lookup a = some o /\ o.cls = .type "tuple" /\ o.data = .seq its n /\ its.size <= sizeLine /\ Vals xs its.toList
def absV : Value -> Option V
  | .none => some .non
  | .bool b => some (.bl b)
  | .int i _ => some (.int i)
  | .str x _ => some (.str x)
  | .bytes b _ => some (.byt b)
  | .float b _ => some (.flt b)
  | .ref a => some (.ref a)
  | .type n => some (.ty n)
  | _ => none
theorem RelV.abs {x : V} {u : Value} (r : RelV x u) : absV u = some x := by
  cases x with
  | non => cases r; rfl
  | bl _ => cases r; rfl
  | int _ => obtain ⟨t, rfl⟩ := r; rfl
  | str _ => obtain ⟨t, rfl⟩ := r; rfl
  | byt _ => obtain ⟨t, rfl⟩ := r; rfl
  | flt _ => obtain ⟨t, rfl⟩ := r; rfl
  | ref _ => cases r; rfl
  | ty _ => cases r; rfl
theorem RelV.inj {x y : V} {u : Value} (r : RelV x u) (q : RelV y u) : x = y := Option.some.inj (r.abs.symm.trans q.abs)
theorem Vals.inj : ∀ {xs ys : List V} {us : List Value}, Vals xs us -> Vals ys us -> xs = ys
  | _, _, _, .nil, .nil => rfl
  | _, _, _, .cons r t, .cons r' t' => by rw [r.inj r', Vals.inj t t']
section
variable {X : Cx} {pins : List (Addr × Obj)} {σ : St} {H : Hp} {s : Shared} {a : Addr} {xs ys : List V}
theorem SqL.of {K : PySem.W.Frag} (h : H a = some (.lst xs)) : SqL K H a xs := .inl (.inl h)
theorem SqT.of {K : PySem.W.Frag} (h : H a = some (.tup xs)) : SqT K H a xs := .inl (.inl h)
theorem Inv.list (I : Inv X pins σ H s) (h : SqL X.K H a xs) : ∃ its : List Value, Vals xs its /\ PlainL s.heap a its.toArray /\ xs.length <= sizeLine := by
  rcases h with h | ⟨o, its, n, hk, hc, hd, hs, hz, r⟩
  · obtain ⟨z, its, n, r, e⟩ := h.ok I.hok
    exact ⟨its, r, ⟨_, n, e, rfl, rfl, rfl⟩, z⟩
  · refine ⟨its.toList, r, ⟨o, n, I.kIn a o hk, hc, hd, by simpa using hs⟩, ?_⟩
    have e := r.length
    simp only [Array.length_toList] at e
    omega
theorem Inv.tuple (I : Inv X pins σ H s) (h : SqT X.K H a xs) : ∃ its : List Value, Vals xs its /\ IsTup s.heap a its.toArray /\ xs.length <= sizeLine := by
  rcases h with h | ⟨o, its, n, hk, hc, hs, hz, r⟩
  · obtain ⟨z, its, r, p⟩ := h.ok I.hok
    exact ⟨its, r, p, z⟩
  · refine ⟨its.toList, r, ⟨o, I.kIn a o hk, hc, n, by simpa using hs⟩, ?_⟩
    have e := r.length
    simp only [Array.length_toList] at e
    omega
theorem Inv.list_inj (I : Inv X pins σ H s) (h : SqL X.K H a xs) (h' : SqL X.K H a ys) : xs = ys := by
  obtain ⟨its, r, ⟨o, n, e, _, _, d⟩, _⟩ := I.list h
  obtain ⟨its', r', ⟨o', n', e', _, _, d'⟩, _⟩ := I.list h'
  rw [e] at e'; cases e'
  rw [d] at d'
  injection d' with d1 _
  have : its = its' := by simpa using congrArg Array.toList d1
  subst this
  exact r.inj r'
theorem Inv.tuple_inj (I : Inv X pins σ H s) (h : SqT X.K H a xs) (h' : SqT X.K H a ys) : xs = ys := by
  obtain ⟨its, r, ⟨o, e, _, n, d⟩, _⟩ := I.tuple h
  obtain ⟨its', r', ⟨o', e', _, n', d'⟩, _⟩ := I.tuple h'
  rw [e] at e'; cases e'
  rw [d] at d'
  injection d' with d1 _
  have : its = its' := by simpa using congrArg Array.toList d1
  subst this
  exact r.inj r'
end
abbrev Cx.wish (X : Cx) (E : Value -> Shared -> Prop) : Cx := { X with xe := E }
abbrev Cx.nox (X : Cx) : Cx := X.wish fun _ _ => False
theorem Cx.Ok.wish {X : Cx} (ok : X.Ok) (E : Value -> Shared -> Prop) : (X.wish E).Ok :=
  ⟨ok.mod, ok.kind, ok.glob, ok.blt, ok.above, ok.inj, ok.has, ok.cab, ok.hd, ok.frames, ok.stk, ok.exf, ok.bs, ok.bsz, ok.noex, ok.exfs, ok.funs, ok.frf⟩
theorem Cx.Ok.unwish {X : Cx} {E : Value -> Shared -> Prop} (ok : (X.wish E).Ok) : X.Ok :=
  ⟨ok.mod, ok.kind, ok.glob, ok.blt, ok.above, ok.inj, ok.has, ok.cab, ok.hd, ok.frames, ok.stk, ok.exf, ok.bs, ok.bsz, ok.noex, ok.exfs, ok.funs, ok.frf⟩
section
variable {X : Cx} {pins : List (Addr × Obj)} {σ : St} {H : Hp} {s : Shared} {E : Value -> Shared -> Prop}
theorem Inv.wish (I : Inv X pins σ H s) (E : Value -> Shared -> Prop) : Inv (X.wish E) pins σ H s := ⟨I.ok.wish E, I.os, I.bare, I.base, I.loc, I.cell, I.free, I.freeC, I.pin, I.hok, I.len⟩
theorem Inv.unwish (I : Inv (X.wish E) pins σ H s) : Inv X pins σ H s := ⟨I.ok.unwish, I.os, I.bare, I.base, I.loc, I.cell, I.free, I.freeC, I.pin, I.hok, I.len⟩
theorem SP.unwish {D : Ends} {f : Flow} {s' : Shared} (h : SP (X.wish E) pins D f s') : SP X pins D f s' := by
  cases f with
  | next => obtain ⟨σ', H', I, q⟩ := h; exact ⟨σ', H', I.unwish, q⟩
  | brk => obtain ⟨σ', H', I, q⟩ := h; exact ⟨σ', H', I.unwish, q⟩
  | cont => obtain ⟨σ', H', I, q⟩ := h; exact ⟨σ', H', I.unwish, q⟩
  | ret u => obtain ⟨v, σ', H', I, r, q⟩ := h; exact ⟨v, σ', H', I.unwish, r, q⟩
theorem PSs.nox {st : List Stmt} {t : TS} (h : PSs X.nox st t) : PSs X st t := fun pins s σ H D I hw =>
  wpAny_mono (h pins s σ H D (I.wish _) hw) (fun _ _ q => q.unwish) fun _ _ z => False.elim z
end
section
variable {X : Cx} {st : Stmt} {rest : List Stmt} {t u : TS} {e : Expr} {te : TE} {pos : Pos}
def B4y : TS := fun D σ H => D.nx σ H
def tSeq (t u : TS) : TS := fun D σ H => t { D with nx := u D } σ H
theorem A1x : PSs X [] B4y := fun _ _ σ H _ I h => wpAny_execs_nil ⟨σ, H, I, h⟩
theorem F7 (h1 : PS X st t) (h2 : PSs X rest u) : PSs X (st :: rest) (tSeq t u) := by
  intro pins s σ H D I h
  refine wpAny_execs_cons (thn (h1 pins s σ H { D with nx := u D } I h) fun f s1 q => ?_)
  cases f with
  | next =>
    obtain ⟨σ', H', I', q⟩ := q
    exact h2 pins s1 σ' H' D I' q
  | ret v => exact q
  | brk => exact q
  | cont => exact q
theorem P9 (h1 : PS X st t) : PSs X [st] t := by
  intro pins s σ H D I h
  refine wpAny_execs_cons (thn (h1 pins s σ H D I h) fun f s1 q => ?_)
  cases f with
  | next => exact wpAny_execs_nil q
  | ret v => exact q
  | brk => exact q
  | cont => exact q
theorem Inv.quiet {pins : List (Addr × Obj)} {σ : St} {H : Hp} {s : Shared} (I : Inv X pins σ H s) : interactive X.env = false := by simp [interactive, I.ok.kind]
def B0r (te : TE) : TS := fun D σ H => te σ H fun _ H1 => D.nx σ H1
theorem B5i (he : PE X e te) (hs : swapsWith e none pos.line X.env = pure false := by rfl) : PS X (.Expr e pos) (B0r te) := by
  intro pins s σ H D I h
  exact wpAny_Expr_any (thn (he pins s σ H _ I h) fun v s1 ⟨x, H1, I1, r1, q1⟩ => ⟨σ, H1, I1, q1⟩) I.quiet hs
def tRet (te : TE) : TS := fun D σ H => te σ H D.rt
theorem A2z (he : PE X e te) : PS X (.Return (some e) pos) (tRet te) := by
  intro pins s σ H D I h
  exact wpAny_Return_some (thn (he pins s σ H _ I h) fun v s1 ⟨x, H1, I1, r1, q1⟩ => ⟨x, σ, H1, I1, r1, q1⟩)
def tIfS (c : TT) (t u : TS) : TS := fun D σ H => c σ H fun b H1 => if b = true then t D σ H1 else u D σ H1
theorem B5h {c : Expr} {a b : List Stmt} {tc : TT} (hc : PT X c tc) (ha : PSs X a t) (hb : PSs X b u) : PS X (.If c a b pos) (tIfS tc t u) := by
  intro pins s σ H D I h
  refine wpAny_If (thn (hc pins s σ H _ I h) fun d s1 ⟨H1, I1, q1⟩ => ?_)
  cases d with
  | true => exact ha pins s1 σ H1 D I1 q1
  | false => exact hb pins s1 σ H1 D I1 q1
def A5q : TS := fun _ _ _ => False
theorem B0z : PS X st A5q := fun _ _ _ _ _ _ h => h.elim
end
abbrev TG := V -> St -> Hp -> (St -> Hp -> Prop) -> Prop
abbrev TGs := List V -> St -> Hp -> (St -> Hp -> Prop) -> Prop
def PG (X : Cx) (target : Expr) (t : TG) : Prop :=
  ∀ (pins : List (Addr × Obj)) (s : Shared) (σ : St) (H : Hp) (v : V) (u : Value) (Q : St -> Hp -> Prop), Inv X pins σ H s -> RelV v u -> t v σ H Q ->
    wpAny (model X.prog X.w) X.A (assign target X.env u) (fun _ s' => ∃ σ' H', Inv X pins σ' H' s' /\ Q σ' H') X.xe s
def PGs (X : Cx) (ts : List Expr) (t : TGs) : Prop :=
  ∀ (pins : List (Addr × Obj)) (s : Shared) (σ : St) (H : Hp) (vs : List V) (us : List Value) (Q : St -> Hp -> Prop), Inv X pins σ H s -> Vals vs us -> t vs σ H Q ->
    wpAny (model X.prog X.w) X.A (assignInOrder ((assignEach ts X.env).map (·.2)) us) (fun _ s' => ∃ σ' H', Inv X pins σ' H' s' /\ Q σ' H') X.xe s
abbrev TSet := V -> V -> V -> Hp -> (Hp -> Prop) -> Prop
def PSet (X : Cx) (t : TSet) : Prop :=
  ∀ (pins : List (Addr × Obj)) (s : Shared) (σ : St) (H : Hp) (o i v : V) (ov iv u : Value) (Q : Hp -> Prop), Inv X pins σ H s -> RelV o ov -> RelV i iv -> RelV v u -> t o i v H Q ->
    wpAny (model X.prog X.w) X.A (setItem ov iv u) (fun _ s' => ∃ H', Inv X pins σ H' s' /\ Q H') X.xe s
section
variable {X : Cx} {pos : Pos}
def U5 (i : Nat) : TG := fun v σ H Q => Q (σ.set i (some v)) H
theorem A6i {i : Nat} {x : Str} (hN : X.N.Nodup) (hi : X.N[i]? = some x) (hx : Loc X.env.scope x) (hf : X.fn x = true \/ X.env.scope.names.lookup x = some .local := by first | exact .inl rfl | exact .inr rfl | assumption) : PG X (.Name x pos) (U5 i) := by
  intro pins s σ H v u Q I r h
  exact wpAny_assign_Name (S4 I hN hi hx r (fun s' I' => ⟨_, H, I', h⟩) hf)
def gNil : TGs := fun vs σ H Q => vs = [] /\ Q σ H
def A19 (t : TG) (u : TGs) : TGs := fun vs σ H Q => ∃ v r, vs = v :: r /\ t v σ H fun σ' H' => u r σ' H' Q
theorem B5o : PGs X [] gNil := by
  intro pins s σ H vs us Q I r h
  obtain ⟨e, h⟩ := h
  subst e
  cases r
  exact assignInOrder_nil ⟨σ, H, I, h⟩
theorem B03 {e : Expr} {es : List Expr} {t : TG} {u : TGs} (h1 : PG X e t) (h2 : PGs X es u)
    (hs : (assignEach (e :: es) X.env).map (·.2) = assign e X.env :: (assignEach es X.env).map (·.2) := by rfl) : PGs X (e :: es) (A19 t u) := by
  intro pins s σ H vs us Q I r h
  obtain ⟨v, vr, e1, h⟩ := h
  subst e1
  cases r with
  | cons r rr =>
    rw [hs]
    refine assignInOrder_cons (thn (h1 pins s σ H _ _ _ I r h) fun _ s1 ⟨σ1, H1, I1, q1⟩ => ?_)
    exact h2 pins s1 σ1 H1 _ _ Q I1 rr q1
def gTup (K : PySem.W.Frag) (n : Nat) (t : TGs) : TG := fun v σ H Q => ∃ a xs, v = .ref a /\ SqT K H a xs /\ xs.length = n /\ t xs σ H Q
theorem B74 {es : List Expr} {k : Nat} {t : TGs} {n : Nat} (hc : X.calm = true) (h : PGs X es t)
    (hn : (assignEach es X.env).length = n := by rfl) (hst : (assignEach es X.env).findIdx? (·.1) = none := by rfl) : PG X (.Tuple es k pos) (gTup X.K n t) := by
  intro pins s σ H v u Q I r hw
  obtain ⟨a, xs, e1, hq, hl, hw⟩ := hw
  subst e1
  cases r
  obtain ⟨its, rv, ht, hz⟩ := I.tuple hq
  refine assign_Tuple_tuple (I.ok.hd hc) ht (by simp [hn, <- hl, rv.length]) hst fun h' hx => ?_
  have I1 : Inv X pins σ H { s with heap := h' } := I.kept (t' := s.toks) fun b o e => hx b o (Nat.ne_of_lt (Heap.lt_size e)) e
  exact h pins _ σ H xs _ Q I1 (by simpa using rv) hw
def gSub (to ti : TE) (t : TSet) : TG := fun v σ H Q => to σ H fun o H1 => ti σ H1 fun i H2 => t o i v H2 fun H3 => Q σ H3
theorem A6h {o i : Expr} {to ti : TE} {t : TSet} (ho : PE X o to) (hi : PE X i ti) (hs : PSet X t)
    (ha : ∀ v, assign (.Subscript o i pos) X.env v = (do
      let ov <- holding [v] (eval o X.env)
      let iv <- holding [v, ov] (eval i X.env)
      standAt pos
      holding [v, ov, iv] (setItem ov iv v)
      release [v, ov, iv] []) := by intro _; rfl) : PG X (.Subscript o i pos) (gSub to ti t) := by
  intro pins s σ H v u Q I r h
  rw [ha]
  refine wpAny_bind (wpAny_holding (thn (ho pins s σ H _ I h) fun ov s1 ⟨x, H1, I1, r1, q1⟩ => ?_))
  refine wpAny_bind (wpAny_holding (thn (hi pins s1 σ H1 _ I1 q1) fun iv s2 ⟨y, H2, I2, r2, q2⟩ => ?_))
  refine wpAny_bind (wpAny_standAt (wpAny_bind (wpAny_holding (thn (hs pins s2 σ H2 x y v ov iv u _ I2 r1 r2 r q2) fun _ s3 ⟨H3, I3, q3⟩ => ?_))))
  exact wpAny_release ⟨σ, H3, I3, q3⟩
def tAsg (te : TE) (g : TG) : TS := fun D σ H => te σ H fun x H1 => g x σ H1 D.nx
theorem A21 {tg e : Expr} {te : TE} {g : TG} (he : PE X e te) (hg : PG X tg g) (hs : swapsWithSole [tg] e pos.line X.env = pure false := by rfl) (hw : swappedStores [tg] e X.env = pure none := by rfl)
    (h1 : (assignEach [tg] X.env).map (·.2) = [assign tg X.env] := by rfl) : PS X (.Assign [tg] e pos) (tAsg te g) := by
  intro pins s σ H D I h
  refine wpAny_Assign_stores (thn (he pins s σ H _ I h) fun v s1 ⟨x, H1, I1, r1, q1⟩ => ?_) hs hw
  rw [h1]
  exact thn (hg pins s1 σ H1 x v _ I1 r1 q1) fun _ s2 q => q
theorem W1 {i : Nat} {x : Str} {e : Expr} {te : TE} {pos' : Pos} (hN : X.N.Nodup) (hi : X.N[i]? = some x) (hx : Loc X.env.scope x) (he : PE X e te) (hs : swapsWith e (some (.Name x pos')) pos.line X.env = pure false := by rfl) (hf : X.fn x = true \/ X.env.scope.names.lookup x = some .local := by first | exact .inl rfl | exact .inr rfl | assumption) :
    PS X (.Assign [.Name x pos'] e pos) (tAsg te (U5 i)) := by
  intro pins s σ H D I h
  refine wpAny_Assign_Name (thn (he pins s σ H _ I h) fun v s1 ⟨y, H1, I1, r1, q1⟩ => ?_) hs
  exact S4 I1 hN hi hx r1 (fun s2 I2 => ⟨_, H1, I2, q1⟩) hf
def tPar (i j : Nat) (ta : TA) : TS := fun D σ H => ta σ H fun vs H1 => ∃ v w, vs = [v, w] /\ D.nx ((σ.set i (some v)).set j (some w)) H1
theorem B70 {i j : Nat} {x y : Str} {a b : Expr} {ta : TA} {px py pt : Pos} {kt k2 pt2} (hc : X.calm = true) (hN : X.N.Nodup) (hi : X.N[i]? = some x) (hj : X.N[j]? = some y) (hij : i ≠ j)
    (hx : X.env.scope.names.lookup x = some .local) (hy : X.env.scope.names.lookup y = some .local) (ha : PA X [a, b] ta)
    (hw : swappedStores [.Tuple [.Name x px, .Name y py] kt pt] (.Tuple [a, b] k2 pt2) X.env = pure (some [x, y]))
    (hs : swapsWithSole [.Tuple [.Name x px, .Name y py] kt pt] (.Tuple [a, b] k2 pt2) pos.line X.env = pure false := by rfl) :
    PS X (.Assign [.Tuple [.Name x px, .Name y py] kt pt] (.Tuple [a, b] k2 pt2) pos) (tPar i j ta) := by
  intro pins s σ H D I h
  rw [exec_Assign_arm]
  refine wpAny_bind (wpAny_standAt ?_)
  rw [hs]
  refine wpAny_bind (wpAny_pure ?_)
  rw [if_neg (by decide)]
  refine wpAny_bind (Tuple_ (thn (ha _ pins s σ H _ I h) fun us s1 ⟨vs, H1, I1, r1, q1⟩ => ?_))
  obtain ⟨v, w, e1, q1⟩ := q1
  subst e1
  obtain ⟨u1, u2, rfl, rv, rw'⟩ : ∃ u1 u2, us = [u1, u2] /\ RelV v u1 /\ RelV w u2 := by
    cases r1 with
    | cons p q =>
      cases q with
      | cons p' q' =>
        cases q'
        exact ⟨_, _, rfl, p, p'⟩
  refine wpAny_newObj_type ?_ (by show 2 <= sizeLine; decide)
  have I2 : Inv X pins σ H1 { s1 with heap := s1.heap.push { cls := .type "tuple", data := .seq [u1, u2].toArray } } := I1.kept (t' := s1.toks) fun b o e => Heap.get?_push_of_some _ e
  rw [hw]
  refine wpAny_bind (wpAny_pure ?_)
  show wpAny (model X.prog X.w) X.A (do rule "assign.swapped-stores"; let items <- unpackItems (.ref s1.heap.objs.size) 2 none; assignInOrder [fun v => bindName X.env y v, fun v => bindName X.env x v] items.reverse; pure Flow.next) _ _ _
  refine wpAny_bind (wpAny_rule (wpAny_bind (unpackItems_tuple (items := #[u1, u2]) (I.ok.hd hc) (IsTup.new s1.heap _) fun h' hx' => ?_)))
  have I3 := I2.kept (h' := h') (t' := s1.toks) fun b o e => hx' b o (Nat.ne_of_lt (Heap.lt_size e)) e
  show wpAny _ _ (assignInOrder [fun v => bindName X.env y v, fun v => bindName X.env x v] [u2, u1] >>= fun _ => pure Flow.next) _ _ _
  refine wpAny_bind (assignInOrder_cons (wpAny_bindName (S4 I3 hN hj (.inl hy) rw' (fun s2 I4 => ?_) (.inr hy))))
  refine assignInOrder_cons (wpAny_bindName (S4 I4 hN hi (.inl hx) rv (fun s3 I5 => assignInOrder_nil (wpAny_pure ?_)) (.inr hx)))
  rw [List.set_comm _ _ (Ne.symm hij)] at I5
  exact ⟨_, H1, I5, q1⟩
end
section
variable {X : Cx} {pos : Pos}
def A5p (c : TT) (tb : TS) : TS := fun D σ H => ∃ W : Nat -> St -> Hp -> Prop, (∃ m, W m σ H) /\ ∀ m σ H, W m σ H ->
  c σ H fun b H1 => if b = true then ∃ N : St -> Hp -> Prop, (∀ σ' H', N σ' H' -> ∃ m', m' < m /\ W m' σ' H') /\ tb { D with nx := N, ct := N, bk := D.nx } σ H1 else D.nx σ H1
theorem B0y {c : Expr} {body : List Stmt} {tc : TT} {tb : TS} (hp : PassesOwn (model X.prog X.w) X.A X.env X.xe) (hc : PT X c tc) (hb : PSs X body tb) : PS X (.While c body [] pos) (A5p tc tb) := by
  intro pins s σ H D I h
  obtain ⟨W, ⟨m0, w0⟩, turn⟩ := h
  refine wpAny_While (codeAny_whileLoop (fun n s' => ∃ σ' H', Inv X pins σ' H' s' /\ W n σ' H') ?_ m0 ⟨σ, H, I, w0⟩)
  rintro n s1 ⟨σ1, H1, I1, w1⟩
  refine wpAny_passesOwn hp (thn (hc pins s1 σ1 H1 _ I1 (turn n σ1 H1 w1)) fun b s2 ⟨H2, I2, q2⟩ => ?_)
  cases b with
  | true =>
    obtain ⟨N, hN, q2⟩ := q2
    rw [if_pos rfl]
    refine wpAny_passesOwn hp (thn (hb pins s2 σ1 H2 _ I2 q2) fun f s3 q3 => ?_)
    cases f with
    | next =>
      obtain ⟨σ3, H3, I3, n3⟩ := q3
      obtain ⟨m', hm, w3⟩ := hN σ3 H3 n3
      exact ⟨m', hm, σ3, H3, I3, w3⟩
    | cont =>
      obtain ⟨σ3, H3, I3, n3⟩ := q3
      obtain ⟨m', hm, w3⟩ := hN σ3 H3 n3
      exact ⟨m', hm, σ3, H3, I3, w3⟩
    | brk => exact q3
    | ret v => exact q3
  | false =>
    rw [if_neg Bool.false_ne_true]
    exact wpAny_execs_nil ⟨σ1, H2, I2, q2⟩
end
structure It where
  go : Nat -> Hp -> Prop
  yld : Nat -> Hp -> V -> Hp -> Prop
  stop : Nat -> Hp -> Prop
def FpOk (X : Cx) (pins : List (Addr × Obj)) (H : Hp) (b : Addr) : Prop :=
  H b = none /\ b ≠ X.env.locals /\ b ∉ X.fs /\ (b ∈ X.ex \/ X.s₀.heap.objs.size <= b) /\ (∀ x c, X.env.cells.lookup x = some c -> c ≠ b) /\ ∀ p ∈ X.pn ++ pins, p.1 ≠ b
theorem Inv.fpOk {X : Cx} {pins : List (Addr × Obj)} {σ : St} {H H' : Hp} {s : Shared} {b : Addr} (I : Inv X pins σ H s) (hb : s.heap.objs.size <= b) (hn : H' b = none) : FpOk X pins H' b := by
  refine ⟨hn, Nat.ne_of_gt (Nat.lt_of_lt_of_le I.lt hb), I.nofs hb, .inr (Nat.le_trans I.sz hb), fun x c e z => ?_, fun p hp z => ?_⟩
  · obtain ⟨v, q⟩ := I.cell x c e
    exact absurd (Nat.lt_of_lt_of_le q.lt (by rw [z]; exact hb)) (Nat.lt_irrefl _)
  · exact absurd (Nat.lt_of_lt_of_le (Heap.lt_size (I.pin p hp).1) (by rw [z]; exact hb)) (Nat.lt_irrefl _)
structure Turn (P : Program) (w : World) (K : PySem.W.Frag) (tg : Expr) (J : It) (fp : List Addr) (it : Addr) (tn : Nat -> Heap -> Prop) : Prop where
  mem : it ∈ fp
  obj : ∀ i h, tn i h -> ∀ b ∈ fp, ∃ o, h.get? b = some o /\ ∀ v, o.data ≠ .cell v
  keep : ∀ i h h', tn i h -> (∀ b ∈ fp, ∀ o, h.get? b = some o -> h'.get? b = some o) -> tn i h'
  item : ∀ (X : Cx), X.prog = P -> X.w = w -> X.K = K -> X.calm = true -> ∀ (i : Nat) (pins : List (Addr × Obj)) (s : Shared) (σ : St) (H : Hp) (E : Value -> Shared -> Prop), Inv X pins σ H s -> (∀ b ∈ fp, FpOk X pins H b) -> tn i s.heap -> J.go i H ->
    wpAny (model P w) X.A (pyNext (.ref it)) (fun r s1 => ∃ u, r = some u /\
      wpAny (model P w) X.A (letOwnedTupleGo tg (.ref it) u) (fun _ s2 => ∃ x H', Inv X pins σ H' s2 /\ RelV x u /\ J.yld i H x H' /\ tn (i + 1) s2.heap /\ ∀ b ∈ fp, H' b = none) E s1) E s
  done : ∀ (X : Cx), X.prog = P -> X.w = w -> X.K = K -> X.calm = true -> ∀ (i : Nat) (pins : List (Addr × Obj)) (s : Shared) (σ : St) (H : Hp) (E : Value -> Shared -> Prop), Inv X pins σ H s -> (∀ b ∈ fp, FpOk X pins H b) -> tn i s.heap -> J.stop i H ->
    wpAny (model P w) X.A (pyNext (.ref it)) (fun r s1 => r = none /\ Inv X pins σ H s1) E s
  self : ∀ (A : Around) (i : Nat) (s : Shared) (Q : Value -> Shared -> Prop) (E : Value -> Shared -> Prop), tn i s.heap -> Q (.ref it) s -> wpAny (model P w) A (pyIter (.ref it)) Q E s
abbrev TI := St -> Hp -> (It -> Hp -> Prop) -> Prop
def PIE (X : Cx) (pins : List (Addr × Obj)) (σ : St) (tg : Expr) (R : It -> Hp -> Prop) (itv : Value) (s2 : Shared) : Prop :=
  ∃ (it : Addr) (fp : List Addr) (tn : Nat -> Heap -> Prop) (J : It) (H' : Hp), itv = .ref it /\ Inv X pins σ H' s2 /\ Turn X.prog X.w X.K tg J fp it tn /\ tn 0 s2.heap /\ (∀ b ∈ fp, FpOk X pins H' b) /\ R J H'
def PI (X : Cx) (tg iter : Expr) (wi : TI) : Prop :=
  ∀ (pins : List (Addr × Obj)) (s : Shared) (σ : St) (H : Hp) (R : It -> Hp -> Prop), Inv X pins σ H s -> wi σ H R ->
    wpAny (model X.prog X.w) X.A (eval iter X.env) (fun v s1 => wpAny (model X.prog X.w) X.A (pyIter v) (PIE X pins σ tg R) X.xe s1) X.xe s
theorem A9o {M : Model} {A : Around} {E : Value -> Shared -> Prop} {s : Shared} {tg : Expr} {it : Addr} {u : Value} {o : Obj} {n : String} {vs : Array Value} {Q : Unit -> Shared -> Prop} (ho : s.heap.get? it = some o) (hc : o.cls = .type n) (hd : o.data = .fields vs)
    (hn : ["enumerate", "zip", "dict_itemiterator", "dict_reverseitemiterator", "odict_iterator", "itertools.zip_longest", "itertools.pairwise"].contains n = false) (hQ : Q () s) : wpAny M A (letOwnedTupleGo tg (.ref it) u) Q E s := by
  unfold letOwnedTupleGo
  cases tg <;> first
    | exact wpAny_pure hQ
    | (cases u <;> first
        | exact wpAny_pure hQ
        | (refine wpAny_bind (wpAny_load ho ?_)
           rw [hc, hd]
           show wpAny M A (if (["enumerate", "zip", "dict_itemiterator", "dict_reverseitemiterator", "odict_iterator", "itertools.zip_longest", "itertools.pairwise"].contains n && vs[0]? == some (rawInt _)) = true then _ else _) Q E s
           rw [if_neg (by intro h; rw [hn, Bool.false_and] at h; cases h)]
           exact wpAny_pure hQ))
def Itl (K : PySem.W.Frag) (a : Addr) : It :=
  ⟨fun i H => ∃ xs x, SqL K H a xs /\ xs[i]? = some x, fun i H x H' => H' = H /\ ∀ xs, SqL K H a xs -> xs[i]? = some x, fun i H => ∃ xs, SqL K H a xs /\ xs.length <= i⟩
def Itt (K : PySem.W.Frag) (a : Addr) : It :=
  ⟨fun i H => ∃ xs x, SqT K H a xs /\ xs[i]? = some x, fun i H x H' => H' = H /\ ∀ xs, SqT K H a xs -> xs[i]? = some x, fun i H => ∃ xs, SqT K H a xs /\ xs.length <= i⟩
def Itr (lo : Int) (n : Nat) : It := ⟨fun i _ => i < n, fun i H x H' => H' = H /\ x = .int (lo + i), fun i _ => n <= i⟩
theorem A5l {P : Program} {w : World} {K : PySem.W.Frag} {tg : Expr} (a it : Addr) : Turn P w K tg (Itl K a) [it] it (fun i h => h.IsListIter it a i) where
  mem := by simp
  obj := fun i h st b hb => by
    have e : b = it := by simpa using hb
    subst e
    obtain ⟨o, e, c, d⟩ := st
    exact ⟨o, e, fun v z => by rw [d] at z; cases z⟩
  keep := fun i h h' st k => st.at fun o e => k it (by simp) o e
  item := by
    intro X hP hw hK hc i pins s σ H E I hf st hg
    subst hP hw hK
    obtain ⟨xs, x, hq, hx⟩ := hg
    obtain ⟨its, rv, p, hz⟩ := I.list hq
    obtain ⟨u, hu, ru⟩ := rv.get hx
    obtain ⟨f0, f1, f2, f3, f4, f5⟩ := hf it (by simp)
    refine wpAny_pyNext_list_item st p.isList (x := u) (by simpa using hu) fun h' st' sb => ?_
    have I1 : Inv X pins σ H { s with heap := h' } := I.turned (t' := s.toks) (fun b o hb e => (sb.2 b hb).trans e) f0 f1 f3 f4 f5
    obtain ⟨o, e, c, d⟩ := id st'
    exact ⟨u, rfl, A9o (s := { s with heap := h' }) e c d (by decide) ⟨x, H, I1, ru, ⟨rfl, fun ys hy => by rw [I.list_inj hy hq]; exact hx⟩, st', fun b hb => (hf b hb).1⟩⟩
  done := by
    intro X hP hw hK hc i pins s σ H E I hf st hg
    subst hP hw hK
    obtain ⟨xs, hq, hx⟩ := hg
    obtain ⟨its, rv, p, hz⟩ := I.list hq
    obtain ⟨f0, f1, f2, f3, f4, f5⟩ := hf it (by simp)
    have hl := rv.length
    exact wpAny_pyNext_list_end (I.ok.hd hc) st p.isList (by simp; omega) fun h' eb => ⟨rfl, I.turned (t' := s.toks) (fun b o hb e => eb b o hb e) f0 f1 f3 f4 f5⟩
  self := fun _ _ _ _ _ st h => wpAny_pyIter_listiter st h
theorem A4t {P : Program} {w : World} {K : PySem.W.Frag} {tg : Expr} (a it : Addr) : Turn P w K tg (Itt K a) [it] it (fun i h => h.IsTupleIter it a i) where
  mem := by simp
  obj := fun i h st b hb => by
    have e : b = it := by simpa using hb
    subst e
    obtain ⟨o, e, c, d⟩ := st
    exact ⟨o, e, fun v z => by rw [d] at z; cases z⟩
  keep := fun i h h' st k => st.at fun o e => k it (by simp) o e
  item := by
    intro X hP hw hK hc i pins s σ H E I hf st hg
    subst hP hw hK
    obtain ⟨xs, x, hq, hx⟩ := hg
    obtain ⟨its, rv, p, hz⟩ := I.tuple hq
    obtain ⟨u, hu, ru⟩ := rv.get hx
    obtain ⟨f0, f1, f2, f3, f4, f5⟩ := hf it (by simp)
    refine wpAny_pyNext_tuple_item st (show s.heap.IsTuple a its.toArray from p) (x := u) (by simpa using hu) fun h' st' sb => ?_
    have I1 : Inv X pins σ H { s with heap := h' } := I.turned (t' := s.toks) (fun b o hb e => (sb.2 b hb).trans e) f0 f1 f3 f4 f5
    obtain ⟨o, e, c, d⟩ := id st'
    exact ⟨u, rfl, A9o (s := { s with heap := h' }) e c d (by decide) ⟨x, H, I1, ru, ⟨rfl, fun ys hy => by rw [I.tuple_inj hy hq]; exact hx⟩, st', fun b hb => (hf b hb).1⟩⟩
  done := by
    intro X hP hw hK hc i pins s σ H E I hf st hg
    subst hP hw hK
    obtain ⟨xs, hq, hx⟩ := hg
    obtain ⟨its, rv, p, hz⟩ := I.tuple hq
    obtain ⟨f0, f1, f2, f3, f4, f5⟩ := hf it (by simp)
    have hl := rv.length
    exact wpAny_pyNext_tuple_end (I.ok.hd hc) st (show s.heap.IsTuple a its.toArray from p) (by simp; omega) fun h' eb => ⟨rfl, I.turned (t' := s.toks) (fun b o hb e => eb b o hb e) f0 f1 f3 f4 f5⟩
  self := fun _ _ _ _ _ st h => wpAny_pyIter_tupleiter st h
theorem A4u {P : Program} {w : World} {K : PySem.W.Frag} {tg : Expr} (it : Addr) (lo : Int) (n : Nat) : Turn P w K tg (Itr lo n) [it] it (fun i h => IsRangeIter h it (lo + (i : Nat) * 1) ((n : Int) - (i : Nat)) 1) where
  mem := by simp
  obj := fun i h st b hb => by
    have e : b = it := by simpa using hb
    subst e
    exact ⟨_, st, fun v z => by
      have z' : Data.fields _ = Data.cell v := z
      cases z'⟩
  keep := fun i h h' st k => k it (by simp) _ st
  item := by
    intro X hP hw hK hc i pins s σ H E I hf st hg
    subst hP hw hK
    obtain ⟨f0, f1, f2, f3, f4, f5⟩ := hf it (by simp)
    have W := Walks.range (prog := X.prog) (w := X.w) (I.ok.hd hc) it lo 1 n
    refine W.item i s _ _ hg st fun v h' tk hv st' kk => ?_
    obtain ⟨t, rfl⟩ := hv
    have I1 : Inv X pins σ H { s with heap := h', toks := tk } := I.turned (fun b o hb e => kk b o (by simpa using hb) e) f0 f1 f3 f4 f5
    refine ⟨_, rfl, A9o (s := { s with heap := h', toks := tk }) (n := "range_iterator") st' rfl rfl (by decide) ⟨.int (lo + i), H, I1, ⟨t, ?_⟩, ⟨rfl, rfl⟩, st', fun b hb => (hf b hb).1⟩⟩
    rw [Int.mul_one]
  done := by
    intro X hP hw hK hc i pins s σ H E I hf st hg
    subst hP hw hK
    obtain ⟨f0, f1, f2, f3, f4, f5⟩ := hf it (by simp)
    exact wpAny_pyNext_range_end (I.ok.hd hc) st (by have : n <= i := hg; omega) fun h' eb => ⟨rfl, I.turned (t' := s.toks) (fun b o hb e => eb b o hb e) f0 f1 f3 f4 f5⟩
  self := fun _ _ _ _ _ st h => wpAny_pyIter_rangeiter st h
end L2
namespace L2
open PySem PySem.Spec PyProof.Rows
section
variable {X : Cx} {tg : Expr}
theorem B0v {pins : List (Addr × Obj)} {σ : St} {H : Hp} {s : Shared} {R : It -> Hp -> Prop} {E : Value -> Shared -> Prop} {lo hi : Int} {t u v : Tok} {tk : Nat} (I : Inv X pins σ H s) (h1 : -(2 ^ 62) <= lo) (h2 : lo < 2 ^ 62) (h3 : -(2 ^ 62) <= hi) (h4 : hi < 2 ^ 62)
    (q : R (Itr lo (hi - lo).toNat) H) : wpAny (model X.prog X.w) X.A (pyIter (.ref s.heap.objs.size)) (PIE X pins σ tg R) E { s with heap := s.heap.push { cls := .type "range", data := .fields #[.int lo t, .int hi u, .int 1 v] }, toks := tk } := by
  refine wpAny_pyIter_range (IsRange.new ..) (small_one h1 h2 h3 h4) ?_
  have I1 : Inv X pins σ H { s with heap := s.heap.push { cls := .type "range", data := .fields #[.int lo t, .int hi u, .int 1 v] }, toks := tk } := I.kept fun b o e => Heap.get?_push_of_some _ e
  refine ⟨(s.heap.push { cls := .type "range", data := .fields #[.int lo t, .int hi u, .int 1 v] }).objs.size, [(s.heap.push { cls := .type "range", data := .fields #[.int lo t, .int hi u, .int 1 v] }).objs.size], _, _, H, rfl,
    I1.kept (t' := tk) fun b o e => Heap.get?_push_of_some _ e, A4u _ lo (hi - lo).toNat, ?_, fun b hb => ?_, q⟩
  · have e1 : lo + ((0 : Nat) : Int) * 1 = lo := by simp
    have e2 : (((hi - lo).toNat : Nat) : Int) - ((0 : Nat) : Int) = Builtin.Range.rangeSize lo hi 1 := by rw [rangeSize_one]; split <;> omega
    show IsRangeIter _ _ (lo + ((0 : Nat) : Int) * 1) ((((hi - lo).toNat : Nat) : Int) - ((0 : Nat) : Int)) 1
    rw [e1, e2]
    exact Heap.get?_push_size _ rfl
  · have e : b = (s.heap.push { cls := .type "range", data := .fields #[.int lo t, .int hi u, .int 1 v] }).objs.size := by simpa using hb
    subst e
    exact I1.fpOk (Nat.le_refl _) (I1.hok.fresh (Nat.le_refl _))
def B6m (ta : TA) : TI := fun σ H R => ta σ H fun vs H1 => ∃ j : Int, vs = [.int j] /\ -(2 ^ 62) <= j /\ j < 2 ^ 62 /\ R (Itr 0 j.toNat) H1
theorem A0p {a : Expr} {ta : TA} {p pos : Pos} (hg : Gl X "range") (hm : X.mg "range" = none) (ha : PA X [a] ta) (hs : starEach [a] X.env = [(false, eval a X.env)] := by rfl) : PI X tg (.Call (.Name "range" p) [a] [] pos) (B6m ta) := by
  intro pins s σ H R I h
  refine Call_ (U1 I hg hm boot_range (PyProof.Rows.callWith_type1 (thn (ha pos pins s σ H _ I h) fun us s1 ⟨vs, H1, I1, r1, q1⟩ => ?_) hs rfl))
  obtain ⟨j, e, q1, q2, q⟩ := q1
  subst e
  cases r1 with
  | cons r rr =>
    cases rr
    obtain ⟨t, rfl⟩ := r
    exact call_range_1 (B0v I1 (by omega) (by omega) q1 q2 (by simpa using q))
def tFor (wi : TI) (g : TG) (tb : TS) : TS := fun D σ H => wi σ H fun J H1 => ∃ W : Nat -> Nat -> St -> Hp -> Prop, (∃ m, W 0 m σ H1) /\ ∀ i m σ H, W i m σ H ->
  (J.stop i H /\ D.nx σ H) \/ (J.go i H /\ ∃ N : St -> Hp -> Prop, (∀ σ' H', N σ' H' -> ∃ m', m' < m /\ W (i + 1) m' σ' H') /\ ∀ x H', J.yld i H x H' -> g x σ H' fun σ2 H2 => tb { D with nx := N, ct := N, bk := D.nx } σ2 H2)
def A0o (fp : List Addr) (h : Heap) : List (Addr × Obj) := fp.filterMap fun b => (h.get? b).map fun o => (b, o)
theorem N3 {fp : List Addr} {h : Heap} {b : Addr} {o : Obj} (hb : b ∈ fp) (e : h.get? b = some o) : (b, o) ∈ A0o fp h := List.mem_filterMap.mpr ⟨b, hb, by rw [e]; rfl⟩
theorem A7m {fp : List Addr} {h : Heap} {p : Addr × Obj} (hp : p ∈ A0o fp h) : p.1 ∈ fp /\ h.get? p.1 = some p.2 := by
  obtain ⟨b, hb, e⟩ := List.mem_filterMap.mp hp
  cases q : h.get? b with
  | none => rw [q] at e; cases e
  | some o =>
    rw [q] at e
    have e' : (b, o) = p := Option.some.inj e
    subst e'
    exact ⟨hb, q⟩
theorem Inv.pinned {pins : List (Addr × Obj)} {σ : St} {H : Hp} {s : Shared} {fp : List Addr} (I : Inv X pins σ H s) (hf : ∀ b ∈ fp, FpOk X pins H b) (ho : ∀ b ∈ fp, ∃ o, s.heap.get? b = some o /\ ∀ v, o.data ≠ .cell v) : Inv X (pins ++ A0o fp s.heap) σ H s :=
  I.pins_of fun p hp => (List.mem_append.mp hp).elim (fun z => I.pin p (List.mem_append_right _ z)) fun z => by
    obtain ⟨hb, e⟩ := A7m z
    obtain ⟨f0, f1, f2, _⟩ := hf p.1 hb
    obtain ⟨o, e', d⟩ := ho p.1 hb
    rw [e] at e'; cases e'
    exact ⟨e, f0, f1, f2, d⟩
theorem Inv.unpinned {pins pl : List (Addr × Obj)} {σ : St} {H : Hp} {s : Shared} (I : Inv X (pins ++ pl) σ H s) : Inv X pins σ H s := I.pins_of fun p hp => I.pin p (List.mem_append_right _ (List.mem_append_left _ hp))
theorem B2c {iter : Expr} {body : List Stmt} {wi : TI} {g : TG} {tb : TS} {pos : Pos} (hp : PassesOwn (model X.prog X.w) X.A X.env X.xe) (hc : X.calm = true) (hi : PI X tg iter wi) (hg : PG X tg g) (hb : PSs X body tb)
    (hs : ∀ x, foldedSetIterable iter X.env x = pure x := by intro _; rfl) : PS X (.For tg iter body [] pos) (tFor wi g tb) := by
  intro pins s σ H D I h
  refine wpAny_For (thn (hi pins s σ H _ I h) fun v s1 h1 => thn h1 fun itv s2 h2 => ?_) hs
  obtain ⟨it, fp, tn, J, H2, e, I2, T, st2, f2, W, ⟨m0, w0⟩, turn⟩ := h2
  subst e
  have stat : ∀ {H' : Hp}, (∀ b ∈ fp, H' b = none) -> ∀ b ∈ fp, FpOk X pins H' b := fun hn b hb => ⟨hn b hb, (f2 b hb).2⟩
  refine codeAny_forLoop_any (fun n s' => ∃ i σ' H', Inv X pins σ' H' s' /\ tn i s'.heap /\ (∀ b ∈ fp, H' b = none) /\ W i n σ' H') ?_ m0 ⟨0, σ, H2, I2, st2, fun b hb => (f2 b hb).1, w0⟩
  rintro n s3 ⟨i, σ3, H3, I3, st3, fr3, w3⟩
  rcases turn i n σ3 H3 w3 with ⟨stop, qn⟩ | ⟨go, N, hN, step⟩
  · refine wpAny_passesOwn hp (thn (T.done X rfl rfl rfl hc i pins s3 σ3 H3 X.xe I3 (stat fr3) st3 stop) fun r s4 ⟨hr, I4⟩ => ?_)
    subst hr
    exact wpAny_execs_nil ⟨σ3, H3, I4, qn⟩
  · refine wpAny_passesOwn hp (thn (T.item X rfl rfl rfl hc i pins s3 σ3 H3 X.xe I3 (stat fr3) st3 go) fun r s4 ⟨u, hr, h4⟩ => ?_)
    subst hr
    refine wpAny_passesOwn hp (thn h4 fun _ s5 ⟨x, H5, I5, r5, y5, st5, fr5⟩ => ?_)
    have I5' := I5.pinned (stat fr5) (T.obj _ _ st5)
    refine wpAny_passesOwn hp (thn (hg _ s5 σ3 H5 x u _ I5' r5 (step x H5 y5)) fun _ s6 ⟨σ6, H6, I6, q6⟩ => ?_)
    refine wpAny_passesOwn hp (thn (hb _ s6 σ6 H6 _ I6 q6) fun f s7 q7 => ?_)
    have again : ∀ {σ7 : St} {H7 : Hp}, Inv X (pins ++ A0o fp s5.heap) σ7 H7 s7 -> N σ7 H7 -> ∃ m, m < n /\ ∃ i σ' H', Inv X pins σ' H' s7 /\ tn i s7.heap /\ (∀ b ∈ fp, H' b = none) /\ W i m σ' H' := fun {σ7 H7} I7 n7 => by
      obtain ⟨m', hm, w7⟩ := hN σ7 H7 n7
      refine ⟨m', hm, i + 1, σ7, H7, I7.unpinned, T.keep _ _ _ st5 fun b hb o e => (I7.pin (b, o) (List.mem_append_right _ (List.mem_append_right _ (N3 hb e)))).1, fun b hb => ?_, w7⟩
      obtain ⟨o, e, d⟩ := T.obj _ _ st5 b hb
      exact (I7.pin (b, o) (List.mem_append_right _ (List.mem_append_right _ (N3 hb e)))).2.1
    cases f with
    | next => obtain ⟨σ7, H7, I7, n7⟩ := q7; exact again I7 n7
    | cont => obtain ⟨σ7, H7, I7, n7⟩ := q7; exact again I7 n7
    | brk => obtain ⟨σ7, H7, I7, q7⟩ := q7; exact ⟨σ7, H7, I7.unpinned, q7⟩
    | ret v => obtain ⟨x7, σ7, H7, I7, r7, q7⟩ := q7; exact ⟨x7, σ7, H7, I7.unpinned, r7, q7⟩
end
theorem A9r {lo : Int} {n : Nat} {g : TG} {tb : TS} {D : Ends} {σ : St} {H : Hp} (Pv : Nat -> St -> Hp -> Prop) (h0 : Pv 0 σ H)
    (hs : ∀ i σ H, i < n -> Pv i σ H -> g (.int (lo + i)) σ H fun σ2 H2 => tb { D with nx := Pv (i + 1), ct := Pv (i + 1), bk := D.nx } σ2 H2) (hd : ∀ σ H, Pv n σ H -> D.nx σ H) :
    ∃ W : Nat -> Nat -> St -> Hp -> Prop, (∃ m, W 0 m σ H) /\ ∀ i m σ H, W i m σ H ->
      ((Itr lo n).stop i H /\ D.nx σ H) \/ ((Itr lo n).go i H /\ ∃ N : St -> Hp -> Prop, (∀ σ' H', N σ' H' -> ∃ m', m' < m /\ W (i + 1) m' σ' H') /\ ∀ x H', (Itr lo n).yld i H x H' -> g x σ H' fun σ2 H2 => tb { D with nx := N, ct := N, bk := D.nx } σ2 H2) := by
  refine ⟨fun i m σ H => m = n - i /\ i <= n /\ Pv i σ H, ⟨n, by simp, Nat.zero_le _, h0⟩, ?_⟩
  rintro i m σ H ⟨rfl, hi, p⟩
  by_cases hlt : i < n
  · refine .inr ⟨hlt, Pv (i + 1), fun σ' H' p' => ⟨n - (i + 1), by omega, rfl, hlt, p'⟩, fun x H' y => ?_⟩
    obtain ⟨e, y⟩ := y
    subst e y
    exact hs i σ _ hlt p
  · have e : i = n := by omega
    subst e
    exact .inl ⟨Nat.le_refl _, hd σ H p⟩
end L2
namespace L2
open PySem PySem.Spec PyProof.Rows
abbrev R2 := V -> V -> Hp -> VK -> Prop
def OpR (X : Cx) (f : Value -> Value -> Sem Value) (r : R2) : Prop :=
  ∀ (pins : List (Addr × Obj)) (s : Shared) (σ : St) (H : Hp) (x y : V) (v u : Value) (Q : VK), Inv X pins σ H s -> RelV x v -> RelV y u -> r x y H Q ->
    wpAny (model X.prog X.w) X.A (f v u) (EP X pins σ Q) X.xe s
def UnR (X : Cx) (f : Value -> Sem Value) (r : V -> Hp -> VK -> Prop) : Prop :=
  ∀ (pins : List (Addr × Obj)) (s : Shared) (σ : St) (H : Hp) (x : V) (v : Value) (Q : VK), Inv X pins σ H s -> RelV x v -> r x H Q ->
    wpAny (model X.prog X.w) X.A (f v) (EP X pins σ Q) X.xe s
def CallR (X : Cx) (f : Value) (r : List V -> Hp -> VK -> Prop) : Prop :=
  ∀ (pins : List (Addr × Obj)) (s : Shared) (σ : St) (H : Hp) (xs : List V) (us : List Value) (Q : VK), Inv X pins σ H s -> Vals xs us -> r xs H Q ->
    wpAny (model X.prog X.w) X.A (call f us) (EP X pins σ Q) X.xe s
def tOp (r : R2) (ta tb : TE) : TE := fun σ H Q => ta σ H fun x H1 => tb σ H1 fun y H2 => r x y H2 Q
def tUn (r : V -> Hp -> VK -> Prop) (ta : TE) : TE := fun σ H Q => ta σ H fun x H1 => r x H1 Q
def rI (C : Int -> Int -> Prop) (g : Int -> Int -> V) : R2 := fun x y H Q => ∃ i j, x = .int i /\ y = .int j /\ C i j /\ Q (g i j) H
def rI0 (g : Int -> Int -> V) : R2 := fun x y H Q => ∃ i j, x = .int i /\ y = .int j /\ Q (g i j) H
def rU (g : Int -> V) : V -> Hp -> VK -> Prop := fun x H Q => ∃ i, x = .int i /\ Q (g i) H
section
variable {X : Cx} {a b c : Expr} {ta tb tc : TE} {pos : Pos}
theorem binT (ha : PE X a ta) (hb : PE X b tb) {pins : List (Addr × Obj)} {s : Shared} {σ : St} {H : Hp} {R : V -> V -> Hp -> Prop} (I : Inv X pins σ H s)
    (h : ta σ H fun x H1 => tb σ H1 fun y H2 => R x y H2) {Q : Value -> Shared -> Prop} {f : Value -> Value -> Sem Value}
    (hf : ∀ v u s2 x y H2, Inv X pins σ H2 s2 -> RelV x v -> RelV y u -> R x y H2 -> wpAny (model X.prog X.w) X.A (f v u) Q X.xe s2) :
    wpAny (model X.prog X.w) X.A (eval a X.env) (fun v s₁ => wpAny (model X.prog X.w) X.A (eval b X.env) (fun u s₂ => wpAny (model X.prog X.w) X.A (f v u) Q X.xe s₂) X.xe s₁) X.xe s := by
  refine thn (ha pins s σ H _ I h) fun v s1 ⟨x, H1, I1, r1, q1⟩ => ?_
  refine thn (hb pins s1 σ H1 _ I1 q1) fun u s2 ⟨y, H2, I2, r2, q2⟩ => ?_
  exact hf v u s2 x y H2 I2 r1 r2 q2
theorem I0 {op : Operator} {r : R2} (ho : OpR X (binaryOp op) r) (ha : PE X a ta) (hb : PE X b tb) : PE X (.BinOp a op b pos) (tOp r ta tb) := by
  intro pins s σ H Q I h
  exact wpAny_BinOp (binT ha hb I h fun v u s2 x y H2 I2 rx ry q => ho pins s2 σ H2 x y v u Q I2 rx ry q)
theorem C0z {op : UnaryOp} {r : V -> Hp -> VK -> Prop} (ho : UnR X (unaryOp op) r) (ha : PE X a ta) : PE X (.UnaryOp op a pos) (tUn r ta) := by
  intro pins s σ H Q I h
  exact UnaryOp_ (thn (ha pins s σ H _ I h) fun v s1 ⟨x, H1, I1, r1, q1⟩ => ho pins s1 σ H1 x v Q I1 r1 q1)
theorem opI {f : Value -> Value -> Sem Value} {C : Int -> Int -> Prop} {g : Int -> Int -> Int}
    (rule : ∀ (i j : Int) (t u : Tok) (s : Shared) (Q : Value -> Shared -> Prop) (E : Value -> Shared -> Prop), C i j -> Q (.int (g i j) s.toks) { s with toks := s.toks + 1 } -> wpAny (model X.prog X.w) X.A (f (.int i t) (.int j u)) Q E s) :
    OpR X f (rI C fun i j => .int (g i j)) := by
  intro pins s σ H x y v u Q I rx ry h
  obtain ⟨i, j, rfl, rfl, hc, q⟩ := h
  obtain ⟨t, rfl⟩ := rx
  obtain ⟨t', rfl⟩ := ry
  exact rule i j t t' s _ _ hc ⟨.int (g i j), H, I.tok _, ⟨_, rfl⟩, q⟩
theorem opI0 {f : Value -> Value -> Sem Value} {g : Int -> Int -> Int}
    (rule : ∀ (i j : Int) (t u : Tok) (s : Shared) (Q : Value -> Shared -> Prop) (E : Value -> Shared -> Prop), Q (.int (g i j) s.toks) { s with toks := s.toks + 1 } -> wpAny (model X.prog X.w) X.A (f (.int i t) (.int j u)) Q E s) :
    OpR X f (rI0 fun i j => .int (g i j)) := by
  intro pins s σ H x y v u Q I rx ry h
  obtain ⟨i, j, rfl, rfl, q⟩ := h
  obtain ⟨t, rfl⟩ := rx
  obtain ⟨t', rfl⟩ := ry
  exact rule i j t t' s _ _ ⟨.int (g i j), H, I.tok _, ⟨_, rfl⟩, q⟩
theorem opB0 {f : Value -> Value -> Sem Value} {g : Int -> Int -> Bool}
    (rule : ∀ (i j : Int) (t u : Tok) (s : Shared) (Q : Value -> Shared -> Prop) (E : Value -> Shared -> Prop), Q (.bool (g i j)) s -> wpAny (model X.prog X.w) X.A (f (.int i t) (.int j u)) Q E s) :
    OpR X f (rI0 fun i j => .bl (g i j)) := by
  intro pins s σ H x y v u Q I rx ry h
  obtain ⟨i, j, rfl, rfl, q⟩ := h
  obtain ⟨t, rfl⟩ := rx
  obtain ⟨t', rfl⟩ := ry
  exact rule i j t t' s _ _ ⟨.bl (g i j), H, I, rfl, q⟩
def CPow (i j : Int) : Prop := 0 <= j /\ j <= 1000000 /\ i.natAbs < 2 ^ 64
theorem E9 : OpR X (binaryOp .Add) (rI0 fun i j => .int (i + j)) := opI0 fun _ _ _ _ _ _ _ q => add_int q
theorem R5 : OpR X (binaryOp .Sub) (rI0 fun i j => .int (i - j)) := opI0 fun _ _ _ _ _ _ _ q => sub_int q
theorem R6 : OpR X (binaryOp .Mod) (rI (fun _ j => 0 < j) fun i j => .int (i % j)) := opI fun i j _ _ _ _ _ hc q => by
  have h1 : (0 : Int) < j := hc
  exact mod_int' (by omega) (by rw [Int.fmod_eq_emod_of_nonneg i (by omega)]; exact q)
theorem A7f : OpR X (binaryOp .Pow) (rI CPow fun i j => .int (i ^ j.toNat)) := opI fun _ _ _ _ _ _ _ hc q => pow_int_small hc.1 hc.2.1 hc.2.2 q
theorem unI {f : Value -> Sem Value} {g : Int -> Int}
    (rule : ∀ (i : Int) (t : Tok) (s : Shared) (Q : Value -> Shared -> Prop) (E : Value -> Shared -> Prop), Q (.int (g i) s.toks) { s with toks := s.toks + 1 } -> wpAny (model X.prog X.w) X.A (f (.int i t)) Q E s) :
    UnR X f (rU fun i => .int (g i)) := by
  intro pins s σ H x v Q I rx h
  obtain ⟨i, rfl, q⟩ := h
  obtain ⟨t, rfl⟩ := rx
  exact rule i t s _ _ ⟨.int (g i), H, I.tok _, ⟨_, rfl⟩, q⟩
theorem O2 : UnR X (unaryOp .USub) (rU fun i => .int (-i)) := unI fun _ _ _ _ _ q => neg_int q
end
section
variable {X : Cx} {a b c : Expr} {ta tb tc : TE} {pos : Pos}
theorem B4g {pins : List (Addr × Obj)} {σ : St} {H : Hp} {s : Shared} {Q : VK} {k k' : Bool} (I : Inv X pins σ H s) (q : Q (.bl k) H) (e : k = k') : EP X pins σ Q (.bool k') s := by
  subst e
  exact ⟨.bl k, H, I, rfl, q⟩
theorem A45 : OpR X (compareOp .Lt) (rI0 fun i j => .bl (decide (i < j))) := opB0 fun _ _ _ _ _ _ _ q => lt_int q
theorem A0u : OpR X (compareOp .Gt) (rI0 fun i j => .bl (decide (j < i))) := opB0 fun _ _ _ _ _ _ _ q => gt_int q
theorem C09 : OpR X (compareOp .GtE) (rI0 fun i j => .bl (decide (j <= i))) := opB0 fun _ _ _ _ _ _ _ q => ge_int q
theorem B88 : OpR X (compareOp .Is) (fun x y H Q => y = .non /\ Q (.bl (decide (x = .non))) H) := by
  intro pins s σ H x y v u Q I rx ry h
  obtain ⟨rfl, q⟩ := h
  cases ry
  refine is_none_gen (B4g I q ?_)
  cases x <;> first
    | (cases rx; rfl)
    | (obtain ⟨t, rfl⟩ := rx; rfl)
theorem B6c : OpR X (compareOp .IsNot) (fun x y H Q => y = .non /\ Q (.bl (!decide (x = .non))) H) := by
  intro pins s σ H x y v u Q I rx ry h
  obtain ⟨rfl, q⟩ := h
  cases ry
  refine isnot_none_gen (B4g I q ?_)
  cases x <;> first
    | (cases rx; rfl)
    | (obtain ⟨t, rfl⟩ := rx; rfl)
theorem B9 (b : Expr) {op : CmpOp} (h : op ≠ .In := by decide) (h2 : op ≠ .NotIn := by decide) : behindInMarks op b = false := by
  have e1 : (op == CmpOp.In) = false := by cases op <;> first | rfl | exact absurd rfl h
  have e2 : (op == CmpOp.NotIn) = false := by cases op <;> first | rfl | exact absurd rfl h2
  cases b <;> simp [behindInMarks, e1, e2]
theorem Z1 {op : CmpOp} {r : R2} (ho : OpR X (compareOp op) r) (ha : PE X a ta) (hb : PE X b tb) (hm : behindInMarks op b = false) : PE X (.Compare a [op] [b] pos) (tOp r ta tb) := by
  intro pins s σ H Q I h
  exact wpAny_Compare1 (binT ha hb I h fun v u s2 x y H2 I2 rx ry q => ho pins s2 σ H2 x y v u Q I2 rx ry q) hm
def B4v (t : TE) : TT := fun σ H Q => t σ H fun x H' => ∃ k, x = .bl k /\ Q k H'
theorem A52 {op : CmpOp} {r : R2} (ho : OpR X (compareOp op) r) (ha : PE X a ta) (hb : PE X b tb) (hm : behindInMarks op b = false) : PT X (.Compare a [op] [b] pos) (B4v (tOp r ta tb)) := by
  intro pins s σ H Q I h
  refine wpAny_isTrue_Compare1 (thn (ha pins s σ H _ I h) fun v s1 ⟨x, H1, I1, r1, q1⟩ => thn (hb pins s1 σ H1 _ I1 q1) fun u s2 ⟨y, H2, I2, r2, q2⟩ =>
    thn (ho pins s2 σ H2 x y v u _ I2 r1 r2 q2) fun c s3 ⟨z, H3, I3, r3, k, e, q3⟩ => ?_) hm
  subst e
  cases r3
  exact wpAny_truthy_bool ⟨H3, I3, q3⟩
theorem W7 : (sizeLine : Nat) < 2 ^ 63 := by rw [sizeLine_eq]; decide
theorem A4s {x : V} {us : List Value} (r : Vals [x] us) : ∃ u, us = [u] /\ RelV x u := by
  cases r with
  | cons r1 r2 => cases r2; exact ⟨_, rfl, r1⟩
theorem B6z {x y : V} {us : List Value} (r : Vals [x, y] us) : ∃ u w', us = [u, w'] /\ RelV x u /\ RelV y w' := by
  cases r with
  | cons r1 r2 =>
    cases r2 with
    | cons r3 r4 => cases r4; exact ⟨_, _, rfl, r1, r3⟩
theorem B1p : CallR X (.builtin "abs") (fun xs H Q => ∃ i, xs = [.int i] /\ Q (.int (if i < 0 then -i else i)) H) := by
  intro pins s σ H xs us Q I r h
  obtain ⟨i, rfl, q⟩ := h
  obtain ⟨u, rfl, t, rfl⟩ := A4s r
  exact call_abs_int fun u tk => ⟨.int (if i < 0 then -i else i), H, I.tok _, ⟨_, rfl⟩, q⟩
theorem B0a (hc : X.calm = true) : CallR X (.builtin "max") (fun xs H Q => ∃ i j, xs = [.int i, .int j] /\ Q (.int (if j > i then j else i)) H) := by
  intro pins s σ H xs us Q I r h
  obtain ⟨i, j, rfl, q⟩ := h
  obtain ⟨u, w', rfl, ⟨t, rfl⟩, ⟨t', rfl⟩⟩ := B6z r
  refine max_two_ints (I.ok.hd hc) fun h' tk k => ⟨_, H, I.kept k, ?_, q⟩
  by_cases hj : j > i
  · rw [if_pos hj, if_pos hj]; exact ⟨_, rfl⟩
  · rw [if_neg hj, if_neg hj]; exact ⟨_, rfl⟩
theorem A98 (hc : X.calm = true) : CallR X (.builtin "min") (fun xs H Q => ∃ i j, xs = [.int i, .int j] /\ Q (.int (if j < i then j else i)) H) := by
  intro pins s σ H xs us Q I r h
  obtain ⟨i, j, rfl, q⟩ := h
  obtain ⟨u, w', rfl, ⟨t, rfl⟩, ⟨t', rfl⟩⟩ := B6z r
  refine min_two_ints (I.ok.hd hc) fun h' tk k => ⟨_, H, I.kept k, ?_, q⟩
  by_cases hj : j < i
  · rw [if_pos hj, if_pos hj]; exact ⟨_, rfl⟩
  · rw [if_neg hj, if_neg hj]; exact ⟨_, rfl⟩
theorem A1f : CallR X (.type "int") (fun xs H Q => (∃ i, xs = [.int i] /\ Q (.int i) H) \/ ∃ k, xs = [.bl k] /\ Q (.int (if k then 1 else 0)) H) := by
  intro pins s σ H xs us Q I r h
  rcases h with ⟨i, rfl, q⟩ | ⟨k, rfl, q⟩
  · obtain ⟨u, rfl, t, rfl⟩ := A4s r
    exact call_int_int ⟨.int i, H, I, ⟨_, rfl⟩, q⟩
  · obtain ⟨u, rfl, r1⟩ := A4s r
    cases r1
    exact call_int_bool ⟨.int (if k then 1 else 0), H, I.tok _, ⟨_, rfl⟩, q⟩
end
end L2
namespace L2
open PySem PySem.Spec PyProof.Rows
section
variable {prog : Program} {w : World} {A : Around} {E : Value -> Shared -> Prop} {s : Shared} {K : PySem.W.Frag} {x dx C f : Addr} {mA : Str -> Option Value} {name : Str} {v : Value}
end
theorem RelO.some_of {v : V} {o : Option Value} (r : RelO (some v) o) : ∃ u, o = some u /\ RelV v u := by
  cases o with
  | none => exact (show False from r).elim
  | some u => exact ⟨u, rfl, r⟩
theorem RelO.none_of {o : Option Value} (r : RelO none o) : o = none := by
  cases o with
  | none => rfl
  | some u => exact (show False from r).elim
section
variable {P : Program} {w : World} {H H' : Hp} {h h' : Heap} {a C dx : Addr} {fs fs' : List (Str × V)}
end
structure Cls (K : PySem.W.Frag) (C : Addr) : Prop where
  pg : PySem.W.plainGet K C Str.empty = true
  hd : PySem.W.hasDictIn K C = true
  po : PySem.W.plainOver K C = true
  sa : PySem.W.findIn K (.ref C) "__setattr__" = some (some (.builtin "object.__setattr__"))
theorem Cls.get {K : PySem.W.Frag} {C : Addr} (c : Cls K C) (f : Str) : PySem.W.plainGet K C f = true := c.pg
section
variable {X : Cx} {pins : List (Addr × Obj)} {σ : St} {H : Hp} {s : Shared} {a C dx : Addr} {fs : List (Str × V)} {f : Str} {v : V} {A : Around} {E : Value -> Shared -> Prop}
end
section
variable {X : Cx} {o e value : Expr} {f : Str} {pos pos' tpos : Pos} {ta tv : TE}
end
section
variable {X : Cx} {pins : List (Addr × Obj)} {σ : St} {H : Hp} {s : Shared} {A : Around} {E : Value -> Shared -> Prop} {Q : Value -> Shared -> Prop} {c : Value} {b : Bool}
end
end L2
namespace L2
open PySem PySem.Spec PyProof.Rows
structure Room (k : Nat) (A : Around) : Prop where
  hd : A.handled = none
  gd : A.guards = some []
  dp : A.depth + 3 * k + 5 < recursionLimit
  un : A.units + 16 * k + 200 < cLine
theorem Room.mono {j k : Nat} {A : Around} (r : Room k A) (h : j <= k) : Room j A := ⟨r.hd, r.gd, by have := r.dp; omega, by have := r.un; omega⟩
theorem Room.mo {j k : Nat} {A : Around} (r : Room k A) (h : j <= k := by first | decide | omega) : Room j A := r.mono h
theorem Room.deeper {k : Nat} {A : Around} (r : Room (k + 1) A) (env : Env) : Room k (A.deeper env) :=
  ⟨r.hd, r.gd, by have := r.dp; show A.depth + 1 + 3 * k + 5 < _; omega, by have := r.un; show A.units + 3 + 16 * k + 200 < _; omega⟩
theorem Room.depth {k : Nat} {A : Around} (r : Room k A) : A.depth < recursionLimit := by have := r.dp; omega
theorem Room.units {k : Nat} {A : Around} (r : Room k A) : A.units + 64 < cLine := by have := r.un; omega
def tNil : TA := fun _ H Q => Q [] H
def L9 (ta : TE) (tr : TA) : TA := fun σ H Q => ta σ H fun x H1 => tr σ H1 fun xs H2 => Q (x :: xs) H2
section
variable {X : Cx} {e : Expr} {es : List Expr} {te : TE} {t : TA} {pos : Pos}
theorem A0s : PA X [] tNil := fun _ _ _ _ H Q I h => Calls.spliced_nil ⟨[], H, I, .nil, h⟩
theorem N8 (ha : PE X e te) (hr : PA X es t) (hs : starEach (e :: es) X.env = (false, eval e X.env) :: starEach es X.env := by rfl) : PA X (e :: es) (L9 te t) := by
  intro pos pins s σ H Q I h
  rw [hs]
  show wpAny _ _ (spliced ((false, eval e X.env) :: backTo pos (starEach es X.env))) _ _ s
  refine Calls.spliced_cons (thn (ha pins s σ H _ I h) fun u s1 ⟨x, H1, I1, r1, q1⟩ => ?_)
  exact thn (hr pos pins s1 σ H1 _ I1 q1) fun us s2 ⟨xs, H2, I2, r2, q2⟩ => ⟨x :: xs, H2, I2, .cons r1 r2, q2⟩
def tTup (t : TA) : TE := fun σ H Q => t σ H fun xs H1 => xs.length <= sizeLine /\ ∀ p, H1 p = none -> Q (.ref p) (upd H1 p (.tup xs))
def tLst (t : TA) : TE := fun σ H Q => t σ H fun xs H1 => xs.length <= sizeLine /\ ∀ p, H1 p = none -> Q (.ref p) (upd H1 p (.lst xs))
theorem B76 {x1} (h : PA X es t) : PE X (.Tuple es x1 pos) (tTup t) := by
  intro pins s σ H Q I hq
  refine wpAny_Tuple_spliced (thn (h pos pins s σ H _ I hq) fun us s1 ⟨xs, H1, I1, r, z, q⟩ => ⟨by rw [<- r.length]; exact z, ?_⟩)
  have hf : H1 s1.heap.objs.size = none := I1.hok.fresh (Nat.le_refl _)
  refine ⟨.ref s1.heap.objs.size, upd H1 s1.heap.objs.size (.tup xs), I1.laid (t' := s1.toks) (fun b u e => Heap.get?_push_of_some _ e) (Nat.le_refl _) ?_, rfl, q _ hf⟩
  exact ⟨z, us, r, ⟨_, Heap.get?_push_size _ rfl, rfl, _, rfl⟩⟩
theorem B2d (h : PA X es t) : PE X (.List es pos) (tLst t) := by
  intro pins s σ H Q I hq
  refine wpAny_List_spliced (thn (h pos pins s σ H _ I hq) fun us s1 ⟨xs, H1, I1, r, z, q⟩ => ⟨by rw [<- r.length]; exact z, ?_⟩)
  have hf : H1 s1.heap.objs.size = none := I1.hok.fresh (Nat.le_refl _)
  refine ⟨.ref s1.heap.objs.size, upd H1 s1.heap.objs.size (.lst xs), I1.laid (t' := s1.toks) (fun b u e => Heap.get?_push_of_some _ e) (Nat.le_refl _) ?_, rfl, q _ hf⟩
  exact ⟨z, us, 0, r, Heap.get?_push_size _ rfl⟩
end
abbrev Sp := List V -> Hp -> VK -> XK -> Prop
abbrev CXT := List Env -> Hp -> Shared -> XK -> Value -> Shared -> Prop
structure Env0 (P : Program) (w : World) (K : PySem.W.Frag) (mg : Str -> Option Value) (base : Heap) (A : Around) (outer : List Env) (s : Shared) (H : Hp) : Prop where
  frames : A.frames = some outer
  mod : Mod K mg base
  bs : ∀ b o, base.get? b = some o -> s.heap.get? b = some o /\ H b = none
  bsz : base.objs.size <= s.heap.objs.size
  funs : s.heap.FunFrames base outer
  frf : ∀ b ∈ frs outer, H b = none
  hok : HOk P w H s.heap
  bare : AllBare s.gens
def CE (outer : List Env) (P : Program) (w : World) (H : Hp) (s : Shared) (Q : VK) (u : Value) (s' : Shared) : Prop :=
  ∃ v H', s'.os = s.os /\ AllBare s'.gens /\ Un (frs outer) [] H H' s.heap s'.heap /\ HOk P w H' s'.heap /\ RelV v u /\ Q v H'
def CR (CX : CXT) (outer : List Env) (P : Program) (w : World) (H : Hp) (s : Shared) (Q : VK) (E : XK) (r : Result) (s' : Shared) : Prop :=
  match r with
  | .ok (.ret u) => CE outer P w H s Q u s'
  | .ok _ => False
  | .error e => CX outer H s E e s'
structure FnOk (P : Program) (w : World) (K : PySem.W.Frag) (mg : Str -> Option Value) (base : Heap) (CX : CXT) (k : Nat) (f : Addr) (fd : FuncData) (ps : List Str) (sp : Sp) : Prop where
  len : ∀ vs H Q E, sp vs H Q E -> vs.length = ps.length
  run : ∀ (A : Around) (outer : List Env) (s : Shared) (H : Hp) (args : Args) (us : List Value) (vs : List V) (Q : VK) (E : XK), Room k A -> Env0 P w K mg base A outer s H -> BindsTo s fd args (ps.zip us) -> Vals vs us -> sp vs H Q E ->
    codeAny (model P w) A (.call (.ref f) args) (CR CX outer P w H s Q E) s
theorem FnOk.imp {P : Program} {w : World} {K : PySem.W.Frag} {mg : Str -> Option Value} {base : Heap} {CX : CXT} {k : Nat} {f : Addr} {fd : FuncData} {ps : List Str} {sp sp' : Sp} (F : FnOk P w K mg base CX k f fd ps sp)
    (h : ∀ vs H Q E, sp' vs H Q E -> sp vs H Q E) : FnOk P w K mg base CX k f fd ps sp' :=
  ⟨fun vs H Q E q => F.len vs H Q E (h _ _ _ _ q), fun A outer s H args us vs Q E hr he hb hv hs => F.run A outer s H args us vs Q E hr he hb hv (h _ _ _ _ hs)⟩
section
variable {X : Cx} {pins : List (Addr × Obj)} {σ : St} {H : Hp} {s s' : Shared}
theorem Inv.env0 (I : Inv X pins σ H s) : Env0 X.prog X.w X.K X.mg X.base X.A X.stack s H :=
  ⟨I.ok.frames, I.ok.mod, I.bs, Nat.le_trans I.ok.bsz I.sz, I.stack, I.stkFree, I.hok, I.bare⟩
theorem Inv.after {Q : VK} {u : Value} (I : Inv X pins σ H s) (h : CE X.stack X.prog X.w H s Q u s') : EP X pins σ Q u s' := by
  obtain ⟨v, H', os, bare, un, hok, r, q⟩ := h
  obtain ⟨hh, g, d, t, os'⟩ := s'
  obtain rfl : os' = s.os := os
  exact ⟨v, H', I.call (h' := hh) (g' := g) (d' := d) (t' := t) (ch := []) un hok bare (fun b z => absurd z (by simp)), r, q⟩
end
def B40 (sp : Sp) (dvs : List V) (E : XK) (t : TA) : TE := fun σ H Q => t σ H fun vs H1 => sp (vs ++ dvs) H1 Q E
def Binds (K : PySem.W.Frag) (fd : FuncData) (ps : List Str) (ds : List Value) : Prop :=
  ∀ (s : Shared) (us : List Value), K.In s.heap -> (us ++ ds).length = ps.length -> BindsTo s fd ⟨us, []⟩ (ps.zip (us ++ ds))
theorem Binds.all {K : PySem.W.Frag} {fd : FuncData} {ps : List Str} (h : ∀ us : List Value, us.length = ps.length -> bindArgs fd ⟨us, []⟩ = pure (ps.zip us)) : Binds K fd ps [] := fun s us _ hl => by
  rw [List.append_nil] at hl ⊢
  exact .of_eq (h us hl)
def A4q (CX : CXT) (X : Cx) (E : XK) : Prop := ∀ (pins : List (Addr × Obj)) (σ : St) (H : Hp) (s : Shared) (e : Value) (s' : Shared), Inv X pins σ H s -> CX X.stack H s E e s' -> X.xe e s'
section
variable {X : Cx} {CX : CXT} {k : Nat} {f C : Addr} {fd : FuncData} {ps : List Str} {sp : Sp} {dvs : List V} {ds : List Value} {E : XK} {x m : Str} {p pos apos : Pos} {e o : Expr} {es : List Expr} {ta : TE} {t : TA}
theorem B7m {pins : List (Addr × Obj)} {σ : St} {H : Hp} {s : Shared} {Q : VK} {us : List Value} {vs : List V} (F : FnOk X.prog X.w X.K X.mg X.base CX k f fd ps sp) (hr : Room k X.A) (hb : Binds X.K fd ps ds) (hd : Vals dvs ds) (hx : A4q CX X E)
    (I : Inv X pins σ H s) (r : Vals vs us) (h : sp (vs ++ dvs) H Q E) : wpAny (model X.prog X.w) X.A (call (.ref f) us) (EP X pins σ Q) X.xe s := by
  have r2 : Vals (vs ++ dvs) (us ++ ds) := r.append hd
  have hl : (us ++ ds).length = ps.length := by rw [<- r2.length]; exact F.len _ _ _ _ h
  refine wpAny_call (codeAny_mono (F.run X.A X.stack s H ⟨us, []⟩ (us ++ ds) (vs ++ dvs) Q E hr I.env0 (hb s us I.kIn hl) r2 h) fun r s' hq => ?_)
  cases r with
  | error e => exact hx pins σ H s e s' I hq
  | ok fl =>
    cases fl with
    | ret u => exact I.after hq
    | next => exact False.elim hq
    | brk => exact False.elim hq
    | cont => exact False.elim hq
theorem B5s (F : FnOk X.prog X.w X.K X.mg X.base CX k f fd ps sp) (hr : Room k X.A) (hg : Gl X x) (hm : X.mg x = some (.ref f)) (hk : PySem.W.keepIn X.K (.ref f) = true) (hb : Binds X.K fd ps ds) (hd : Vals dvs ds) (hx : A4q CX X E)
    (ha : PA X (e :: es) t) (hdb : (x == ("__debug__" : Str)) = false := by decide) (he : starEach (e :: es) X.env = (false, eval e X.env) :: starEach es X.env := by rfl) (hpl : (backTo pos (starEach es X.env)).any (·.1) = false := by rfl) :
    PE X (.Call (.Name x p) (e :: es) [] pos) (B40 sp dvs E t) := by
  intro pins s σ H Q I h
  refine wpAny_Call_Name_kw (A8j I hg hm ?_ hdb)
  refine PySem.W.callWith_K (h₀ := X.base) I.ok.mod.kin hk (thn (ha pos pins s σ H _ I h) fun us s1 ⟨vs, H1, I1, r, q⟩ => ⟨I1.kIn, ?_⟩) he hpl
  exact B7m F hr hb hd hx I1 r q
end
section
variable {X : Cx} {CX : CXT} {k : Nat} {f C : Addr} {fd : FuncData} {ps ks : List Str} {sp : Sp} {E : XK} {x m : Str} {p pos apos kpos : Pos} {e o : Expr} {es : List Expr} {kws : List Keyword} {te ta : TE} {t tk : TA} {nm : Option Str}
variable {g : List Value -> List Value -> List Value} {gV : List V -> List V -> List V}
end
structure FnScope (N P : List Str) (sc : Scope) : Prop where
  kind : sc.kind = .function
  co : sc.isCoroutine = false
  gen : sc.isGenerator = false
  nd : N.Nodup
  pre : N.take P.length = P
  par : ∀ x ∈ P, sc.names.lookup x = some .local \/ sc.names.lookup x = some .cell
  nofree : ∀ y ∈ sc.names, y.2 ≠ .free
theorem A1i {kindOf : Str -> Option NameKind} {x : Str} : ∀ {binds : List (Str × Value)} {m : Str -> Option Value}, (∀ v, (x, v) ∉ binds) -> bindL kindOf binds m x = m x
  | [], _, _ => rfl
  | (n, v) :: r, m, h => by
    unfold bindL
    rw [A1i fun w hw => h w (List.mem_cons_of_mem _ hw)]
    split
    · have : x ≠ n := by rintro rfl; exact h v List.mem_cons_self
      simp [this]
    · rfl
theorem A1k {kindOf : Str -> Option NameKind} {x : Str} : ∀ {binds : List (Str × Value)} {m : Str -> Option Value}, (∀ v, (x, v) ∉ binds) -> bindC kindOf binds m x = m x
  | [], _, _ => rfl
  | (n, v) :: r, m, h => by
    unfold bindC
    rw [A1k fun w hw => h w (List.mem_cons_of_mem _ hw)]
    split
    · rfl
    · have : x ≠ n := by rintro rfl; exact h v List.mem_cons_self
      simp [this]
theorem A1j {kindOf : Str -> Option NameKind} {x : Str} {v : Value} : ∀ {P : List Str} {vs : List Value} {i : Nat} {m : Str -> Option Value}, P.Nodup -> P[i]? = some x -> vs[i]? = some v -> kindOf x = some .local ->
    bindL kindOf (P.zip vs) m x = some v
  | [], _, _, _, _, h, _, _ => by simp at h
  | _ :: _, [], _, _, _, _, h, _ => by simp at h
  | p :: P, w :: vs, 0, m, nd, h1, h2, hk => by
    simp at h1 h2; subst h1; subst h2
    show bindL kindOf ((p, w) :: P.zip vs) m p = _
    unfold bindL
    rw [A1i fun v hv => (List.nodup_cons.mp nd).1 (List.of_mem_zip hv).1, if_pos hk]
    simp
  | p :: P, w :: vs, i + 1, m, nd, h1, h2, hk => by
    show bindL kindOf ((p, w) :: P.zip vs) m x = _
    unfold bindL
    exact A1j (i := i) (List.nodup_cons.mp nd).2 (by simpa using h1) (by simpa using h2) hk
theorem A1l {kindOf : Str -> Option NameKind} {x : Str} {v : Value} : ∀ {P : List Str} {vs : List Value} {i : Nat} {m : Str -> Option Value}, P.Nodup -> P[i]? = some x -> vs[i]? = some v -> kindOf x ≠ some .local ->
    bindC kindOf (P.zip vs) m x = some v
  | [], _, _, _, _, h, _, _ => by simp at h
  | _ :: _, [], _, _, _, _, h, _ => by simp at h
  | p :: P, w :: vs, 0, m, nd, h1, h2, hk => by
    simp at h1 h2; subst h1; subst h2
    show bindC kindOf ((p, w) :: P.zip vs) m p = _
    unfold bindC
    rw [A1k fun v hv => (List.nodup_cons.mp nd).1 (List.of_mem_zip hv).1, if_neg hk]
    simp
  | p :: P, w :: vs, i + 1, m, nd, h1, h2, hk => by
    show bindC kindOf ((p, w) :: P.zip vs) m x = _
    unfold bindC
    exact A1l (i := i) (List.nodup_cons.mp nd).2 (by simpa using h1) (by simpa using h2) hk
def R7 (N : List Str) (vs : List V) : St := vs.map some ++ List.replicate (N.length - vs.length) none
def cxOf (CX : CXT) (P : Program) (w : World) (K : PySem.W.Frag) (mg : Str -> Option Value) (base : Heap) (N : List Str) (qual : Str) (scope : Scope) (f : Addr) (cd : Value) (A : Around) (outer : List Env) (s : Shared) (H : Hp) (E : XK) : Cx where
  prog := P
  w := w
  K := K
  mg := mg
  base := base
  A := A.deeper (envOfC qual scope s.heap.objs.size f cd)
  N := N
  s₀ := s
  H₀ := H
  env := envOfC qual scope s.heap.objs.size f cd
  outer := outer
  stack := envOfC qual scope s.heap.objs.size f cd :: outer
  ex := []
  calm := true
  fn := fun _ => true
  pn := []
  xe := fun e s' => wpAny (model P w) (A.deeper (envOfC qual scope s.heap.objs.size f cd)) (leaving (envOfC qual scope s.heap.objs.size f cd) e) (fun _ s'' => CX outer H s E e s'') (fun e' s'' => CX outer H s E e' s'') s'
theorem A4g {sc : Scope} {n : Nat} {x : Str} (h : sc.names.lookup x = some .cell) : ∃ c, (cellsFrom n sc.names []).lookup x = some c := by
  have q := PySem.W.cellsFrom_some sc.names n [] (.inl h)
  exact Option.isSome_iff_exists.mp q
theorem A9i {CX : CXT} {P : Program} {w : World} {K : PySem.W.Frag} {mg : Str -> Option Value} {base : Heap} {N ps : List Str} {qual : Str} {scope : Scope} {f : Addr} {cd : Value} {A : Around} {outer : List Env} {s s1 : Shared} {H : Hp} {E : XK} {us : List Value} {vs : List V}
    (S : FnScope N ps scope) (hd : A.handled = none) (e0 : Env0 P w K mg base A outer s H) (hl : vs.length = ps.length) (r : Vals vs us)
    (x : InCallC s s.heap.objs.size (bindL (envOfC qual scope s.heap.objs.size f cd).kindOf (ps.zip us) fun _ => none) (cellsFrom (s.heap.objs.size + 1) scope.names []) (bindC (envOfC qual scope s.heap.objs.size f cd).kindOf (ps.zip us) fun _ => none) s1) :
    Inv (cxOf CX P w K mg base N qual scope f cd A outer s H E) [] (R7 N vs) H s1 := by
  have hpl : ps.length <= N.length := by have := congrArg List.length S.pre; rw [List.length_take] at this; omega
  obtain ⟨h1, tk, rfl, hk⟩ := x.done
  have noA : ∀ b : Addr, b ∉ (cxOf CX P w K mg base N qual scope f cd A outer s H E).ex := fun b z => absurd (show b ∈ ([] : List Addr) from z) (by simp)
  refine ⟨⟨e0.mod, S.kind, rfl, rfl, Nat.le_refl _, fun y z c h1 h2 => ?_, fun y hy => ?_, fun y c _ h => ?_, fun _ => hd, Around.frames_deeper e0.frames, .inr ⟨rfl, rfl⟩, fun b z => absurd z (noA b), e0.bs, e0.bsz, fun b _ _ => noA b, fun b z => absurd z (noA b), e0.funs, e0.frf⟩,
    rfl, e0.bare, Un.kept hk, ⟨_, x.toInCall.ns, fun i y v h1 h2 h3 => ?_⟩, fun y c h => ⟨_, x.cell y c h⟩, e0.hok.fresh (Nat.le_refl _), fun y c h => ?_, fun p hp => absurd (show p ∈ ([] : List (Addr × Obj)) from hp) (by simp), e0.hok.kept hk, ?_⟩
  · exact name_of_addr x.apart (PySem.mem_of_lookup h1) (PySem.mem_of_lookup h2)
  · have hy : scope.names.lookup y = some .cell \/ scope.names.lookup y = some .free := hy
    rcases hy with hy | hy
    · exact A4g hy
    · exact absurd rfl (S.nofree _ (PySem.mem_of_lookup hy))
  · exact Nat.le_of_lt (x.above y c (PySem.mem_of_lookup h))
  · have hi : i < vs.length := by
      unfold R7 at h2
      by_cases hi : i < vs.length
      · exact hi
      · rw [List.getElem?_append_right (by simpa using hi)] at h2
        rw [List.getElem?_replicate] at h2
        split at h2 <;> cases h2
    have ha : vs[i]? = some v := by
      unfold R7 at h2
      rw [List.getElem?_append_left (by simpa using hi), List.getElem?_map] at h2
      cases e : vs[i]? with
      | none => rw [e] at h2; cases h2
      | some a => rw [e] at h2; cases h2; rfl
    obtain ⟨u, hu, rv⟩ := r.get ha
    have hp : ps[i]? = some y := by
      rw [<- S.pre, List.getElem?_take_of_lt (by omega)]; exact h1
    have ndP : ps.Nodup := by rw [<- S.pre]; exact S.nd.sublist (List.take_sublist _ _)
    refine ⟨u, rv, ?_⟩
    rcases S.par y (List.mem_of_getElem? hp) with k | k
    · exact .inl ⟨k, A1j ndP hp hu k⟩
    · obtain ⟨c, e⟩ := A4g (n := s.heap.objs.size + 1) k
      refine .inr ⟨.inl k, c, e, ?_⟩
      have q := x.cell y c e
      rw [A1l ndP hp hu (by show scope.names.lookup y ≠ _; rw [k]; decide)] at q
      exact q
  · exact e0.hok.fresh (Nat.le_of_lt (x.above y c (PySem.mem_of_lookup h)))
  · unfold R7
    show _ = N.length
    rw [List.length_append, List.length_map, List.length_replicate]
    omega
theorem C1f {CX : CXT} {P : Program} {w : World} {K : PySem.W.Frag} {mg : Str -> Option Value} {base : Heap} {k : Nat} {f : Addr} {name qual : Str} {params : Arguments} {body : List Stmt} {scope : Scope} {dV kV doc pm cdv ct oc : Value} {an od : Option Addr}
    {osl : Array (Option Value)} {N ps : List Str} {sp : Sp} (lk : K.lookup f = some ⟨oc, od, .func (PySem.W.fnOf name qual params body scope dV kV doc pm an cdv ct), osl⟩) (hcd : PySem.W.codeIn K cdv qual = true) (S : FnScope N ps scope)
    (len : ∀ vs H Q E, sp vs H Q E -> vs.length = ps.length)
    (hbody : ∀ (A : Around) (outer : List Env) (s : Shared) (H : Hp) (vs : List V) (Q : VK) (E : XK), Room k (A.deeper (envOfC qual scope s.heap.objs.size f cdv)) -> sp vs H Q E ->
      ∃ t, PSs (cxOf CX P w K mg base N qual scope f cdv A outer s H E) body t /\ t { nx := fun _ H' => Q .non H', rt := Q } (R7 N vs) H) :
    FnOk P w K mg base CX (k + 1) f (PySem.W.fnOf name qual params body scope dV kV doc pm an cdv ct) ps sp := by
  refine ⟨len, fun A outer s H args us vs Q E hr e0 hb r hsp => ?_⟩
  have hl := len _ _ _ _ hsp
  have KX : K.In s.heap := e0.mod.kin.keeps fun b o e => (e0.bs b o e).1
  have lim : s.heap.NoLimit := e0.mod.nolimit.keeps fun b o e => (e0.bs b o e).1
  have hkind : ∀ y ∈ ps.zip us, scope.names.lookup y.1 = some .local \/ (scope.names.lookup y.1 = some .cell /\ ((cellsFrom (s.heap.objs.size + 1) scope.names []).lookup y.1).isSome = true) := fun ⟨n, v⟩ hy => by
    rcases S.par n (List.of_mem_zip hy).1 with q | q
    · exact .inl q
    · exact .inr ⟨q, PySem.W.cellsFrom_some _ _ _ (.inl q)⟩
  refine codeAny_call_function hr.depth (KX _ _ lk) rfl S.co S.gen rfl (PySem.W.codeRec_of KX hcd) (hb _ _ _ _ ?_)
  refine wpAny_newFunctionEnv_cells S.kind hkind fun env he s1 x => ?_
  subst he
  refine ⟨lim.keeps x.toInCall.keep, codeAny_func ?_⟩
  obtain ⟨t, ht, hq⟩ := hbody A outer s H vs Q E (hr.deeper _) hsp
  have I : Inv (cxOf CX P w K mg base N qual scope f cdv A outer s H E) [] (R7 N vs) H s1 := A9i S hr.hd e0 hl r x
  refine wpAny_mono (ht [] s1 (R7 N vs) H _ I hq) (fun fl s' hs => ?_) fun e s' hs => hs
  have fin : ∀ {σ' : St} {H' : Hp} {v : V} {u : Value}, Inv (cxOf CX P w K mg base N qual scope f cdv A outer s H E) [] σ' H' s' -> RelV v u -> Q v H' -> CE outer P w H s Q u s' :=
    fun {σ' H' v u} J rv q => ⟨v, H', J.os, J.bare, J.base, J.hok, rv, q⟩
  cases fl with
  | ret u =>
    obtain ⟨v, σ', H', J, rv, q⟩ := hs
    exact fin J rv q
  | next =>
    obtain ⟨σ', H', J, q⟩ := hs
    exact fin (v := V.non) (u := Value.none) J rfl q
  | brk =>
    obtain ⟨_, _, _, q⟩ := hs
    exact False.elim q
  | cont =>
    obtain ⟨_, _, _, q⟩ := hs
    exact False.elim q
end L2
namespace L2
open PySem PySem.Spec PyProof.Rows
section
variable {X : Cx} {x : Str} {p pos : Pos} {e : Expr} {es : List Expr} {t : TA} {id T : String} {r : List V -> Hp -> VK -> Prop}
def tCB (r : List V -> Hp -> VK -> Prop) (t : TA) : TE := fun σ H Q => t σ H fun vs H1 => r vs H1 Q
theorem A22 (hc : CallR X (.builtin id) r) (hg : Gl X x) (hm : X.mg x = none) (hv : bootBuiltins x = some (.builtin id)) (ha : PA X (e :: es) t) (hn : x ≠ "__name__" := by decide) (hdb : (x == ("__debug__" : Str)) = false := by decide)
    (he : starEach (e :: es) X.env = (false, eval e X.env) :: starEach es X.env := by rfl) (hpl : (backTo pos (starEach es X.env)).any (·.1) = false := by rfl) : PE X (.Call (.Name x p) (e :: es) [] pos) (tCB r t) := by
  intro pins s σ H Q I h
  refine wpAny_Call_Name_kw (U1 I hg hm hv ?_ hn hdb)
  exact PyProof.Rows.callWith_builtin1 (thn (ha pos pins s σ H _ I h) fun us s1 ⟨vs, H1, I1, r1, q1⟩ => hc pins s1 σ H1 vs us Q I1 r1 q1) he hpl
theorem A0q (hc : CallR X (.type T) r) (hg : Gl X x) (hm : X.mg x = none) (hv : bootBuiltins x = some (.type T)) (ha : PA X (e :: es) t) (hn : x ≠ "__name__" := by decide) (hdb : (x == ("__debug__" : Str)) = false := by decide)
    (he : starEach (e :: es) X.env = (false, eval e X.env) :: starEach es X.env := by rfl) (hpl : (backTo pos (starEach es X.env)).any (·.1) = false := by rfl) : PE X (.Call (.Name x p) (e :: es) [] pos) (tCB r t) := by
  intro pins s σ H Q I h
  refine wpAny_Call_Name_kw (U1 I hg hm hv ?_ hn hdb)
  exact PyProof.Rows.callWith_type1 (thn (ha pos pins s σ H _ I h) fun us s1 ⟨vs, H1, I1, r1, q1⟩ => hc pins s1 σ H1 vs us Q I1 r1 q1) he hpl
end
end L2
namespace HT
open PySem PyProof.Rows
section
open PySem.SeqAt
open PySem.AutoSeq1 (wpAny_loadPart')
open PySem.MeetsSeq PySem.MeetsSeq2 PySem.MeetsSeq3
end
section
variable {prog : Program} {w : World} {A : Around} {E : Value -> Shared -> Prop} {s : Shared}
def sIx (n d : Nat) : Option Int -> Nat
  | none => d
  | some v => if v < 0 then (v + (n : Int)).toNat else min v.toNat n
theorem sIx_none (n d : Nat) : sIx n d none = d := rfl
theorem sIx_nat (n d k : Nat) : sIx n d (some (k : Int)) = min k n := by
  show (if (k : Int) < 0 then ((k : Int) + (n : Int)).toNat else min (k : Int).toNat n) = min k n
  rw [if_neg (by omega), Int.toNat_natCast]
end
end HT
namespace L2
open PySem PySem.Spec PyProof.Rows
abbrev TO := St -> Hp -> (Option Int -> Hp -> Prop) -> Prop
def PO (X : Cx) (e : Option Expr) (t : TO) : Prop :=
  ∀ (pins : List (Addr × Obj)) (s : Shared) (σ : St) (H : Hp) (Q : Option Int -> Hp -> Prop), Inv X pins σ H s -> t σ H Q ->
    wpAny (model X.prog X.w) X.A (evalPart e X.env) (fun u s' => ∃ o H', Inv X pins σ H' s' /\ IsPart u o /\ Q o H') X.xe s
def A1v : TO := fun _ H Q => Q none H
def B4w (t : TE) : TO := fun σ H Q => t σ H fun x H1 => ∃ i, x = .int i /\ Q (some i) H1
section
variable {X : Cx} {e : Expr} {te : TE} {lo hi : Option Expr} {tl th : TO} {pos p2 : Pos}
theorem B5l : PO X none A1v := by
  intro pins s σ H Q I h
  rw [evalPart_none]
  exact wpAny_pure ⟨none, H, I, .none, h⟩
theorem B5k (h : PE X e te) : PO X (some e) (B4w te) := by
  intro pins s σ H Q I hw
  rw [evalPart_some]
  refine thn (h pins s σ H _ I hw) fun u s1 ⟨x, H1, I1, r1, q1⟩ => ?_
  obtain ⟨i, rfl, q⟩ := q1
  obtain ⟨t, rfl⟩ := r1
  exact ⟨some i, H1, I1, .int i t, q⟩
def SlR (X : Cx) (r : V -> Option Int -> Option Int -> Hp -> VK -> Prop) : Prop :=
  ∀ (pins : List (Addr × Obj)) (s : Shared) (σ : St) (H : Hp) (x : V) (v vl vu : Value) (lo hi : Option Int) (sl : Addr) (Q : VK), Inv X pins σ H s -> RelV x v -> s.heap.IsSliceOf sl vl vu .none -> IsPart vl lo -> IsPart vu hi -> r x lo hi H Q ->
    ∃ T id, typeLookup (.type T) "__getitem__" = pure (some (.builtin id)) /\ s.TypeIs v T /\ wpAny (model X.prog X.w) X.A (getItem v (.ref sl)) (EP X pins σ Q) X.xe s
def tSl (r : V -> Option Int -> Option Int -> Hp -> VK -> Prop) (te : TE) (tl th : TO) : TE := fun σ H Q => te σ H fun x H1 => tl σ H1 fun l H2 => th σ H2 fun u H3 => r x l u H3 Q
theorem B04 {r : V -> Option Int -> Option Int -> Hp -> VK -> Prop} (hr : SlR X r) (he : PE X e te) (hl : PO X lo tl) (hu : PO X hi th) : PE X (.Subscript e (.Slice lo hi none p2) pos) (tSl r te tl th) := by
  intro pins s σ H Q I h
  refine Subscript_ (thn (he pins s σ H _ I h) fun v s1 ⟨x, H1, I1, r1, q1⟩ => ?_)
  refine wpAny_Slice (thn (hl pins s1 σ H1 _ I1 q1) fun vl s2 ⟨l, H2, I2, pl, q2⟩ => thn (hu pins s2 σ H2 _ I2 q2) fun vu s3 ⟨u, H3, I3, pu, q3⟩ => ?_)
  rw [evalPart_none]
  refine wpAny_pure ?_
  have I4 : Inv X pins σ H3 { s3 with heap := s3.heap.push { cls := .type "slice", data := .fields #[vl, vu, .none] } } := I3.kept (t' := s3.toks) fun b ob q => Heap.get?_push_of_some _ q
  obtain ⟨T, id, hT, ht, hg⟩ := hr pins { s3 with heap := s3.heap.push { cls := .type "slice", data := .fields #[vl, vu, .none] } } σ H3 x v vl vu l u s3.heap.objs.size Q I4 r1 (Heap.IsSliceOf.new ..) pl pu q3
  show wpAny (model X.prog X.w) X.A (subscriptTail e (.Slice lo hi none p2) v (.ref s3.heap.objs.size)) (EP X pins σ Q) X.xe { s3 with heap := s3.heap.push { cls := .type "slice", data := .fields #[vl, vu, .none] } }
  exact tail_any (ops := [.ref s3.heap.objs.size, v]) ht hT hg (by with_unfolding_all rfl)
def cutV (xs : List V) (lo hi : Option Int) : List V := (xs.drop (HT.sIx xs.length 0 lo)).take (HT.sIx xs.length xs.length hi - HT.sIx xs.length 0 lo)
theorem A2d (xs : List V) (lo hi : Option Int) : (cutV xs lo hi).length <= xs.length := by
  unfold cutV
  rw [List.length_take, List.length_drop]
  omega
theorem Vals.nil_iff {xs : List V} {us : List Value} (r : Vals xs us) : us = [] ↔ xs = [] := by
  cases r with
  | nil => simp
  | cons _ _ => simp
end
end L2
namespace L2
open PySem PySem.Spec PyProof.Rows
def ixN (n : Nat) (i : Int) : Option Nat := if 0 <= i then (if i < n then some i.toNat else none) else if -(n : Int) <= i then some (i + n).toNat else none
def atI {α : Type} (xs : List α) (i : Int) : Option α := (ixN xs.length i).bind fun j => xs[j]?
theorem A9g {n : Nat} {i : Int} {j : Nat} (h : ixN n i = some j) : seqIndex? i n = some j /\ j < n /\ -(n : Int) <= i /\ i < n := by
  unfold ixN at h
  by_cases h0 : 0 <= i
  · rw [if_pos h0] at h
    by_cases h1 : i < n
    · rw [if_pos h1] at h
      have e : i.toNat = j := Option.some.inj h
      exact ⟨by rw [seqIndex_of h0 h1, e], by omega, by omega, h1⟩
    · rw [if_neg h1] at h; cases h
  · rw [if_neg h0] at h
    by_cases h1 : -(n : Int) <= i
    · rw [if_pos h1] at h
      have e : (i + n).toNat = j := Option.some.inj h
      exact ⟨by rw [seqIndex_neg (by omega) h1, e], by omega, h1, by omega⟩
    · rw [if_neg h1] at h; cases h
theorem A2h {α : Type} {xs : List α} {i : Int} {v : α} (h : atI xs i = some v) : ∃ j, seqIndex? i xs.length = some j /\ xs[j]? = some v /\ j < xs.length /\ -(xs.length : Int) <= i /\ i < xs.length := by
  unfold atI at h
  cases e : ixN xs.length i with
  | none => rw [e] at h; cases h
  | some j =>
    rw [e] at h
    obtain ⟨h1, h2, h3, h4⟩ := A9g e
    exact ⟨j, h1, h, h2, h3, h4⟩
theorem M7 {α : Type} {xs : List α} {j : Nat} {v : α} (h : xs[j]? = some v) : atI xs (j : Int) = some v := by
  have hj : j < xs.length := (List.getElem?_eq_some_iff.mp h).1
  have e : ixN xs.length (j : Int) = some j := by
    unfold ixN
    rw [if_pos (by omega), if_pos (by omega)]; simp
  unfold atI; rw [e]; exact h
def B0l (b : Expr) : Prop := ∀ o i, subscripted b false o i = operate [o, i] (getItem o i)
def IxR (X : Cx) (r : R2) : Prop :=
  ∀ (value slice : Expr) (pins : List (Addr × Obj)) (s : Shared) (σ : St) (H : Hp) (x y : V) (v u : Value) (Q : VK), Inv X pins σ H s -> RelV x v -> RelV y u -> r x y H Q ->
    subscripted slice false v u = operate [v, u] (getItem v u) -> wpAny (model X.prog X.w) X.A (subscriptTail value slice v u) (EP X pins σ Q) X.xe s
def MtR (X : Cx) (id : String) (r : V -> List V -> Hp -> VK -> Prop) : Prop :=
  ∀ (pins : List (Addr × Obj)) (s : Shared) (σ : St) (H : Hp) (x : V) (xs : List V) (v : Value) (us : List Value) (Q : VK), Inv X pins σ H s -> RelV x v -> Vals xs us -> r x xs H Q ->
    wpAny (model X.prog X.w) X.A (call (.builtin id) (v :: us)) (EP X pins σ Q) X.xe s
section
variable {X : Cx} {a b : Expr} {ta tb : TE} {pos : Pos}
theorem IxR.or {r r' : R2} (h : IxR X r) (h' : IxR X r') : IxR X (fun x y H Q => r x y H Q \/ r' x y H Q) := by
  intro value slice pins s σ H x y v u Q I rx ry q hs
  rcases q with q | q
  · exact h value slice pins s σ H x y v u Q I rx ry q hs
  · exact h' value slice pins s σ H x y v u Q I rx ry q hs
theorem Z0 {r : R2} (hr : IxR X r) (ha : PE X a ta) (hb : PE X b tb) (hs : B0l b) : PE X (.Subscript a b pos) (tOp r ta tb) := by
  intro pins s σ H Q I h
  exact Subscript_ (binT ha hb I h fun v u s2 x y H2 I2 rx ry q => hr a b pins s2 σ H2 x y v u Q I2 rx ry q (hs _ _))
def rIxL (K : PySem.W.Frag) : R2 := fun x y H Q => ∃ p xs i v, x = .ref p /\ y = .int i /\ SqL K H p xs /\ atI xs i = some v /\ Q v H
def rIxT (K : PySem.W.Frag) : R2 := fun x y H Q => ∃ p xs i v, x = .ref p /\ y = .int i /\ SqT K H p xs /\ atI xs i = some v /\ Q v H
def rIxS : R2 := fun x y H Q => ∃ z i c, x = .str z /\ y = .int i /\ z.length <= sizeLine /\ atI z.cps.toList i = some c /\ Q (.str ⟨#[c]⟩) H
theorem ix_list : IxR X (rIxL X.K) := by
  intro value slice pins s σ H x y v u Q I rx ry h hs
  obtain ⟨p, xs, i, z, rfl, rfl, hq, he, q⟩ := h
  cases rx
  obtain ⟨t, rfl⟩ := ry
  obtain ⟨its, r, pl, hz⟩ := I.list hq
  obtain ⟨j, h1, h2, h3, h4, h5⟩ := A2h he
  obtain ⟨w, ew, rw'⟩ := r.get h2
  have hl := r.length
  have hn := W7
  have fin : EP X pins σ Q w s := ⟨z, H, I, rw', q⟩
  by_cases h0 : 0 <= i
  · have hj : i.toNat = j := by
      rw [seqIndex_of h0 h5] at h1
      exact Option.some.inj h1
    exact item_listR pl.isList h0 (by omega) (by rw [hj]; simpa using ew) fin hs
  · have hj : (i + (its.toArray.size : Int)).toNat = j := by
      rw [seqIndex_neg (by omega) h4] at h1
      rw [List.size_toArray, <- hl]
      exact Option.some.inj h1
    exact subscriptTail_builtinR (x := w) pl.isList.typeIs slot_list_getitem.lookup
      (wpAny_getItem_list_neg (Q := fun r s' => r = w /\ EP X pins σ Q r s') pl.isList (by omega) (by rw [List.size_toArray] <;> omega) (by omega) (by rw [hj]; simpa using ew) ⟨rfl, fin⟩) hs
theorem ix_tup : IxR X (rIxT X.K) := by
  intro value slice pins s σ H x y v u Q I rx ry h hs
  obtain ⟨p, xs, i, z, rfl, rfl, hq, he, q⟩ := h
  cases rx
  obtain ⟨t, rfl⟩ := ry
  obtain ⟨its, r, pl, hz⟩ := I.tuple hq
  obtain ⟨j, h1, h2, h3, h4, h5⟩ := A2h he
  obtain ⟨w, ew, rw'⟩ := r.get h2
  have hl := r.length
  have hn := W7
  have fin : EP X pins σ Q w s := ⟨z, H, I, rw', q⟩
  exact subscriptTail_builtinR (x := w) pl.typeIs slot_tuple_getitem.lookup
    (getItem_tuple (j := j) (Q := fun r s' => r = w /\ EP X pins σ Q r s') pl (by omega) (by omega) (by rw [List.size_toArray, <- hl]; exact h1) (by simpa using ew) ⟨rfl, fin⟩) hs
theorem B9x : IxR X rIxS := by
  intro value slice pins s σ H x y v u Q I rx ry h hs
  obtain ⟨z, i, c, rfl, rfl, hz, he, q⟩ := h
  obtain ⟨t, rfl⟩ := rx
  obtain ⟨t', rfl⟩ := ry
  obtain ⟨j, h1, h2, h3, h4, h5⟩ := A2h he
  have hl : z.cps.toList.length = z.length := by simp [Str.length]
  rw [hl] at h1 h4 h5
  have hn := W7
  exact tail_any (typeIs_str s z t) slot_str_getitem.lookup (getItem_str (c := c) (by
    have e1 : decide (i < -(2 ^ 63 : Int)) = false := decide_eq_false (by omega)
    have e2 : decide (i ≥ 2 ^ 63) = false := decide_eq_false (by omega)
    rw [e1, e2, Bool.or_false]) (by rw [h1]; simpa using h2) ⟨.str ⟨#[c]⟩, H, I.tok _, ⟨_, rfl⟩, q⟩) hs
def rIx (K : PySem.W.Frag) : R2 := fun x y H Q => rIxL K x y H Q \/ rIxT K x y H Q \/ rIxS x y H Q
theorem B9y : IxR X (rIx X.K) := ix_list.or (ix_tup.or B9x)
theorem A49 (its : List Value) (n j : Nat) (u : Value) : Obj.mapSeq (·.setIfInBounds j u) { cls := .type "list", data := .seq its.toArray n } = { cls := .type "list", data := .seq (its.set j u).toArray n } := by
  simp [Obj.mapSeq]
theorem Inv.lst {pins : List (Addr × Obj)} {σ : St} {H : Hp} {s : Shared} {p : Addr} {xs : List V} (I : Inv X pins σ H s) (h : H p = some (.lst xs)) :
    ∃ (its : List Value) (n : Nat), Vals xs its /\ s.heap.get? p = some { cls := .type "list", data := .seq its.toArray n } /\ xs.length <= sizeLine := by
  obtain ⟨z, its, n, r, e⟩ := I.hok p _ h
  exact ⟨its, n, r, e, z⟩
theorem Inv.lstUpd {pins : List (Addr × Obj)} {σ : St} {H : Hp} {s : Shared} {p : Addr} {xs ys : List V} {its its' : List Value} {n n' : Nat} {f : Obj -> Obj} (I : Inv X pins σ H s) (h : H p = some (.lst xs))
    (ho : s.heap.get? p = some { cls := .type "list", data := .seq its.toArray n }) (hf : f { cls := .type "list", data := .seq its.toArray n } = { cls := .type "list", data := .seq its'.toArray n' }) (r : Vals ys its') (hz : ys.length <= sizeLine) (t : Nat) :
    Inv X pins σ (upd H p (.lst ys)) { s with heap := s.heap.update p f, toks := t } := by
  have e : (s.heap.update p f).get? p = some { cls := .type "list", data := .seq its'.toArray n' } := by
    rw [Heap.get?_update_self f ho (by rw [hf] <;> rfl), hf]
  refine I.write (x := p) (e := p) (by rw [h]; trivial) (.inl rfl) (fun b u hb q => (Heap.get?_update_other _ _ (Ne.symm hb)).trans q) ⟨_, e⟩ ?_
  exact ⟨hz, its', n', r, e⟩
def C0v : V -> V -> V -> Hp -> (Hp -> Prop) -> Prop := fun o i v H Q => ∃ p xs k j, o = .ref p /\ i = .int k /\ H p = some (.lst xs) /\ ixN xs.length k = some j /\ Q (upd H p (.lst (xs.set j v)))
theorem Y3 : PSet X C0v := by
  intro pins s σ H o i v ov iv u Q I ro ri rv h
  obtain ⟨p, xs, k, j, rfl, rfl, hp, hj, q⟩ := h
  cases ro
  obtain ⟨t, rfl⟩ := ri
  obtain ⟨its, n, r, ho, hz⟩ := I.lst hp
  obtain ⟨h1, h2, h3, h4⟩ := A9g hj
  have hl := r.length
  have hn := W7
  have I' : Inv X pins σ (upd H p (.lst (xs.set j v))) { s with heap := s.heap.update p (Obj.mapSeq (·.setIfInBounds j u)) } :=
    I.lstUpd hp ho (A49 its n j u) (r.set rv j) (by rw [List.length_set]; exact hz) s.toks
  by_cases h0 : 0 <= k
  · have hk : k.toNat = j := by
      rw [seqIndex_of h0 h4] at h1
      exact Option.some.inj h1
    exact PySem.W.ki_setAt ho h0 (by omega) (by rw [List.size_toArray, <- hl]; exact h4) (by rw [hk]; exact ⟨_, I', q⟩)
  · have hk : (k + (its.toArray.size : Int)).toNat = j := by
      rw [seqIndex_neg (by omega) h3] at h1
      rw [List.size_toArray, <- hl]
      exact Option.some.inj h1
    exact PySem.W.ki_setBack ho (by omega) (by rw [List.size_toArray, <- hl]; exact h3) (by omega) (by rw [hk]; exact ⟨_, I', q⟩)
theorem A0i (lo hi : Option Int) (n : Nat) : (sliceBounds lo hi none n).1 = ((HT.sIx n 0 lo : Nat) : Int) /\ (sliceBounds lo hi none n).2.1 = ((HT.sIx n n hi : Nat) : Int) /\ (sliceBounds lo hi none n).2.2 = 1 := by
  refine ⟨?_, ?_, rfl⟩
  · cases lo with
    | none => simp [sliceBounds, HT.sIx]
    | some i =>
      simp only [sliceBounds, HT.sIx, Option.getD_none, show (1 : Int) > 0 by decide, if_true]
      by_cases h : i < 0
      · simp only [h, if_true] <;> omega
      · simp only [h, if_false] <;> omega
  · cases hi with
    | none => simp [sliceBounds, HT.sIx]
    | some i =>
      simp only [sliceBounds, HT.sIx, Option.getD_none, show (1 : Int) > 0 by decide, if_true]
      by_cases h : i < 0
      · simp only [h, if_true] <;> omega
      · simp only [h, if_false] <;> omega
theorem Y1 (its : List Value) (lo hi : Option Int) : slicePick its.toArray lo hi none = ((its.drop (HT.sIx its.length 0 lo)).take (HT.sIx its.length its.length hi - HT.sIx its.length 0 lo)).toArray := by
  obtain ⟨h1, h2, h3⟩ := A0i lo hi its.toArray.size
  unfold slicePick
  rw [h1, h2, h3]
  simp only [sliceRange_one, pick_run, List.size_toArray] <;> rfl
def rSlL (K : PySem.W.Frag) : V -> Option Int -> Option Int -> Hp -> VK -> Prop := fun x lo hi H Q => ∃ a xs, x = .ref a /\ SqL K H a xs /\ ∀ p, H p = none -> Q (.ref p) (upd H p (.lst (cutV xs lo hi)))
theorem B45 : SlR X (rSlL X.K) := by
  intro pins s σ H x v vl vu lo hi sl Q I rx hs pl pu h
  obtain ⟨a, xs, rfl, hx, q⟩ := h
  cases rx
  obtain ⟨its, r, ht, hz⟩ := I.list hx
  have hlen := r.length
  refine ⟨"list", _, slot_list_getitem.lookup, ht.isList.typeIs, ?_⟩
  refine wpAny_getItem_list_slice ht.isList hs pl pu .none (by simp) ?_ (by rw [List.size_toArray] <;> omega)
  rw [Y1, <- hlen]
  refine ⟨.ref s.heap.objs.size, _, I.laid (t' := s.toks) (o := .lst (cutV xs lo hi)) (fun b ob q => Heap.get?_push_of_some _ q) (Nat.le_refl _) ?_, rfl, q _ (I.hok.fresh (Nat.le_refl _))⟩
  exact ⟨Nat.le_trans (A2d xs lo hi) hz, _, 0, (r.drop (HT.sIx xs.length 0 lo)).take (HT.sIx xs.length xs.length hi - HT.sIx xs.length 0 lo), Heap.get?_push_size _ rfl⟩
theorem call_len_seq : CallR X (.builtin "len") (fun xs H Q => ∃ p ys, xs = [.ref p] /\ (SqL X.K H p ys \/ SqT X.K H p ys) /\ Q (.int ys.length) H) := by
  intro pins s σ H xs us Q I r h
  obtain ⟨p, ys, rfl, hq, q⟩ := h
  obtain ⟨u, rfl, rx⟩ := A4s r
  cases rx
  have hn := W7
  rcases hq with hq | hq
  · obtain ⟨its, r', pl, hz⟩ := I.list hq
    have hlen := r'.length
    exact Calls.call_len_list pl.isList (by simp only [List.size_toArray] <;> omega) ⟨.int ys.length, H, I.tok _, ⟨s.toks + 1, by rw [List.size_toArray, hlen]⟩, q⟩
  · obtain ⟨its, r', pl, hz⟩ := I.tuple hq
    have hlen := r'.length
    exact len_tuple pl (by simp only [List.size_toArray] <;> omega) ⟨.int ys.length, H, I.tok _, ⟨s.toks + 1, by rw [List.size_toArray, hlen]⟩, q⟩
theorem A1d : CallR X (.builtin "len") (fun xs H Q => ∃ z, xs = [.str z] /\ z.length <= sizeLine /\ Q (.int z.length) H) := by
  intro pins s σ H xs us Q I r h
  obtain ⟨z, rfl, hz, q⟩ := h
  obtain ⟨u, rfl, t, rfl⟩ := A4s r
  have hn := W7
  exact len_str (by omega) ⟨.int z.length, H, I.tok _, ⟨_, rfl⟩, q⟩
theorem CallR.or {f : Value} {r r' : List V -> Hp -> VK -> Prop} (h : CallR X f r) (h' : CallR X f r') : CallR X f (fun xs H Q => r xs H Q \/ r' xs H Q) := by
  intro pins s σ H xs us Q I rs q
  rcases q with q | q
  · exact h pins s σ H xs us Q I rs q
  · exact h' pins s σ H xs us Q I rs q
theorem A1c : CallR X (.type "list") (fun xs H Q => ∃ p ys, xs = [.ref p] /\ (SqL X.K H p ys \/ SqT X.K H p ys) /\ ∀ l, H l = none -> Q (.ref l) (upd H l (.lst ys))) := by
  intro pins s σ H xs us Q I r h
  obtain ⟨p, ys, rfl, hq, q⟩ := h
  obtain ⟨u, rfl, rx⟩ := A4s r
  cases rx
  have fin : ∀ (its : List Value), Vals ys its -> ys.length <= sizeLine -> ∀ (h' : Heap) (c' : Nat), (∀ b o', s.heap.get? b = some o' -> h'.get? b = some o') ->
      h'.get? s.heap.objs.size = some { cls := .type "list", dict := none, data := .seq its.toArray c', slots := #[] } -> EP X pins σ Q (.ref s.heap.objs.size) { s with heap := h' } := fun its r' hz h' c' kp e =>
    ⟨.ref s.heap.objs.size, _, I.laid (t' := s.toks) kp (Nat.le_refl _) (show ObjOk X.prog X.w _ h' _ (.lst ys) from ⟨hz, its, c', r', e⟩), rfl, q _ (I.hok.fresh (Nat.le_refl _))⟩
  rcases hq with hq | hq
  · obtain ⟨its, r', pl, hz⟩ := I.list hq
    have hlen := r'.length
    obtain ⟨o, ho, hc, n, hd⟩ := pl.isList
    exact call_list_seq p (.inl rfl) ho hc hd (fun h' c' kp e => fin its r' hz h' c' kp e) (by simp only [List.size_toArray] <;> omega)
  · obtain ⟨its, r', pl, hz⟩ := I.tuple hq
    have hlen := r'.length
    obtain ⟨o, ho, hc, n, hd⟩ := pl
    exact call_list_seq p (.inr rfl) ho hc hd (fun h' c' kp e => fin its r' hz h' c' kp e) (by simp only [List.size_toArray] <;> omega)
def tyV (K : PySem.W.Frag) (T : String) (x : V) (H : Hp) : Prop := match x with
  | .str _ => T = "str"
  | .int _ => T = "int"
  | .ref p => (T = "list" /\ ∃ xs, SqL K H p xs) \/ (T = "tuple" /\ ∃ o, K.lookup p = some o /\ o.cls = .type "tuple" /\ o.dict = none) \/
      (T = "dict" /\ ((∃ kvs, H p = some (.dK kvs)) \/ ∃ kvs, H p = some (.dT kvs))) \/ (T = "set" /\ ∃ S n, H p = some (.set S n))
  | _ => False
theorem B11 {pins : List (Addr × Obj)} {σ : St} {H : Hp} {s : Shared} {T : String} {x : V} {v : Value} (I : Inv X pins σ H s) (r : RelV x v) (ty : tyV X.K T x H) :
    s.TypeIs v T /\ ∀ a, v = .ref a -> ∃ ob, s.heap.get? a = some ob /\ ob.dict = none := by
  cases x with
  | str z =>
    obtain ⟨t, rfl⟩ := r
    cases (show T = "str" from ty)
    exact ⟨typeIs_str s z t, fun _ e => nomatch e⟩
  | int i =>
    obtain ⟨t, rfl⟩ := r
    cases (show T = "int" from ty)
    exact ⟨typeIs_int s i t, fun _ e => nomatch e⟩
  | ref p =>
    cases r
    rcases ty with ⟨rfl, xs, hq⟩ | ⟨rfl, o, hk, hc, hd⟩ | ⟨rfl, hk⟩ | ⟨rfl, S, n, hk⟩
    · obtain ⟨its, _, pl, _⟩ := I.list hq
      refine ⟨pl.isList.typeIs, fun a e => ?_⟩
      cases e
      obtain ⟨o, n, e, c, hd, _⟩ := pl
      exact ⟨o, e, hd⟩
    · refine ⟨⟨o, I.kIn p o hk, hc⟩, fun a e => ?_⟩
      cases e
      exact ⟨o, I.kIn _ o hk, hd⟩
    · have z : ∃ o, s.heap.get? p = some o /\ o.ExactDict := by
        rcases hk with ⟨kvs, hk⟩ | ⟨kvs, hk⟩
        · obtain ⟨_, _, _, _, o, _, _, e, ex, _⟩ := I.hok p _ hk
          exact ⟨o, e, ex⟩
        · obtain ⟨_, _, _, _, o, _, _, e, ex, _⟩ := I.hok p _ hk
          exact ⟨o, e, ex⟩
      obtain ⟨o, e, ex⟩ := z
      refine ⟨⟨o, e, ex.1⟩, fun a e2 => ?_⟩
      cases e2
      exact ⟨o, e, ex.2.1⟩
    · obtain ⟨o, _, _, _, e, ex, _⟩ := I.hok p _ hk
      refine ⟨⟨o, e, ex.1⟩, fun a e2 => ?_⟩
      cases e2
      exact ⟨o, e, ex.2.1⟩
  | _ => exact False.elim ty
def tBM0 (K : PySem.W.Frag) (T : String) (r : V -> List V -> Hp -> VK -> Prop) (to : TE) : TE := fun σ H Q => to σ H fun x H1 => tyV K T x H1 /\ r x [] H1 Q
def tBM (K : PySem.W.Frag) (T : String) (r : V -> List V -> Hp -> VK -> Prop) (to : TE) (t : TA) : TE := fun σ H Q => to σ H fun x H1 => tyV K T x H1 /\ t σ H1 fun xs H2 => r x xs H2 Q
variable {o e : Expr} {es : List Expr} {to : TE} {t : TA} {name : Str} {apos cpos : Pos} {T id : String} {r : V -> List V -> Hp -> VK -> Prop}
theorem B8b (pa : PlainAttrs T) (slot : Slot T name id) (hty : typeOf (.builtin id) = pure (.type "method_descriptor")) (hm : MtR X id r) (ho : PE X o to)
    (hbase : attributeBase o name X.env (eval o X.env) = eval o X.env := by rfl) (hline : (apos.endLine == cpos.line) = true := by rfl) : PE X (.Call (.Attribute o name apos) [] [] cpos) (tBM0 X.K T r to) := by
  intro pins s σ H Q I h
  refine wpAny_Call_method0_late hbase hline (thn (ho pins s σ H _ I h) fun v s1 ⟨x, H1, I1, r1, ty, q1⟩ => ?_)
  obtain ⟨h1, h2⟩ := B11 I1 r1 ty
  exact ⟨T, id, pa, slot, hty, h1, h2, Calls.callWith_builtin rfl (PySem.evalArgs_none (hm pins s1 σ H1 x [] v [] Q I1 r1 .nil q1))⟩
theorem C01 (pa : PlainAttrs T) (slot : Slot T name id) (hty : typeOf (.builtin id) = pure (.type "method_descriptor")) (hm : MtR X id r) (ho : PE X o to) (ha : PA X (e :: es) t)
    (hbase : attributeBase o name X.env (eval o X.env) = eval o X.env := by rfl)
    (hfew : ((backTo cpos (starEach (e :: es) X.env)).all (fun x => !x.1) && (backToKw cpos (keywordEach [] X.env)).all (fun x => x.1.isSome)
      && decide ((e :: es).length + ([] : List Keyword).length + (if ([] : List Keyword).isEmpty then 0 else 1) < 30)) = true := by rfl)
    (hline : (apos.endLine == cpos.line) = true := by rfl) (hs : starEach (e :: es) X.env = (false, eval e X.env) :: starEach es X.env := by rfl) (hplain : (backTo cpos (starEach es X.env)).any (·.1) = false := by rfl) :
    PE X (.Call (.Attribute o name apos) (e :: es) [] cpos) (tBM X.K T r to t) := by
  intro pins s σ H Q I h
  refine wpAny_Call_method_late hbase hfew hline rfl (thn (ho pins s σ H _ I h) fun v s1 ⟨x, H1, I1, r1, ty, q1⟩ => ?_)
  obtain ⟨h1, h2⟩ := B11 I1 r1 ty
  refine ⟨T, id, pa, slot, hty, h1, h2, ?_⟩
  have hA := ha cpos pins s1 σ H1 _ I1 q1
  rw [hs] at hA ⊢
  refine Calls.callWith_builtin (by show (false || (backTo cpos (starEach es X.env)).any (·.1)) = false; rw [hplain] <;> rfl) (Calls.evalArgs_plain ?_)
  exact thn hA fun us s2 ⟨vs, H2, I2, r2, q2⟩ => hm pins s2 σ H2 x vs v us Q I2 r1 r2 q2
end
end L2
namespace L2
open PySem PySem.Spec PyProof.Rows
def MtM (X : Cx) (id : String) (r : V -> List V -> Hp -> VK -> Prop) : Prop :=
  ∀ (pins : List (Addr × Obj)) (s : Shared) (σ : St) (H : Hp) (x : V) (xs : List V) (v : Value) (us : List Value) (Q : VK), Inv X pins σ H s -> RelV x v -> Vals xs us -> r x xs H Q ->
    wpAny (model X.prog X.w) X.A (call (.builtin id) (v :: us)) (EP X pins σ Q) X.xe s
theorem Vals.one : ∀ {x : V} {us : List Value}, Vals [x] us -> ∃ u, us = [u] /\ RelV x u
  | _, _, .cons r .nil => ⟨_, rfl, r⟩
theorem Vals.two : ∀ {x y : V} {us : List Value}, Vals [x, y] us -> ∃ u v, us = [u, v] /\ RelV x u /\ RelV y v
  | _, _, _, .cons r (.cons q .nil) => ⟨_, _, rfl, r, q⟩
theorem Vals.zero : ∀ {us : List Value}, Vals [] us -> us = []
  | _, .nil => rfl
theorem Vals.dropLast {xs : List V} {us : List Value} (h : Vals xs us) : Vals xs.dropLast us.dropLast := by
  induction h with
  | nil => exact .nil
  | cons r t ih =>
    cases t with
    | nil => exact .nil
    | cons q t' => exact .cons r ih
theorem Vals.eraseIdx : ∀ {xs : List V} {us : List Value} (i : Nat), Vals xs us -> Vals (xs.eraseIdx i) (us.eraseIdx i)
  | _, _, _, .nil => .nil
  | _, _, 0, .cons _ t => t
  | _, _, i + 1, .cons r t => .cons r (Vals.eraseIdx i t)
theorem Vals.reverse {xs : List V} {us : List Value} (h : Vals xs us) : Vals xs.reverse us.reverse := by
  induction h with
  | nil => exact .nil
  | cons r t ih => rw [List.reverse_cons, List.reverse_cons]; exact Vals.append ih (.cons r .nil)
theorem Vals.rep {xs : List V} {us : List Value} (h : Vals xs us) : ∀ k : Nat, Vals (List.replicate k xs).flatten (List.replicate k us).flatten
  | 0 => .nil
  | k + 1 => by
    rw [List.replicate_succ, List.replicate_succ, List.flatten_cons, List.flatten_cons]
    exact Vals.append h (Vals.rep h k)
theorem A5b {α : Type} (l : List α) : l.eraseIdx (l.length - 1) = l.dropLast := by
  induction l with
  | nil => rfl
  | cons a r ih =>
    cases r with
    | nil => rfl
    | cons b r =>
      have e : (a :: b :: r).length - 1 = ((b :: r).length - 1) + 1 := by
        have h1 : (a :: b :: r).length = r.length + 2 := rfl
        have h2 : (b :: r).length = r.length + 1 := rfl
        omega
      rw [e, List.eraseIdx_cons_succ, ih]
      all_goals rfl
theorem A00 {α : Type} : ∀ (l : List α) (i : Nat), (l.eraseIdx i).length <= l.length
  | [], _ => Nat.le_refl _
  | _ :: _, 0 => Nat.le_succ _
  | _ :: r, i + 1 => Nat.succ_le_succ (A00 r i)
section
variable {X : Cx} {pins : List (Addr × Obj)} {σ : St} {H : Hp} {s : Shared} {l b : Addr} {xs ys zs : List V}
theorem Inv.lset {its its' : List Value} {n : Nat} {f : Array Value -> Array Value} {t' : Nat} (I : Inv X pins σ H s) (hH : H l = some (.lst xs))
    (e : s.heap.get? l = some { cls := .type "list", data := .seq its.toArray n }) (hf : f its.toArray = its'.toArray) (hv : Vals ys its') (hz : ys.length <= sizeLine) :
    Inv X pins σ (upd H l (.lst ys)) { s with heap := s.heap.update l (Obj.mapSeq f), toks := t' } := by
  have q := PySem.IsL.update e f
  rw [hf] at q
  refine I.write (x := l) (e := l) (by rw [hH]; exact trivial) (.inl rfl) (fun b' u hb hu => (Heap.get?_update_other s.heap (Obj.mapSeq f) (Ne.symm hb)).trans hu) ⟨_, q⟩ ?_
  exact ⟨hz, its', _, hv, q⟩
theorem Inv.lnew {its : List Value} {t' : Nat} (I : Inv X pins σ H s) (hv : Vals ys its) (hz : ys.length <= sizeLine) :
    Inv X pins σ (upd H s.heap.objs.size (.lst ys)) { s with heap := s.heap.push { cls := .type "list", data := .seq its.toArray }, toks := t' } :=
  I.laid (fun _ _ q => Heap.get?_push_of_some _ q) (Nat.le_refl _) ⟨hz, its, 0, hv, Heap.get?_push_size _ rfl⟩
theorem Inv.fresh (I : Inv X pins σ H s) : H s.heap.objs.size = none := I.hok.fresh (Nat.le_refl _)
theorem Inv.lstM (I : Inv X pins σ H s) (hH : H l = some (.lst xs)) : xs.length <= sizeLine /\ ∃ (its : List Value) (n : Nat), Vals xs its /\ xs.length = its.length /\ s.heap.get? l = some { cls := .type "list", data := .seq its.toArray n } := by
  obtain ⟨z, its, n, r, e⟩ := I.hok l _ hH
  exact ⟨z, its, n, r, r.length, e⟩
end
section
variable {X : Cx}
def A5y : V -> List V -> Hp -> VK -> Prop := fun x vs H Q => ∃ l xs y, x = .ref l /\ vs = [y] /\ H l = some (.lst xs) /\ xs.length < sizeLine /\ Q .non (upd H l (.lst (xs ++ [y])))
theorem F4 : MtM X "list.append" A5y := by
  intro pins s σ H x vs v us Q I rx rv h
  obtain ⟨l, xs, y, rfl, rfl, hH, hz, q⟩ := h
  cases rx
  obtain ⟨u, rfl, ru⟩ := rv.one
  obtain ⟨z, its, n, r, hl, e⟩ := I.lstM hH
  refine call_meets F.slot_list_append ⟨_, e, rfl⟩ F.entry_list_append (F.args_list_append_2 _ _) (PySem.list_append l its.toArray n u (by rw [List.size_toArray]; omega)) ⟨e, ?_⟩
  refine ⟨.non, _, I.lset (its' := its ++ [u]) hH e (by simp) (r.append (.cons ru .nil)) ?_, rfl, q⟩
  rw [List.length_append, List.length_singleton]
  omega
def rPop : V -> List V -> Hp -> VK -> Prop := fun x vs H Q => ∃ l xs y, x = .ref l /\ vs = [] /\ H l = some (.lst xs) /\ xs[xs.length - 1]? = some y /\ Q y (upd H l (.lst xs.dropLast))
theorem C1k : MtM X "list.pop" rPop := by
  intro pins s σ H x vs v us Q I rx rv h
  obtain ⟨l, xs, y, rfl, rfl, hH, hy, q⟩ := h
  cases rx
  have hus := rv.zero
  subst hus
  obtain ⟨z, its, n, r, hl, e⟩ := I.lstM hH
  obtain ⟨u, hu, ru⟩ := r.get hy
  have hy' : its.toArray[its.toArray.size - 1]? = some u := by
    show its.toArray[its.length - 1]? = some u
    rw [<- Array.getElem?_toList, <- hl]
    exact hu
  refine call_meets F.slot_list_pop ⟨_, e, rfl⟩ F.entry_list_pop (F.args_list_pop_1 _) (MeetsSeq.list_pop_last l its.toArray n u hy' (by rw [List.size_toArray]; omega)) ⟨e, ?_⟩
  refine ⟨y, _, I.lset (its' := its.dropLast) hH e ?_ r.dropLast ?_, ru, q⟩
  · show its.toArray.eraseIdxIfInBounds (its.toArray.size - 1) = its.dropLast.toArray
    rw [List.size_toArray, List.eraseIdxIfInBounds_toArray, A5b]
  · rw [List.length_dropLast]
    omega
def A5x : V -> List V -> Hp -> VK -> Prop := fun x vs H Q => ∃ l xs i k y, x = .ref l /\ vs = [.int i] /\ H l = some (.lst xs) /\ -(2 ^ 63) <= i /\ i < 2 ^ 63 /\ seqIndex? i xs.length = some k /\ xs[k]? = some y /\ Q y (upd H l (.lst (xs.eraseIdx k)))
theorem A3o : MtM X "list.pop" A5x := by
  intro pins s σ H x vs v us Q I rx rv h
  obtain ⟨l, xs, i, k, y, rfl, rfl, hH, h1, h2, hk, hy, q⟩ := h
  cases rx
  obtain ⟨u, rfl, ru⟩ := rv.one
  obtain ⟨t, rfl⟩ := ru
  obtain ⟨z, its, n, r, hl, e⟩ := I.lstM hH
  obtain ⟨w, hw, rw'⟩ := r.get hy
  refine call_meets F.slot_list_pop ⟨_, e, rfl⟩ F.entry_list_pop (F.args_list_pop_2 _ _)
    (MeetsSeq.list_pop_at l its.toArray n i t k w (fitsIndex_both h1 h2) (by rw [List.size_toArray, <- hl]; exact hk) (by rw [<- Array.getElem?_toList]; exact hw) (by rw [List.size_toArray]; omega)) ⟨e, ?_⟩
  refine ⟨y, _, I.lset (its' := its.eraseIdx k) hH e ?_ (r.eraseIdx k) ?_, rw', q⟩
  · show its.toArray.eraseIdxIfInBounds k = (its.eraseIdx k).toArray
    rw [List.eraseIdxIfInBounds_toArray]
  · have := A00 xs k
    omega
def B18 : V -> List V -> Hp -> VK -> Prop := fun x vs H Q => ∃ l xs, x = .ref l /\ vs = [] /\ H l = some (.lst xs) /\ Q .non (upd H l (.lst []))
theorem B1g : MtM X "list.clear" B18 := by
  intro pins s σ H x vs v us Q I rx rv h
  obtain ⟨l, xs, rfl, rfl, hH, q⟩ := h
  cases rx
  have hus := rv.zero
  subst hus
  obtain ⟨z, its, n, r, hl, e⟩ := I.lstM hH
  refine call_meets F.slot_list_clear ⟨_, e, rfl⟩ F.entry_list_clear (F.args_list_clear_1 _) (AutoSeq1.list_clear_list_0 l its.toArray n (by rw [List.size_toArray]; omega)) ⟨e, ?_⟩
  exact ⟨.non, _, I.lset (its' := []) (ys := []) hH e rfl .nil (Nat.zero_le _), rfl, q⟩
end
section
variable {prog : Program} {w : World} {A : Around} {E : Value -> Shared -> Prop} {s : Shared}
end
section
variable {X : Cx}
end
end L2
namespace Att
open PySem PySem.W PySem.Calls PyProof.Rows
theorem U3 {P : Params} {h : Heap} : ∀ (ns : List Int) (vs : List Value), WellAll P h vs (ns.map WData.int) -> IntsAre vs ns := by
  intro ns
  induction ns with
  | nil =>
    intro vs w
    rw [List.map_nil] at w
    cases w
    exact .nil
  | cons n ns ih =>
    intro vs w
    rw [List.map_cons] at w
    cases w with
    | cons a b =>
      cases a
      exact .cons _ _ (ih _ b)
theorem A5w {l : OpenLaw} {n : Nat} (hn : l.most = some n) {P : Params} {h : Heap} {args : List WData} {vals : List Value}
    (hpre : l.row.toRowW.claim.pre args = true) (hwl : WellAll P h vals args) :
    ∃ a vs ns, vals = [Value.ref a] /\ args = [WData.list (ns.map WData.int)] /\ h.get? a = some { cls := .type "list", data := .seq vs.toArray } /\ IntsAre vs ns /\ ns.length <= n := by
  have hsh : WShape.hasAll [] args [.list .int] = true := (pre_splitW hpre).1
  have hc : l.pre.holds [] { args := args } = true := (pre_splitW hpre).2
  obtain ⟨d, r, rfl, h1, h2⟩ := hasAllW_cons hsh
  obtain rfl := hasAllW_nil h2
  obtain ⟨xs, rfl, h3⟩ := hasW_list h1
  obtain ⟨ns, rfl⟩ := items_int h3
  have hlen : ns.length <= n := by
    unfold OpenLaw.pre at hc
    have h4 : (WTm.not (.lt (.lit (.int (n : Int))) (.len (.arg 0)))).holds [] { args := [.list (ns.map .int)] } = true := by
      have h4 := (holds_andW hc).1
      rw [hn] at h4
      exact h4
    have h5 := condW_of h4 (w_not (w_lt w_lit (w_len_list (w_arg rfl))))
    rw [List.length_map] at h5
    refine Nat.le_of_not_lt fun q => ?_
    have q' : (n : Int) < ((ns.length : Nat) : Int) := by omega
    first
      | (rw [decide_eq_true q'] at h5; exact absurd h5 (by decide))
      | (simp at h5; omega)
  cases hwl with
  | cons w1 w2 =>
    cases w2
    cases w1 with
    | list ho hall => exact ⟨_, _, ns, rfl, rfl, ho, U3 ns _ hall, hlen⟩
theorem A6e (l : OpenLaw) (args : List WData) : l.row.toRowW.claim.post args (.bool true) args = true :=
  postW_of (r := l.row.toRowW) (X := (true == true))
    (show WShape.has [] (.bool true) .bool = true by first | rfl | decide | simp [WShape.has, WShape.arms, WShape.armsAll])
    (show (WTm.eq .res (.lit (.bool true))).value [] { args := args, res := some (.bool true), after := args } = some (.bool (true == true)) from w_eq_bool (w_res rfl) w_lit) rfl
theorem attach_call {l : OpenLaw} {n : Nat} {q : Program} {loose : List Str} {XP : (Str -> Option Value) -> Heap -> Prop} {YP : World -> Heap -> Prop} {d : DefRec}
    (hn : l.most = some n) (hdf : d.params.defaults = [])
    (call : ∀ (w : World) (s₀ s₁ : Shared) (mg mb : Str -> Option Value) (fa : Addr) (o : Obj) (pm cd doc : Value) (a : Addr) (vs : List Value) (ns : List Int),
      Ground q loose [] XP w s₀ mg mb s₁.heap -> YP w s₁.heap ->
      s₁.heap.get? fa = some o -> o.data = .func (docDef d.name d.params d.body d.scope pm cd doc) -> s₁.heap.CodeRec cd d.name -> mg d.name = some (.ref fa) ->
      s₁.heap.get? a = some { cls := .type "list", data := .seq vs.toArray } -> IntsAre vs ns -> ns.length <= n -> s₁.gens = #[] ->
      codeAny (model l.prog w) callerA (.call (.ref fa) ⟨[.ref a], []⟩) (fun r s' => r = .ok (.ret (.bool true)) /\ OldK s₁.heap s'.heap /\ s'.os = s₁.os /\ AllBare s'.gens) s₁) :
    WalkO q loose XP YP l.row.toRowW d [] (fun f vs => PySem.call f vs) := by
  intro w s₀ s₁ mg mb G Y fa o pm cd doc dV kV ho hd hcd hD hmg hg args vals as hpre hlay hrd hwl hlo
  obtain rfl : dV = .none := Dflts.none hD hdf
  obtain rfl : kV = .none := Dflts.noKw hD
  obtain ⟨a, vs, ns, rfl, rfl, hobj, hints, hlen⟩ := A5w hn hpre hwl
  refine enter_call (codeAny_mono (call w s₀ s₁ mg mb fa o pm cd doc a vs ns G Y ho (fd_plain hd) hcd hmg hobj hints hlen hg) fun r s' hq => ?_)
  obtain ⟨rfl, h2, h3, h4⟩ := hq
  exact ⟨.inl ⟨.bool true, .bool true, [], rfl, fun _ => rfl, .bool true, A6e l _, fun _ => ⟨List.Pairwise.nil, fun _ hm => (nomatch hm)⟩⟩, h2, h3, h4⟩
section
variable {prog : Program} {w : World} {A : Around} {E : Value -> Shared -> Prop} {s : Shared} {K : Frag}
def C1l (h : Heap) (L d : Addr) : List (Addr × Obj) := (List.range h.objs.size).filterMap fun a => if a = L \/ a = d then none else (h.get? a).map fun o => (a, o)
end
end Att
namespace L2
open PySem PySem.Spec PyProof.Rows
theorem A0b : ∀ {vs : List Value} {ns : List Int}, IntsAre vs ns -> Vals (ns.map V.int) vs
  | _, _, .nil => .nil
  | _, _, .cons n t h => .cons ⟨t, rfl⟩ (A0b h)
def Only (H : Hp) : Prop := ∀ b, H b = none \/ ∃ o xs, H b = some (.frz o (.lst xs))
theorem B1i {P : Program} {w : World} {K : PySem.W.Frag} {mg mb : Str -> Option Value} {CX : CXT} {k : Nat} {fa a : Addr} {fd : FuncData} {x : Str} {sp : Sp} {s₁ : Shared} {vs : List Value} {ns : List Int}
    (KX : K.In s₁.heap) (hns : s₁.heap.Ns mainGlobals mg) (hb : s₁.heap.Ns builtinsNs mb) (hbb : ∀ x : Str, x ≠ "__name__" -> mb x = bootBuiltins x) (hlim : s₁.heap.NoLimit) (hg : s₁.gens = #[])
    (ha : s₁.heap.get? a = some { cls := .type "list", data := .seq vs.toArray }) (hi : IntsAre vs ns) (hl : ns.length <= sizeLine) (hr : Room k callerA)
    (F : ∀ base : Heap, K.In base -> base.Ns mainGlobals mg -> FnOk P w K mg base CX k fa fd [x] sp) (hbind : ∀ (s : Shared) (u : Value), BindsTo s fd ⟨[u], []⟩ [(x, u)])
    (hsp : ∀ H : Hp, Only H -> SqL K H a (ns.map V.int) -> sp [.ref a] H (fun v _ => v = .bl true) fun _ _ _ => False)
    (hCX : ∀ H e s', CX [] H s₁ (fun _ _ _ => False) e s' -> False) :
    codeAny (model P w) callerA (.call (.ref fa) ⟨[.ref a], []⟩) (fun r s' => r = .ok (.ret (.bool true)) /\ OldK s₁.heap s'.heap /\ s'.os = s₁.os /\ AllBare s'.gens) s₁ := by
  have rv := A0b hi
  have lenV := hi.length
  have core : ∀ H : Hp, Only H -> SqL K H a (ns.map V.int) -> HOk P w H s₁.heap -> (∀ b, H b ≠ none -> b = a) -> (H a ≠ none -> K.lookup a = none) ->
      codeAny (model P w) callerA (.call (.ref fa) ⟨[.ref a], []⟩) (fun r s' => r = .ok (.ret (.bool true)) /\ OldK s₁.heap s'.heap /\ s'.os = s₁.os /\ AllBare s'.gens) s₁ := by
    intro H hO hS hok hA hK
    have base_of : ∀ {b : Addr} {o : Obj}, s₁.heap.get? b = some o -> H b = none -> (hidT s₁.heap H).get? b = some o := fun e n => B1k e n
    have noA : ∀ {b : Addr} {o : Obj} {es : Array DictEntry} {ep : Nat}, s₁.heap.get? b = some o -> o.data = .dict es ep -> H b = none := fun {b o es ep} e d => by
      cases q : H b with
      | none => rfl
      | some u =>
        have e' : b = a := hA b (by rw [q]; simp)
        subst e'
        rw [ha] at e; cases e
        have d' : Data.seq vs.toArray _ = Data.dict es ep := d
        cases d'
    have nsK : ∀ {b : Addr} {m : Str -> Option Value}, s₁.heap.Ns b m -> (hidT s₁.heap H).Ns b m := fun {b m} ⟨o, es, ep, e, d, r⟩ => ⟨o, es, ep, base_of e (noA e d), d, r⟩
    have hKb : K.In (hidT s₁.heap H) := fun b o e => base_of (KX b o e) (by
      cases q : H b with
      | none => rfl
      | some u =>
        have e' : b = a := hA b (by rw [q]; simp)
        subst e'
        rw [hK (by rw [q]; simp)] at e; cases e)
    have hM : Mod K mg (hidT s₁.heap H) := ⟨hKb, nsK hns, ⟨mb, nsK hb, hbb⟩, let ⟨mc, h1, h2⟩ := hlim; ⟨mc, nsK h1, h2⟩⟩
    have e0 : Env0 P w K mg (hidT s₁.heap H) callerA [] s₁ H := ⟨rfl, hM, fun b o e => B6d e, Nat.le_of_eq (A9m _ _), trivial, fun b hb => absurd (show b ∈ ([] : List Addr) from hb) (by simp), hok, .of_eq hg⟩
    refine codeAny_mono ((F _ hKb (nsK hns)).run callerA [] s₁ H ⟨[.ref a], []⟩ [.ref a] [.ref a] _ _ hr e0 (hbind s₁ (.ref a)) (.cons rfl .nil) (hsp H hO hS)) fun r s' h => ?_
    cases r with
    | error e => exact (hCX H e s' h).elim
    | ok fl =>
      cases fl with
      | next => exact False.elim h
      | brk => exact False.elim h
      | cont => exact False.elim h
      | ret u =>
        obtain ⟨v, H', os, bare, un, hok', r', q⟩ := h
        have q' : v = .bl true := q
        subst q'
        obtain rfl : u = Value.bool true := r'
        refine ⟨rfl, OldK.of_keep fun b o e => ?_, os, bare⟩
        cases q : H b with
        | none => exact un.keep b o e q (by intro z; exact absurd (show b ∈ ([] : List Addr) from z) (by simp)) (by simp)
        | some u =>
          rcases hO b with z | ⟨ob, xs, z⟩
          · rw [q] at z; cases z
          · have z2 := un.frzs b ob _ z
            obtain ⟨e1, _⟩ := hok b _ z
            obtain ⟨e2, _⟩ := hok' b _ z2
            rw [e] at e1; cases e1
            exact e2
  cases hk : K.lookup a with
  | some o =>
    have e := KX a o hk
    rw [ha] at e
    cases e
    refine core (fun _ => none) (fun _ => .inl rfl) (.inr ⟨_, vs.toArray, _, hk, rfl, rfl, rfl, by rw [List.size_toArray, lenV]; exact hl, by simpa using rv⟩) (fun b u z => by have z' : (none : Option HO) = some u := z; cases z') (fun b z => absurd rfl z) fun z => absurd rfl z
  | none =>
    refine core (fun b => if b = a then some (.frz { cls := .type "list", data := .seq vs.toArray } (.lst (ns.map V.int))) else none) (fun b => ?_) (.inl (.inr ⟨{ cls := .type "list", data := .seq vs.toArray }, if_pos rfl⟩)) (fun b u z => ?_) (fun b z => ?_) fun _ => hk
    · by_cases hb : b = a
      · exact .inr ⟨_, _, if_pos hb⟩
      · exact .inl (if_neg hb)
    · by_cases hb : b = a
      · have z' := (if_pos hb).symm.trans z
        cases z'
        subst hb
        exact ⟨ha, by rw [List.length_map]; exact hl, vs, _, rv, ha⟩
      · have z' := (if_neg hb).symm.trans z
        cases z'
    · by_cases hb : b = a
      · exact hb
      · exact absurd (if_neg hb) z
end L2
namespace L2
open PySem PySem.Spec PyProof.Rows
abbrev KOf {K : PySem.W.Frag} {h : Heap} (_ : K.In h) : PySem.W.Frag := K
theorem B4q {l : PySem.W.OpenLaw} {n k : Nat} {q : Program} {loose : List Str} {XP : (Str -> Option Value) -> Heap -> Prop} {YP : World -> Heap -> Prop} {d : DefRec} {K : Params -> PySem.W.Frag} {CX : World -> CXT} {sp : World -> Sp} {x : Str}
    (hn : l.most = some n) (hn2 : n <= sizeLine) (hdf : d.params.defaults = []) (hr : Room k callerA)
    (hY : ∀ (w : World) (h : Heap), YP w h -> (K w.params).In h)
    (F : ∀ (w : World) (mg : Str -> Option Value) (fa : Addr) (h : Heap), (K w.params).In h -> h.Ns mainGlobals mg -> mg d.name = some (.ref fa) ->
      ∃ fd : FuncData, (∀ (s : Shared) (u : Value), BindsTo s fd ⟨[u], []⟩ [(x, u)]) /\
        ∀ base : Heap, (K w.params).In base -> base.Ns mainGlobals mg -> FnOk l.prog w (K w.params) mg base (CX w) k fa fd [x] (sp w))
    (hsp : ∀ (w : World) (H : Hp) (a : Addr) (ns : List Int), ns.length <= n -> Only H -> SqL (K w.params) H a (ns.map V.int) -> sp w [.ref a] H (fun v _ => v = .bl true) fun _ _ _ => False)
    (hCX : ∀ (w : World) (H : Hp) (s : Shared) (e : Value) (s' : Shared), CX w [] H s (fun _ _ _ => False) e s' -> False) :
    PySem.W.WalkO q loose XP YP l.row.toRowW d [] (fun f vs => PySem.call f vs) := by
  refine Att.attach_call hn hdf fun w s₀ s₁ mg mb fa o pm cd doc a vs ns G Y ho hd hcd hmg hobj hints hlen hg => ?_
  have KX := hY w _ Y
  obtain ⟨fd, hb, hF⟩ := F w mg fa _ KX G.T.g hmg
  exact B1i KX G.T.g G.T.b G.T.builtins G.T.nolimit hg hobj hints (Nat.le_trans hlen hn2) hr hF hb (fun H hO hS => hsp w H a ns hlen hO hS) fun H e s' => hCX w H s₁ e s'
end L2
namespace L2
open PySem PySem.Spec PyProof.Rows
abbrev CX0 : CXT := fun _ _ _ _ _ _ => False
abbrev E0 : XK := fun _ _ _ => False
theorem B5 {X : Cx} : A4q CX0 X E0 := fun _ _ _ _ _ _ _ h => h.elim
structure Fun (K : PySem.W.Frag) (x qual : Str) (st : Stmt) (f : Addr) (fd : FuncData) : Prop where
  ex : ∃ (oc : Value) (od : Option Addr) (kV doc pm : Value) (an : Option Addr) (cdv ct : Value) (osl : Array (Option Value)),
    fd = PySem.W.fnOf x qual (A8 st) (A7 st) (A3 st) .none kV doc pm an cdv ct /\ K.lookup f = some ⟨oc, od, .func fd, osl⟩ /\ PySem.W.codeIn K cdv qual = true
  kp : PySem.W.keepIn K (.ref f) = true
section
variable {P : Program} {w : World} {K : PySem.W.Frag} {mg : Str -> Option Value} {base : Heap}
theorem Fun.ok {x qual : Str} {st : Stmt} {f : Addr} {fd : FuncData} {N ps : List Str} {k : Nat} {sp : Sp} (F : Fun K x qual st f fd) (S : FnScope N ps (A3 st)) (len : ∀ vs H Q E, sp vs H Q E -> vs.length = ps.length)
    (hbody : ∀ (cdv : Value) (A : Around) (outer : List Env) (s : Shared) (H : Hp) (vs : List V) (Q : VK) (E : XK), Room k (A.deeper (envOfC qual (A3 st) s.heap.objs.size f cdv)) -> sp vs H Q E ->
      ∃ t, PSs (cxOf CX0 P w K mg base N qual (A3 st) f cdv A outer s H E).nox (A7 st) t /\ t { nx := fun _ H' => Q .non H', rt := Q } (R7 N vs) H) : FnOk P w K mg base CX0 (k + 1) f fd ps sp := by
  obtain ⟨oc, od, kV, doc, pm, an, cdv, ct, osl, rfl, lk, hcd⟩ := F.ex
  refine C1f lk hcd S len fun A outer s H vs Q E hr hsp => ?_
  obtain ⟨t, h, q⟩ := hbody cdv A outer s H vs Q E hr hsp
  exact ⟨t, h.nox, q⟩
theorem Fun.binds {x qual : Str} {st : Stmt} {f : Addr} {fd : FuncData} {ps : List Str} (F : Fun K x qual st f fd)
    (h : ∀ (kV doc pm : Value) (an : Option Addr) (cdv ct : Value) (us : List Value), us.length = ps.length -> bindArgs (PySem.W.fnOf x qual (A8 st) (A7 st) (A3 st) .none kV doc pm an cdv ct) ⟨us, []⟩ = pure (ps.zip us)) : Binds K fd ps [] := by
  obtain ⟨oc, od, kV, doc, pm, an, cdv, ct, osl, rfl, lk, hcd⟩ := F.ex
  exact .all (h kV doc pm an cdv ct)
theorem C8 {x qual : Str} {st : Stmt} {f : Addr} {oc : Value} {od an : Option Addr} {osl : Array (Option Value)} {kV doc pm cdv ct : Value} (l : K.lookup f = some ⟨oc, od, .func (PySem.W.fnOf x qual (A8 st) (A7 st) (A3 st) .none kV doc pm an cdv ct), osl⟩)
    (c : PySem.W.codeIn K cdv qual = true) (k : PySem.W.keepIn K (.ref f) = true) : Fun K x qual st f (PySem.W.fnOf x qual (A8 st) (A7 st) (A3 st) .none kV doc pm an cdv ct) := ⟨⟨oc, od, kV, doc, pm, an, cdv, ct, osl, rfl, l, c⟩, k⟩
end
theorem A0f {n : Nat} (h : n <= 1000) : n < sizeLine := Nat.lt_of_le_of_lt h (by decide)
section
variable {X : Cx}
theorem pv (i : Nat) {x : Str} {pos : Pos} (hN : X.N[i]? = some x := by rfl) (hv : Vis X.env.scope x := by first | exact Or.inl rfl | exact Or.inr (Or.inl rfl) | exact Or.inr (Or.inr rfl)) (hd : (x == ("__debug__" : Str)) = false := by decide)
    (hcd : (x == ("__classdict__" : Str)) = false := by decide) : PE X (.Name x pos) (tVar i) := B75 hN hv hd hcd
end
theorem iteF {A B : Prop} (h : B) : if false = true then A else B := by
  rw [if_neg Bool.false_ne_true]
  exact h
theorem iteT {A B : Prop} (h : A) : if true = true then A else B := by
  rw [if_pos rfl]
  exact h
theorem ite2 {c A B : Prop} [Decidable c] (h1 : c -> A) (h2 : ¬ c -> B) : if c then A else B := by
  by_cases h : c
  · rw [if_pos h]
    exact h1 h
  · rw [if_neg h]
    exact h2 h
def Same (H H' : Hp) : Prop := ∀ b o, H b = some o -> H' b = some o
theorem Same.refl (H : Hp) : Same H H := fun _ _ h => h
theorem Same.trans {H H1 H2 : Hp} (a : Same H H1) (b : Same H1 H2) : Same H H2 := fun c o h => b c o (a c o h)
theorem Same.seq {K : PySem.W.Frag} {H H' : Hp} {a : Addr} {xs : List V} (e : Same H H') (h : SqL K H a xs) : SqL K H' a xs := by
  rcases h with (h | ⟨o, h⟩) | h
  · exact .inl (.inl (e _ _ h))
  · exact .inl (.inr ⟨o, e _ _ h⟩)
  · exact .inr h
end L2
namespace My
def Sm (k : Nat) (x : Int) : Prop := x.natAbs < 2 ^ k
theorem Sm.mono {k l : Nat} {x : Int} (h : Sm k x) (e : k <= l) : Sm l x := Nat.lt_of_lt_of_le h (Nat.pow_le_pow_right (by decide) e)
theorem Sm.mul {k l : Nat} {x y : Int} (h : Sm k x) (g : Sm l y) : Sm (k + l) (x * y) := by
  unfold Sm at *
  rw [Int.natAbs_mul, Nat.pow_add]
  rcases Nat.eq_zero_or_pos y.natAbs with e | e
  · rw [e, Nat.mul_zero]; exact Nat.mul_pos (Nat.two_pow_pos _) (Nat.two_pow_pos _)
  · exact Nat.lt_of_lt_of_le (Nat.mul_lt_mul_of_pos_right h e) (Nat.mul_le_mul_left _ (Nat.le_of_lt g))
theorem Sm.add {k : Nat} {x y : Int} (h : Sm k x) (g : Sm k y) : Sm (k + 1) (x + y) := by
  unfold Sm at *
  rw [Nat.pow_succ]
  have := Int.natAbs_add_le x y
  omega
theorem Sm.neg {k : Nat} {x : Int} (h : Sm k x) : Sm k (-x) := by
  unfold Sm at *
  rw [Int.natAbs_neg]; exact h
theorem Sm.sub {k : Nat} {x y : Int} (h : Sm k x) (g : Sm k y) : Sm (k + 1) (x - y) := by
  rw [Int.sub_eq_add_neg]; exact h.add g.neg
theorem Sm.le {k : Nat} {x y : Int} (h : Sm k x) (g : y.natAbs <= x.natAbs) : Sm k y := Nat.lt_of_le_of_lt g h
theorem Sm.log {k : Nat} {x : Int} (h : Sm k x) (hk : 0 < k) : x.natAbs.log2 < k := by
  by_cases h0 : x.natAbs = 0
  · rw [h0]; exact hk
  · exact (Nat.log2_lt h0).mpr h
theorem A9p (a b : Int) : Int.gcd b (a % b) = Int.gcd a b := by
  have h : a % b = a + b * (-(a / b)) := by
    have := Int.emod_def a b
    rw [this, Int.mul_neg]; omega
  rw [h, Int.gcd_add_mul_left_right, Int.gcd_comm]
theorem B6n (a b : Int) : Int.gcd (if a < 0 then -a else a) (if b < 0 then -b else b) = Int.gcd a b := by
  unfold Int.gcd
  congr 1
  · split <;> omega
  · split <;> omega
theorem A36 (a : Int) (h : 0 <= a) : ((Int.gcd a 0 : Nat) : Int) = a := by
  rw [Int.gcd_zero_right]; omega
def sh (t b : Int) : Int := if b < 0 then -((Int.gcd t b : Nat) : Int) else ((Int.gcd t b : Nat) : Int)
theorem B7f {t b : Int} (h : b ≠ 0) : sh t b ≠ 0 := by
  have : Int.gcd t b ≠ 0 := fun e => h (Int.gcd_eq_zero_iff.mp e).2
  unfold sh; split <;> omega
theorem B7g (t b : Int) : (sh t b).natAbs = Int.gcd t b := by
  unfold sh; split <;> omega
theorem A2r (t b : Int) : sh t b ∣ t := by
  unfold sh; split
  · exact Int.neg_dvd.mpr (Int.gcd_dvd_left ..)
  · exact Int.gcd_dvd_left ..
theorem B0u (t b : Int) : sh t b ∣ b := by
  unfold sh; split
  · exact Int.neg_dvd.mpr (Int.gcd_dvd_right ..)
  · exact Int.gcd_dvd_right ..
theorem A8g {t b : Int} (h : b ≠ 0) : t.fdiv (sh t b) = (Rat.divInt t b).num := by
  rw [Int.fdiv_eq_ediv_of_dvd (A2r t b), Rat.num_divInt, Int.gcd_comm b t]
  unfold sh
  split
  · rename_i h1
    rw [Int.sign_eq_neg_one_of_neg h1, Int.ediv_neg, Int.neg_one_mul, Int.neg_ediv_of_dvd (Int.gcd_dvd_left ..)]
  · rename_i h1
    rw [Int.sign_eq_one_of_pos (by omega), Int.one_mul]
theorem B6i {t b : Int} (h : b ≠ 0) : b.fdiv (sh t b) = ((Rat.divInt t b).den : Int) := by
  rw [Int.fdiv_eq_ediv_of_dvd (B0u t b), Rat.den_divInt, if_neg h, Int.gcd_comm b t]
  unfold sh
  split
  · rename_i h1
    rw [Int.ediv_neg, Int.natCast_ediv]
    have e : (b.natAbs : Int) = -b := by omega
    rw [e, Int.neg_ediv_of_dvd (Int.gcd_dvd_right ..)]
  · rename_i h1
    rw [Int.natCast_ediv]
    have e : (b.natAbs : Int) = b := by omega
    rw [e]
theorem B9h (t b : Int) : (Rat.divInt t b).num.natAbs <= t.natAbs := by
  by_cases h : b = 0
  · subst h; simp [Rat.divInt_zero]
  · rw [<- A8g h, Int.fdiv_eq_ediv_of_dvd (A2r t b)]
    have := Int.natAbs_ediv_le_natAbs t (sh t b)
    exact this
theorem C0c {t b : Int} (h : b ≠ 0) : (Rat.divInt t b).den <= b.natAbs := by
  rw [Rat.den_divInt, if_neg h]
  exact Nat.div_le_self _ _
def SmQ (k : Nat) (q : Rat) : Prop := Sm k q.num /\ Sm k (q.den : Int)
theorem den0 (q : Rat) : (q.den : Int) ≠ 0 := by have := q.den_nz; omega
theorem denp (q : Rat) : 0 < (q.den : Int) := by have := q.den_nz; omega
theorem den2 (p q : Rat) : (p.den : Int) * (q.den : Int) ≠ 0 := Int.mul_ne_zero (den0 p) (den0 q)
theorem B7w (p q : Rat) : Rat.divInt (p.num * q.den + q.num * p.den) ((p.den : Int) * q.den) = p + q := by
  rw [<- Rat.divInt_add_divInt _ _ (den0 p) (den0 q), Rat.num_divInt_den, Rat.num_divInt_den]
theorem B7s (p q : Rat) : Rat.divInt (p.num * q.den - q.num * p.den) ((p.den : Int) * q.den) = p - q := by
  rw [<- Rat.divInt_sub_divInt _ _ (den0 p) (den0 q), Rat.num_divInt_den, Rat.num_divInt_den]
theorem B7u (p q : Rat) : Rat.divInt (p.num * q.num) ((p.den : Int) * q.den) = p * q := by
  rw [<- Rat.divInt_mul_divInt, Rat.num_divInt_den, Rat.num_divInt_den]
theorem B7v (p q : Rat) : Rat.divInt (p.num * q.den) ((p.den : Int) * q.num) = p / q := by
  rw [Rat.div_def, Rat.inv_def, <- Rat.divInt_mul_divInt, Rat.num_divInt_den]
def W : List Rat -> Nat
  | [] => 1
  | q :: r => q.den * W r
def S : List Rat -> Rat
  | [] => 0
  | q :: r => q + S r
end My
namespace My
def SmR (n d : Nat) (q : Rat) : Prop := Sm n q.num /\ Sm d (q.den : Int)
theorem SmR.mono {n d n' d' : Nat} {q : Rat} (h : SmR n d q) (h1 : n <= n') (h2 : d <= d') : SmR n' d' q := ⟨h.1.mono h1, h.2.mono h2⟩
theorem SmR.q {n d : Nat} {q : Rat} (h : SmR n d q) (h1 : n <= 3900) (h2 : d <= 3900) : SmQ 3900 q := ⟨h.1.mono h1, h.2.mono h2⟩
theorem SmR.low {n d : Nat} {t b : Int} (h : Sm n t) (g : Sm d b) (hb : b ≠ 0) : SmR n d (Rat.divInt t b) :=
  ⟨h.le (B9h t b), g.le (by simpa using C0c hb)⟩
theorem SmR.add {a b c e : Nat} {p q : Rat} (h : SmR a b p) (g : SmR c e q) : SmR (max (a + e) (c + b) + 1) (b + e) (p + q) := by
  rw [<- B7w]
  exact SmR.low (((h.1.mul g.2).mono (Nat.le_max_left ..)).add ((g.1.mul h.2).mono (Nat.le_max_right ..))) (h.2.mul g.2) (den2 p q)
theorem SmR.sub {a b c e : Nat} {p q : Rat} (h : SmR a b p) (g : SmR c e q) : SmR (max (a + e) (c + b) + 1) (b + e) (p - q) := by
  rw [<- B7s]
  exact SmR.low (((h.1.mul g.2).mono (Nat.le_max_left ..)).sub ((g.1.mul h.2).mono (Nat.le_max_right ..))) (h.2.mul g.2) (den2 p q)
theorem SmR.mul {a b c e : Nat} {p q : Rat} (h : SmR a b p) (g : SmR c e q) : SmR (a + c) (b + e) (p * q) := by
  rw [<- B7u]
  exact SmR.low (h.1.mul g.1) (h.2.mul g.2) (den2 p q)
theorem A8e {q : Rat} (h : q ≠ 0) : q.num ≠ 0 := fun e => h (Rat.num_eq_zero.mp e)
theorem B6g {q : Rat} (h : 0 < q) : 0 < q.num := by
  have := (Rat.lt_iff 0 q).mp h
  simpa using this
theorem SmR.div {a b c e : Nat} {p q : Rat} (h : SmR a b p) (g : SmR c e q) (hq : q ≠ 0) : SmR (a + e) (b + c) (p / q) := by
  rw [<- B7v]
  exact SmR.low (h.1.mul g.2) (h.2.mul g.1) (Int.mul_ne_zero (den0 p) (A8e hq))
theorem A2w {t b : Int} (h : 0 <= t) (hb : 0 < b) : 0 <= Rat.divInt t b := (Rat.divInt_nonneg_iff_of_pos_right hb).mpr h
theorem B7t {t b : Int} (h : 0 < t) (hb : 0 < b) : 0 < Rat.divInt t b := by
  refine Rat.lt_of_le_of_ne (A2w (by omega) hb) fun e => ?_
  have h1 : Rat.divInt 0 b = Rat.divInt t b := by rw [Rat.zero_divInt]; exact e
  have := (Rat.divInt_eq_divInt_iff (by omega) (by omega)).mp h1
  have h2 : t * b = 0 := by simpa using this.symm
  rcases Int.mul_eq_zero.mp h2 with z | z <;> omega
theorem A3r (p q : Rat) : decide (p.num * q.den < q.num * p.den) = decide (p < q) := by
  rw [Bool.eq_iff_iff, decide_eq_true_iff, decide_eq_true_iff, Rat.lt_iff]
end My
namespace L2
open PySem PySem.Spec PyProof.Rows
section
variable {X : Cx}
theorem X3 {x : Int} (h : My.Sm 8000 x) : Builtin.Int.intBits x <= 2 ^ 20 := by
  have e : (2 : Nat) ^ 20 = 1048576 := by decide
  have h2 := h.log (by decide)
  unfold Builtin.Int.intBits
  split <;> omega
def B6x (i j : Int) : Prop := My.Sm 8000 i /\ My.Sm 8000 j
def C1h (_ j : Int) : Prop := j ≠ 0 /\ My.Sm 8000 j
theorem D1 : OpR X (binaryOp .Mult) (rI B6x fun i j => .int (i * j)) := opI fun _ _ _ _ _ _ _ hc q => mul_int q (.of_bits (X3 hc.1) (X3 hc.2))
theorem E7 : OpR X (binaryOp .FloorDiv) (rI C1h fun i j => .int (i.fdiv j)) := opI fun _ _ _ _ _ _ _ hc q =>
  floordiv_int hc.1 q (.inl (PyProof.noPylong_of_log2 (Nat.lt_of_lt_of_le (hc.2.log (by decide)) (by decide))))
def kitB (T c : String) : Option Bool := if (Value.type T == Value.type c) = true then some true else if PySem.W.kitMeta c = true then (fastBuiltinMro T).map (·.contains (Value.type c)) else none
theorem B1j (K : PySem.W.Frag) {T c : String} {b : Bool} (h : kitB T c = some b) : PySem.W.kitOne K (.type T) (.type c) = some b := h
def TyV (K : PySem.W.Frag) (H : Hp) (x : V) (T : String) : Prop := match x with
  | .non => T = "NoneType"
  | .bl _ => T = "bool"
  | .int _ => T = "int"
  | .str _ => T = "str"
  | .ref a => (T = "list" /\ ∃ xs, SqL K H a xs) \/ (T = "tuple" /\ ∃ xs, SqT K H a xs) \/ (T = "dict" /\ ∃ kvs, H a = some (.dK kvs))
  | _ => False
theorem A2f : CallR X (.builtin "isinstance") (fun xs H Q => ∃ x c T b, xs = [x, .ty c] /\ TyV X.K H x T /\ kitB T c = some b /\ Q (.bl b) H) := by
  intro pins s σ H xs us Q I r h
  obtain ⟨x, c, T, b, rfl, ty, e, q⟩ := h
  obtain ⟨u, v, rfl, ru, rv⟩ := Vals.two r
  cases (show v = Value.type c from rv)
  have fin : ∀ tk, EP X pins σ Q (.bool b) { s with toks := tk } := fun tk => ⟨.bl b, H, I.tok tk, rfl, q⟩
  have e' := B1j X.K e
  cases x with
  | non => cases (show T = _ from ty); cases (show u = Value.none from ru); exact PySem.W.kia_one PySem.W.kitx_none I.kIn True.intro e' (fun z => nomatch z) fin
  | bl y => cases (show T = _ from ty); cases (show u = Value.bool y from ru); exact PySem.W.kia_one PySem.W.kitx_bool I.kIn True.intro e' (fun z => nomatch z) fin
  | int i => cases (show T = _ from ty); obtain ⟨t, q'⟩ := (show ∃ t, u = Value.int i t from ru); cases q'; exact PySem.W.kia_one PySem.W.kitx_int I.kIn True.intro e' (fun z => nomatch z) fin
  | str y => cases (show T = _ from ty); obtain ⟨t, q'⟩ := (show ∃ t, u = Value.str y t from ru); cases q'; exact PySem.W.kia_one PySem.W.kitx_str I.kIn True.intro e' (fun z => nomatch z) fin
  | ref a =>
    cases (show u = Value.ref a from ru)
    rcases (show _ \/ _ \/ _ from ty) with ⟨rfl, xs, h⟩ | ⟨rfl, xs, h⟩ | ⟨rfl, kvs, h⟩
    · obtain ⟨its, _, ⟨o, n, h1, h2, _⟩, _⟩ := I.list h
      exact PySem.W.kia_one PySem.W.kitx_list I.kIn ⟨o, h1, h2⟩ e' (fun z => nomatch z) fin
    · obtain ⟨its, _, ⟨o, h1, h2, _⟩, _⟩ := I.tuple h
      exact PySem.W.kia_one PySem.W.kitx_tuple I.kIn ⟨o, h1, h2⟩ e' (fun z => nomatch z) fin
    · obtain ⟨_, _, vs, _, p⟩ := (show ObjOk X.prog X.w H s.heap a (.dK kvs) from I.hok a _ h)
      obtain ⟨o, es, ep, h1, h2, _⟩ := p
      exact PySem.W.kia_one PySem.W.kitx_dict I.kIn ⟨o, h1, h2.1⟩ e' (fun z => nomatch z) fin
  | byt _ => exact (show False from ty).elim
  | flt _ => exact (show False from ty).elim
  | ty _ => exact (show False from ty).elim
end
def encV : V -> PyData
  | .int i => .int i
  | .str x => .str x
  | _ => .none
def encK : Key -> PyData
  | .inl i => .int i
  | .inr x => .str x
def A2b (p : Key × V) : PyData × PyData := (encK p.1, encV p.2)
mutual
inductive Den (K : PySem.W.Frag) (H : Hp) : V -> PyData -> Prop
  | non : Den K H .non .none
  | bl (b : Bool) : Den K H (.bl b) (.bool b)
  | int (i : Int) : Den K H (.int i) (.int i)
  | str (x : Str) : Den K H (.str x) (.str x)
  | lst {a : Addr} {xs : List V} {ds : List PyData} : SqL K H a xs -> DenAll K H xs ds -> Den K H (.ref a) (.list ds)
  | tup {a : Addr} {xs : List V} {ds : List PyData} : SqT K H a xs -> DenAll K H xs ds -> Den K H (.ref a) (.tuple ds)
  | dct {a : Addr} {kvs : List (Key × V)} : H a = some (.dK kvs) -> Den K H (.ref a) (.dict (kvs.map A2b))
inductive DenAll (K : PySem.W.Frag) (H : Hp) : List V -> List PyData -> Prop
  | nil : DenAll K H [] []
  | cons {x : V} {xs : List V} {d : PyData} {ds : List PyData} : Den K H x d -> DenAll K H xs ds -> DenAll K H (x :: xs) (d :: ds)
end
section
variable {X : Cx} {pins : List (Addr × Obj)} {σ : St} {H : Hp} {s : Shared}
mutual
theorem Den.reads (I : Inv X pins σ H s) : ∀ {x : V} {d : PyData} {u : Value}, Den X.K H x d -> RelV x u -> d.canLay0 = true -> ∃ as, Reads s.heap u d as
  | _, _, u, .non, r, _ => by cases (show u = Value.none from r); exact ⟨_, .none⟩
  | _, _, u, .bl b, r, _ => by cases (show u = Value.bool b from r); exact ⟨_, .bool b⟩
  | _, _, u, .int i, r, _ => by obtain ⟨t, q⟩ := (show ∃ t, u = Value.int i t from r); cases q; exact ⟨_, .int i t⟩
  | _, _, u, .str x, r, _ => by obtain ⟨t, q⟩ := (show ∃ t, u = Value.str x t from r); cases q; exact ⟨_, .str x t⟩
  | _, _, u, .lst (a := a) h ds, r, cl => by
    cases (show u = Value.ref a from r)
    obtain ⟨its, rv, ⟨o, n, h1, h2, _, h3⟩, _⟩ := I.list h
    obtain ⟨as, q⟩ := DenAll.reads I ds rv cl
    exact ⟨_, .list h1 h2 h3 (by simpa using q)⟩
  | _, _, u, .tup (a := a) h ds, r, cl => by
    cases (show u = Value.ref a from r)
    obtain ⟨its, rv, ⟨o, h1, h2, n, h3⟩, _⟩ := I.tuple h
    obtain ⟨as, q⟩ := DenAll.reads I ds rv cl
    exact ⟨_, .tuple h1 h2 h3 (by simpa using q)⟩
  | _, _, _, .dct _, _, cl => absurd (show false = true from cl) Bool.false_ne_true
theorem DenAll.reads (I : Inv X pins σ H s) : ∀ {xs : List V} {ds : List PyData} {us : List Value}, DenAll X.K H xs ds -> Vals xs us -> PyData.canLayAll0 ds = true -> ∃ as, ReadsAll s.heap us ds as
  | _, _, _, .nil, .nil, _ => ⟨_, .nil⟩
  | _, d :: ds, _, .cons h t, .cons r rs, cl => by
    have cl' : (d.canLay0 && PyData.canLayAll0 ds) = true := cl
    rw [Bool.and_eq_true] at cl'
    obtain ⟨as, q⟩ := Den.reads I h r cl'.1
    obtain ⟨bs, q'⟩ := DenAll.reads I t rs cl'.2
    exact ⟨_, .cons q q'⟩
end
end
section
variable {X : Cx}
def rEqD (K : PySem.W.Frag) : R2 := fun x y H Q => ∃ dx dy, Den K H x dx /\ Den K H y dy /\ dx.canLay0 = true /\ dy.canLay0 = true /\ dx.depth <= 60 /\ Q (.bl (PyData.eqv dx dy)) H
def rNeD (K : PySem.W.Frag) : R2 := fun x y H Q => ∃ dx dy, Den K H x dx /\ Den K H y dy /\ dx.canLay0 = true /\ dy.canLay0 = true /\ dx.depth <= 60 /\ Q (.bl (!PyData.eqv dx dy)) H
theorem B89 (hu : X.A.units + 64 < cLine) : OpR X (compareOp .Eq) (rEqD X.K) := by
  intro pins s σ H x y v u Q I rx ry h
  obtain ⟨dx, dy, h1, h2, c1, c2, hd, q⟩ := h
  obtain ⟨as, r1⟩ := h1.reads I rx c1
  obtain ⟨bs, r2⟩ := h2.reads I ry c2
  exact PySem.SeqAt.compareEq_reads r1 r2 c1 c2 (by omega) ⟨.bl _, H, I, rfl, q⟩
theorem B87 (hu : X.A.units + 64 < cLine) : OpR X (compareOp .NotEq) (rNeD X.K) := by
  intro pins s σ H x y v u Q I rx ry h
  obtain ⟨dx, dy, h1, h2, c1, c2, hd, q⟩ := h
  obtain ⟨as, r1⟩ := h1.reads I rx c1
  obtain ⟨bs, r2⟩ := h2.reads I ry c2
  exact PySem.SeqAt.compareNe_reads r1 r2 c1 c2 (by omega) ⟨.bl _, H, I, rfl, q⟩
end
def Kp (p : Addr) (H H' : Hp) : Prop := ∀ b o, b ≠ p -> H b = some o -> H' b = some o
theorem Kp.upd {p : Addr} {H : Hp} {o : HO} : Kp p H (upd H p o) := fun b u n e => by rw [C7 n]; exact e
theorem Kp.trans {p : Addr} {H H1 H2 : Hp} (a : Kp p H H1) (b : Kp p H1 H2) : Kp p H H2 := fun c o n e => b c o n (a c o n e)
theorem Kp.refl {p : Addr} {H : Hp} : Kp p H H := fun _ _ _ e => e
theorem Same.kp {p : Addr} {H H' : Hp} (a : Same H H') : Kp p H H' := fun b o _ e => a b o e
theorem Same.upd {p : Addr} {H : Hp} {o : HO} (h : H p = none) : Same H (upd H p o) := fun b u e => by rw [C7 (D4 e h)]; exact e
theorem SqT.same {K : PySem.W.Frag} {H H' : Hp} {a : Addr} {xs : List V} (e : Same H H') (h : SqT K H a xs) : SqT K H' a xs := by
  rcases h with (h | ⟨o, h⟩) | h
  · exact .inl (.inl (e _ _ h))
  · exact .inl (.inr ⟨o, e _ _ h⟩)
  · exact .inr h
theorem at0 {α : Type} {x : α} {xs : List α} : atI (x :: xs) 0 = some x := M7 (j := 0) rfl
theorem at1 {α : Type} {x y : α} {xs : List α} : atI (x :: y :: xs) 1 = some y := M7 (j := 1) rfl
theorem at2 {α : Type} {x y z : α} {xs : List α} : atI (x :: y :: z :: xs) 2 = some z := M7 (j := 2) rfl
theorem at3 {α : Type} {x y z w : α} {xs : List α} : atI (x :: y :: z :: w :: xs) 3 = some w := M7 (j := 3) rfl
end L2
namespace L2
open PySem PySem.Spec PyProof.Rows
theorem A09 {prog : Program} {w : World} {A : Around} {R : Result -> Shared -> Prop} {s : Shared} {elt target iter : Expr} {ifs : List Expr} {scope : Scope} {pos : Pos} {it acc : Value} {env : Env} (I : Nat -> Shared -> Prop)
    (turn : ∀ n s, I n s -> wpAny (model prog w) A (pyNext it) (fun r s₁ => match r with
      | none => R (.ok .next) s₁
      | some v => wpAny (model prog w) A (letOwnedTupleGo target it v) (fun _ s₁' => wpAny (model prog w) A (assign target env v) (fun _ s₂ =>
          wpAny (model prog w) A (forIn ifs true fun c r => if r = true then do let ok <- isTrue c env (eval c env); pure (ForInStep.yield ok) else pure (ForInStep.yield r)) (fun ok s₃ =>
            if ok = true then wpAny (model prog w) A (eval elt env) (fun x s₄ =>
              wpAny (model prog w) A (call (.builtin "list.append") [acc, x]) (fun _ s₅ => ∃ m, m < n /\ I m s₅) (fun _ _ => False) s₄) (fun _ _ => False) s₃
            else ∃ m, m < n /\ I m s₃) (fun _ _ => False) s₂) (fun _ _ => False) s₁') (fun _ _ => False) s₁) (fun _ _ => False) s)
    (n : Nat) (h : I n s) : codeAny (model prog w) A (.compLoop (.ListComp elt [⟨target, iter, ifs, 0⟩] scope pos) 0 it acc env) R s := by
  refine codeAny_loop rfl I (fun n s hI => ?_) n h
  show wpAny _ A ((compTurn (.ListComp elt [⟨target, iter, ifs, 0⟩] scope pos) 0 it acc env).onRaise (fun x => do noteFrame x env; theTreesLotGoes x)) _ _ s
  refine wpAny_noted ?_
  rw [compTurn_list]
  refine wpAny_bind (wpAny_standAt (wpAny_bind (wpAny_mono (turn n s hI) (fun r s₁ h₁ => ?_) fun _ _ h' => h'.elim)))
  cases r with
  | none => exact wpAny_pure h₁
  | some v =>
    refine wpAny_bind (wpAny_mono h₁ (fun _ s₁' h₁' => ?_) fun _ _ h' => h'.elim)
    refine wpAny_bind (wpAny_mono h₁' (fun _ s₂ h₂ => wpAny_bind (wpAny_mono h₂ (fun ok s₃ h₃ => ?_) fun _ _ h' => h'.elim)) fun _ _ h' => h'.elim)
    cases ok with
    | false => exact wpAny_pure ⟨rfl, h₃⟩
    | true =>
      exact wpAny_bind (wpAny_bind (wpAny_mono h₃ (fun x s₄ h₄ => wpAny_bind (wpAny_mono h₄ (fun _ s₅ h₅ => wpAny_pure (wpAny_pure ⟨rfl, h₅⟩)) fun _ _ h' => h'.elim)) fun _ _ h' => h'.elim))
def PTs (X : Cx) (ifs : List Expr) (t : TT) : Prop :=
  ∀ (pins : List (Addr × Obj)) (s : Shared) (σ : St) (H : Hp) (Q : Bool -> Hp -> Prop), Inv X pins σ H s -> t σ H Q ->
    wpAny (model X.prog X.w) X.A (forIn ifs true fun c r => if r = true then do let ok <- isTrue c X.env (eval c X.env); pure (ForInStep.yield ok) else pure (ForInStep.yield r)) (TP X pins σ Q) X.xe s
def tYes : TT := fun _ H Q => Q true H
theorem B5f {X : Cx} : PTs X [] tYes := fun pins s σ H Q I h => wpAny_tests_nil ⟨H, I, h⟩
theorem B5e {X : Cx} {c : Expr} {t : TT} (h : PT X c t) : PTs X [c] t := fun pins s σ H Q I hw => wpAny_tests_one (h pins s σ H Q I hw)
def Cx.block (X : Cx) (scope : Scope) (cl : List (Str × Addr)) (N' : List Str) (s2 : Shared) (H2 : Hp) (fp : List Addr) : Cx where
  prog := X.prog
  w := X.w
  K := X.K
  mg := X.mg
  base := X.base
  A := X.A
  N := N'
  s₀ := s2
  H₀ := H2
  env := compEnvC scope cl s2.heap.objs.size X.env
  outer := X.stack
  stack := X.stack
  ex := fp
  fn := fun _ => false
  calm := X.calm
  pn := []
  xe := fun _ _ => False
structure CompSc (X : Cx) (scope : Scope) (cl : List (Str × Addr)) (N' : List Str) (cap : List (Option Nat)) : Prop where
  clos : closureFor scope X.env = pure cl
  sub : ∀ x c, cl.lookup x = some c -> X.env.cells.lookup x = some c
  has : ∀ x, ((relabel scope X.env).names.lookup x = some .cell \/ (relabel scope X.env).names.lookup x = some .free) -> ∃ c, cl.lookup x = some c
  kind : scope.kind = .function
  cell : ∀ y ∈ scope.names, y.2 ≠ .cell
  names : ∀ y ∈ scope.names, y.2 = .local -> scope.names.lookup y.1 = some .local
  nd : N'.Nodup
  len : cap.length = N'.length
  noloc : ∀ x c, cl.lookup x = some c -> X.env.kindOf x ≠ some .local
  capt : ∀ (i : Nat) (x : Str) (j : Nat), N'[i]? = some x -> cap[i]? = some (some j) -> X.N[j]? = some x /\ ((relabel scope X.env).names.lookup x = some .cell \/ (relabel scope X.env).names.lookup x = some .free) /\ Vis X.env.scope x /\ ∃ c, cl.lookup x = some c
def capσ (cap : List (Option Nat)) (σ : St) : St := cap.map fun o => o.bind fun j => (σ[j]?).join
section
variable {X : Cx} {pins : List (Addr × Obj)} {σ : St} {H : Hp} {s : Shared} {scope : Scope} {cl : List (Str × Addr)} {N' : List Str} {cap : List (Option Nat)} {fp : List Addr}
theorem B1t (I : Inv X pins σ H s) (C : CompSc X scope cl N' cap) (hf : ∀ b ∈ fp, FpOk X pins H b) (ho : ∀ b ∈ fp, ∃ o, s.heap.get? b = some o) : (X.block scope cl N' s H fp).Ok where
  mod := I.ok.mod
  kind := C.kind
  glob := I.ok.glob
  blt := I.ok.blt
  above := Nat.le_refl _
  inj := fun x y c h1 h2 => I.ok.inj x y c (C.sub x c h1) (C.sub y c h2)
  has := fun x h => C.has x h
  cab := fun x c h _ => absurd (show false = true from h) Bool.false_ne_true
  hd := I.ok.hd
  frames := I.ok.frames
  stk := .inl rfl
  exf := fun b hb => ⟨fun z => by
    obtain ⟨o, e⟩ := ho b hb
    exact absurd (Heap.lt_size e) (by rw [z]; exact Nat.lt_irrefl _), fun x c h => (hf b hb).2.2.2.2.1 x c (C.sub x c h)⟩
  bs := I.bs
  bsz := Nat.le_trans I.ok.bsz I.sz
  noex := fun b o e hb => by
    rcases (hf b hb).2.2.2.1 with z | z
    · exact I.ok.noex b o e z
    · exact absurd (Nat.lt_of_lt_of_le (Heap.lt_size e) (Nat.le_trans I.ok.bsz z)) (Nat.lt_irrefl _)
  exfs := fun b hb z => by
    rcases List.mem_cons.mp (I.stkSub b z) with e | e
    · exact (hf b hb).2.1 e
    · exact (hf b hb).2.2.1 e
  funs := I.stack
  frf := I.stkFree
theorem B0e {h1 : Heap} {tk : Nat} {m : Str -> Option Value} (I : Inv X pins σ H s) (C : CompSc X scope cl N' cap) (hf : ∀ b ∈ fp, FpOk X pins H b) (ho : ∀ b ∈ fp, ∃ o, s.heap.get? b = some o)
    (hn : h1.Ns s.heap.objs.size m) (hk : ∀ b o, s.heap.get? b = some o -> h1.get? b = some o) : Inv (X.block scope cl N' s H fp) [] (capσ cap σ) H { s with heap := h1, toks := tk } where
  ok := B1t I C hf ho
  os := rfl
  bare := I.bare
  base := Un.kept hk
  loc := ⟨m, hn, fun i x v h1' h2 h3 => by
    unfold capσ at h2
    rw [List.getElem?_map] at h2
    cases e : cap[i]? with
    | none => rw [e] at h2; cases h2
    | some o =>
      rw [e] at h2
      cases o with
      | none => cases h2
      | some j =>
        obtain ⟨q1, q2, q3, c, q4⟩ := C.capt i x j h1' e
        have hv : (σ[j]?).join = some v := Option.some.inj h2
        have hσ : σ[j]? = some (some v) := by
          cases z : σ[j]? with
          | none => rw [z] at hv; cases hv
          | some y => rw [z] at hv; cases (show y = some v from hv); rfl
        obtain ⟨m0, hn0, hl0⟩ := I.loc
        obtain ⟨u, r, l⟩ := hl0 j x v q1 hσ q3
        refine ⟨u, r, .inr ⟨q2, c, q4, ?_⟩⟩
        rcases l with ⟨l1, _⟩ | ⟨_, c', l2, l3⟩
        · exact absurd l1 (C.noloc x c q4)
        · have := C.sub x c q4
          rw [l2] at this
          cases this
          exact l3.keeps hk⟩
  cell := fun x c h => by
    obtain ⟨v, z⟩ := I.cell x c (C.sub x c h)
    exact ⟨v, z.keeps hk⟩
  free := I.hok.fresh (Nat.le_refl _)
  freeC := fun x c h => I.freeC x c (C.sub x c h)
  pin := fun p hp => absurd (show p ∈ ([] : List (Addr × Obj)) from hp) (by simp)
  hok := I.hok.kept hk
  len := by unfold capσ; rw [List.length_map]; exact C.len
theorem B0d {H' : Hp} {s' : Shared} {h' : Heap} {σ' : St} {pl : List (Addr × Obj)} (I : Inv X pins σ H s) (J : Inv (X.block scope cl N' s H fp) pl σ' H' s') (hf : ∀ b ∈ fp, FpOk X pins H b) (hs : Heap.SameBut s.heap.objs.size s'.heap h') :
    Inv X pins σ H' { s' with heap := h' } := by
  have ne : ∀ b o, s.heap.get? b = some o -> b ≠ s.heap.objs.size := fun b o e => Nat.ne_of_lt (Heap.lt_size e)
  have B : Un (frs X.stack) fp H H' s.heap s'.heap := J.base
  refine I.call' (s' := { s' with heap := h' }) (ch := fp) J.os ⟨fun b o e n h1 h2 => ?_, fun b o e n h1 h2 => ?_, B.free, fun b o e h2 => ?_, B.tups, B.frzs, B.tbls⟩ ?_ J.bare (fun b hb => ?_)
  · show h'.get? b = some o
    rw [hs.2 b (ne b o e)]; exact B.keep b o e n h1 h2
  · show ∃ sl, h'.get? b = _
    rw [hs.2 b (ne b o e)]; exact B.slot b o e n h1 h2
  · show ∃ o', h'.get? b = _
    rw [hs.2 b (ne b o e)]; exact B.there b o e h2
  · intro b u e
    have hfree : H' s.heap.objs.size = none := J.free
    have nC : ∀ c v, H' c = some v -> c ≠ s.heap.objs.size := fun c v q z => by rw [z, hfree] at q; cases q
    refine (J.hok b u e).stay (fun c v hc q => ?_) (fun _ q => q) fun _ _ q => q
    show h'.get? c = some v
    have : c ≠ s.heap.objs.size := by
      rcases hc with z | z
      · rw [z]; exact nC b u e
      · exact nC c _ z
    rw [hs.2 c this]; exact q
  · obtain ⟨f0, f1, f2, f3, f4, f5⟩ := hf b hb
    exact ⟨f3, f1, f4, f5⟩
end
def A4d (J : It) (g : TG) (tt : TT) (te : TE) (D : Addr) (Fin : Hp -> Prop) (σ0 : St) (H1 : Hp) : Prop :=
  ∃ W : Nat -> Nat -> St -> Hp -> List V -> Prop, (∃ m, W 0 m σ0 (upd H1 D (.lst [])) []) /\ ∀ i m σ' H' ys, W i m σ' H' ys -> H' D = some (.lst ys) /\ ys.length < sizeLine /\
    ((J.stop i H' /\ Fin H') \/ (J.go i H' /\ ∀ x H2, J.yld i H' x H2 -> g x σ' H2 fun σ2 H3 => tt σ2 H3 fun b H4 => if b = true then
      te σ2 H4 fun y H5 => ∃ zs, H5 D = some (.lst zs) /\ zs.length < sizeLine /\ ∃ m', m' < m /\ W (i + 1) m' σ2 (upd H5 D (.lst (zs ++ [y]))) (zs ++ [y])
      else ∃ m', m' < m /\ W (i + 1) m' σ2 H4 ys))
def B4z (wi : TI) (g : TG) (tt : TT) (te : TE) (cap : List (Option Nat)) : TE := fun σ H Q => wi σ H fun J H1 => ∀ D, H1 D = none -> A4d J g tt te D (fun H' => Q (.ref D) H') (capσ cap σ) H1
section
variable {X : Cx} {scope : Scope} {cl : List (Str × Addr)} {N' : List Str} {cap : List (Option Nat)} {elt tg iter : Expr} {ifs : List Expr} {wi : TI} {g : TG} {tt : TT} {te : TE} {pos : Pos}
theorem A1h {pins : List (Addr × Obj)} {σ : St} {H2 : Hp} {s2 : Shared} {it : Addr} {fp : List Addr} {tn : Nat -> Heap -> Prop} {J : It} {E : Value -> Shared -> Prop} {RR : Value -> Addr -> Result -> Shared -> Prop} {Fin : Addr -> Hp -> Prop}
    (hc : X.calm = true) (C : CompSc X scope cl N' cap) (I2 : Inv X pins σ H2 s2) (T : Turn X.prog X.w X.K tg J fp it tn) (st2 : tn 0 s2.heap) (f2 : ∀ b ∈ fp, FpOk X pins H2 b)
    (hg : ∀ s3 H3 fp, PG (X.block scope cl N' s3 H3 fp) tg g) (ht : ∀ s3 H3 fp, PTs (X.block scope cl N' s3 H3 fp) ifs tt) (he : ∀ s3 H3 fp, PE (X.block scope cl N' s3 H3 fp) elt te)
    (go : ∀ D, H2 D = none -> A4d J g tt te D (Fin D) (capσ cap σ) H2)
    (out : ∀ (D C : Addr) (s' : Shared) (m : Str -> Option Value) (H' : Hp), s'.heap.Ns C m -> C ≠ X.env.locals -> H' C = none -> X.s₀.heap.objs.size <= C -> (∀ x c, X.env.cells.lookup x = some c -> c ≠ C) -> (∀ p ∈ X.pn ++ pins, p.1 ≠ C) -> Fin D H' -> Inv X pins σ H' s' -> RR (.ref D) C (.ok .next) s') :
    wpAny (model X.prog X.w) X.A (newList []) (fun acc s₃ => wpAny (model X.prog X.w) X.A (newFunctionEnv scope X.env.globals cl [] X.env.qual none .none (some X.env)) (fun cenv s₄ =>
      codeAny (model X.prog X.w) X.A (.compStart (.ListComp elt [⟨tg, iter, ifs, 0⟩] scope pos) 0 (.ref it) acc { cenv with scope := relabel scope X.env }) (RR acc cenv.locals) s₄) E s₃) E s2 := by
  refine wpAny_newObj_type (wpAny_newFunctionEnv C.cell (by intro y hy; simp at hy) (fun h₁ hns₁ hsb₁ => ?_) C.kind)
  have hD : H2 s2.heap.objs.size = none := I2.hok.fresh (Nat.le_refl _)
  obtain ⟨W, ⟨m0, w0⟩, turn⟩ := go _ hD
  have I3 : Inv X pins σ (upd H2 s2.heap.objs.size (.lst [])) { s2 with heap := s2.heap.push { cls := .type "list", dict := none, data := .seq ([] : List Value).toArray } } :=
    I2.laid (t' := s2.toks) (o := .lst []) (fun b u e => Heap.get?_push_of_some _ e) (Nat.le_refl _) ⟨Nat.zero_le _, [], 0, .nil, Heap.get?_push_size _ rfl⟩
  have f3 : ∀ b ∈ fp, FpOk X pins (upd H2 s2.heap.objs.size (.lst [])) b := fun b hb => by
    obtain ⟨f0, fr⟩ := f2 b hb
    obtain ⟨o, e, _⟩ := T.obj _ _ st2 b hb
    exact ⟨by rw [C7 (Nat.ne_of_lt (Heap.lt_size e))]; exact f0, fr⟩
  generalize hs3 : ({ s2 with heap := s2.heap.push { cls := .type "list", dict := none, data := .seq ([] : List Value).toArray } } : Shared) = s3 at hns₁ hsb₁ I3 ⊢
  have o3 : ∀ b o, s2.heap.get? b = some o -> s3.heap.get? b = some o := fun b o e => by rw [<- hs3]; exact Heap.get?_push_of_some _ e
  have hk : ∀ b o, s3.heap.get? b = some o -> h₁.get? b = some o := fun b o e => by
    rw [hsb₁.2 b (Nat.ne_of_lt (Heap.lt_size e))]; exact Heap.get?_push_of_some _ e
  have st3 : tn 0 s3.heap := T.keep _ _ _ st2 fun b _ o e => o3 b o e
  have ho : ∀ b ∈ fp, ∃ o, s3.heap.get? b = some o := fun b hb => let ⟨o, e, _⟩ := T.obj _ _ st3 b hb; ⟨o, e⟩
  have I4 := B0e (tk := s3.toks + ([] : List (Str × Value)).length) I3 C f3 ho hns₁ hk
  have st4 : tn 0 h₁ := T.keep _ _ _ st3 fun b _ o e => hk b o e
  have hX : ∀ {H' : Hp} {pl : List (Addr × Obj)}, (∀ b ∈ fp, H' b = none) -> (∀ p ∈ pl, p.1 ∉ fp) -> ∀ b ∈ fp, FpOk (X.block scope cl N' s3 (upd H2 s2.heap.objs.size (.lst [])) fp) pl H' b := fun {H' pl} hn hp b hb => by
    refine ⟨hn b hb, I4.ok.exf b hb |>.1, I4.ok.exfs b hb, .inl hb, (I4.ok.exf b hb).2, fun p hp' z => ?_⟩
    have hp'' : p ∈ pl := by simpa [Cx.block] using hp'
    exact hp p hp'' (by rw [z]; exact hb)
  have fr3 : ∀ b ∈ fp, (upd H2 s2.heap.objs.size (.lst [])) b = none := fun b hb => (f3 b hb).1
  have loop : ∀ s₅ : Shared, s₅ = { s3 with heap := h₁, toks := s3.toks + ([] : List (Str × Value)).length } ->
      codeAny (model X.prog X.w) X.A (.compLoop (.ListComp elt [⟨tg, iter, ifs, 0⟩] scope pos) 0 (.ref it) (.ref s2.heap.objs.size) (compEnvC scope cl s3.heap.objs.size X.env)) (RR (.ref s2.heap.objs.size) s3.heap.objs.size) s₅ := by
    rintro s₅ rfl
    refine A09 (fun n s' => ∃ i σ' H' ys, Inv (X.block scope cl N' s3 (upd H2 s2.heap.objs.size (.lst [])) fp) [] σ' H' s' /\ tn i s'.heap /\ (∀ b ∈ fp, H' b = none) /\ W i n σ' H' ys) ?_ m0 ⟨0, _, _, [], I4, st4, fr3, w0⟩
    rintro n s6 ⟨i, σ6, H6, ys, I6, st6, fr6, w6⟩
    obtain ⟨hl6, hz6, hgo⟩ := turn i n σ6 H6 ys w6
    rcases hgo with ⟨stop, fin⟩ | ⟨go', step⟩
    · refine wpAny_mono (T.done (X.block scope cl N' s3 (upd H2 s2.heap.objs.size (.lst [])) fp) rfl rfl rfl hc i [] s6 σ6 H6 (fun _ _ => False) I6 (hX fr6 (fun _ z => nomatch z)) st6 stop) (fun r s7 ⟨hr, I7⟩ => ?_) fun _ _ z => z.elim
      subst hr
      obtain ⟨m7, hn7, _⟩ := id I7.loc
      refine out _ _ s7 m7 H6 hn7 (Nat.ne_of_gt I3.lt) I7.free I3.sz (fun x c e z => ?_) (fun p hp z => ?_) fin (B0d I3 I7 f3 (.refl ..))
      · obtain ⟨v, q⟩ := I3.cell x c e
        exact absurd q.lt (by rw [z]; exact Nat.lt_irrefl _)
      · exact absurd (Heap.lt_size (I3.pin p hp).1) (by rw [z]; exact Nat.lt_irrefl _)
    · refine wpAny_mono (T.item (X.block scope cl N' s3 (upd H2 s2.heap.objs.size (.lst [])) fp) rfl rfl rfl hc i [] s6 σ6 H6 (fun _ _ => False) I6 (hX fr6 (fun _ z => nomatch z)) st6 go') (fun r s7 ⟨u, hr, h7⟩ => ?_) fun _ _ z => z.elim
      subst hr
      refine wpAny_mono h7 (fun _ s8 ⟨x, H8, I8, r8, y8, st8, fr8⟩ => ?_) fun _ _ z => z.elim
      have I8' := I8.pinned (hX fr8 (fun _ z => nomatch z)) (T.obj _ _ st8)
      have again : ∀ {s9 : Shared} {σ9 : St} {H9 : Hp}, Inv (X.block scope cl N' s3 (upd H2 s2.heap.objs.size (.lst [])) fp) ([] ++ A0o fp s8.heap) σ9 H9 s9 -> ∀ {zs : List V}, (∃ m', m' < n /\ W (i + 1) m' σ9 H9 zs) ->
          ∃ m, m < n /\ ∃ i σ' H' ys, Inv (X.block scope cl N' s3 (upd H2 s2.heap.objs.size (.lst [])) fp) [] σ' H' s9 /\ tn i s9.heap /\ (∀ b ∈ fp, H' b = none) /\ W i m σ' H' ys := fun {s9 σ9 H9} I9 {zs} ⟨m', hm, w9⟩ => by
        refine ⟨m', hm, i + 1, σ9, H9, zs, I9.unpinned, T.keep _ _ _ st8 fun b hb o e => (I9.pin (b, o) (List.mem_append_right _ (List.mem_append_right _ (N3 hb e)))).1, fun b hb => ?_, w9⟩
        obtain ⟨o, e, d⟩ := T.obj _ _ st8 b hb
        exact (I9.pin (b, o) (List.mem_append_right _ (List.mem_append_right _ (N3 hb e)))).2.1
      refine wpAny_mono (hg _ _ _ _ s8 σ6 H8 x u _ I8' r8 (step x H8 y8)) (fun _ s9 ⟨σ9, H9, I9, q9⟩ => ?_) fun _ _ z => z.elim
      refine wpAny_mono (ht _ _ _ _ s9 σ9 H9 _ I9 q9) (fun ok s10 ⟨H10, I10, q10⟩ => ?_) fun _ _ z => z.elim
      cases ok with
      | false => exact again I10 q10
      | true =>
        rw [if_pos rfl]
        refine wpAny_mono (he _ _ _ _ s10 σ9 H10 _ I10 q10) (fun yv s11 ⟨y, H11, I11, r11, zs, hz, hlen, q11⟩ => ?_) fun _ _ z => z.elim
        refine wpAny_mono (F4 (X := X.block scope cl N' s3 (upd H2 s2.heap.objs.size (.lst [])) fp) _ s11 σ9 H11 (.ref s2.heap.objs.size) [y] (.ref s2.heap.objs.size) [yv] (fun _ H' => ∃ m', m' < n /\ W (i + 1) m' σ9 H' (zs ++ [y])) I11 rfl (.cons r11 .nil) ⟨_, zs, y, rfl, rfl, hz, hlen, q11⟩) (fun _ s12 ⟨_, H12, I12, _, q12⟩ => ?_) fun _ _ z => z.elim
        exact again I12 q12
  exact codeAny_compStart_list (loop _ rfl) (T.self _ 0 _ _ _ st4 (loop _ rfl))
theorem B5r (hc : X.calm = true) (C : CompSc X scope cl N' cap) (hi : PI X tg iter wi) (hg : ∀ s3 H3 fp, PG (X.block scope cl N' s3 H3 fp) tg g) (ht : ∀ s3 H3 fp, PTs (X.block scope cl N' s3 H3 fp) ifs tt)
    (he : ∀ s3 H3 fp, PE (X.block scope cl N' s3 H3 fp) elt te) (hs : ∀ x, foldedSetIterable iter X.env x = pure x := by intro _; rfl) : PE X (.ListComp elt [⟨tg, iter, ifs, 0⟩] scope pos) (B4z wi g tt te cap) := by
  intro pins s σ H Q I h
  rw [eval_ListComp]
  refine wpAny_comprehension_free (use := none) rfl hs C.clos C.kind C.names (thn (hi pins s σ H _ I h) fun v s1 h1 => thn h1 fun itv s2 h2 => ?_)
  obtain ⟨it, fp, tn, J, H2, e, I2, T, st2, f2, go⟩ := h2
  subst e
  refine A1h (RR := fun acc C => compPost (model X.prog X.w) X.A X.xe none (EP X pins σ Q) acc C) (Fin := fun D H' => Q (.ref D) H') hc C I2 T st2 f2 hg ht he go ?_
  intro D C' s' m H' hn n1 n2 n3 n4 n5 fin inv
  exact ⟨m, hn, fun h' hs' => ⟨.ref D, H', inv.turned (t' := s'.toks) (fun b o hb e => (hs'.2 b hb).trans e) n2 n1 (.inr n3) n4 n5, rfl, fin⟩⟩
end
end L2
namespace L2
open PySem PySem.Spec PyProof.Rows
def A1b (env : Env) : List (Str × NameKind) -> List (Str × Addr) -> List (Str × Addr)
  | [], acc => acc
  | (n, k) :: r, acc => A1b env r (if (k == .free) = true then (n, (env.cells.lookup n).getD 0) :: acc else acc)
theorem Z8 {env : Env} : ∀ (l : List (Str × NameKind)) (acc : List (Str × Addr)), (∀ p ∈ l, p.2 = .free -> (env.cells.lookup p.1).isSome = true) ->
    (forIn l acc (fun x s => match x with
      | (name, kind) => if (kind == NameKind.free) = true then do
          let a <- cellOf env name
          pure (ForInStep.yield ((name, a) :: s))
        else pure (ForInStep.yield s)) : Sem (List (Str × Addr))) = pure (A1b env l acc)
  | [], acc, _ => rfl
  | (n, k) :: r, acc, h => by
    rw [List.forIn_cons]
    have hr := fun p hp => h p (List.mem_cons_of_mem _ hp)
    by_cases hk : (k == NameKind.free) = true
    · have h1 := h (n, k) List.mem_cons_self (by simpa using hk)
      obtain ⟨c, hc⟩ := Option.isSome_iff_exists.mp h1
      have hc : env.cells.lookup n = some c := hc
      have e1 : cellOf env n = pure c := by unfold cellOf; rw [hc]
      simp only [hk, if_true, e1, pure_bind]
      rw [Z8 r _ hr]
      show _ = pure (A1b env r (if (k == .free) = true then (n, (env.cells.lookup n).getD 0) :: acc else acc))
      rw [if_pos hk, hc]
      rfl
    · simp only [hk, Bool.false_eq_true, if_false, pure_bind]
      rw [Z8 r _ hr]
      show _ = pure (A1b env r (if (k == .free) = true then (n, (env.cells.lookup n).getD 0) :: acc else acc))
      rw [if_neg hk]
theorem A1a {env : Env} : ∀ (l : List (Str × NameKind)) (acc : List (Str × Addr)) (p : Str × Addr), p ∈ A1b env l acc -> p ∈ acc \/ ((p.1, NameKind.free) ∈ l /\ p.2 = (env.cells.lookup p.1).getD 0)
  | [], acc, p, h => .inl h
  | (n, k) :: r, acc, p, h => by
    rcases A1a r _ p h with z | ⟨z, e⟩
    · by_cases hk : (k == NameKind.free) = true
      · rw [if_pos hk] at z
        rcases List.mem_cons.mp z with rfl | z
        · right
          have : k = .free := by simpa using hk
          subst this
          exact ⟨List.mem_cons_self, rfl⟩
        · exact .inl z
      · rw [if_neg hk] at z
        exact .inl z
    · exact .inr ⟨List.mem_cons_of_mem _ z, e⟩
theorem U8 {env : Env} : ∀ (l : List (Str × NameKind)) (acc : List (Str × Addr)) (x : Str), ((∃ c, (x, c) ∈ acc) \/ (x, NameKind.free) ∈ l) -> ∃ c, (x, c) ∈ A1b env l acc
  | [], acc, x, h => by
    rcases h with h | h
    · exact h
    · exact absurd h (by simp)
  | (n, k) :: r, acc, x, h => by
    refine U8 r _ x ?_
    rcases h with ⟨c, h⟩ | h
    · left
      by_cases hk : (k == NameKind.free) = true
      · rw [if_pos hk]; exact ⟨c, List.mem_cons_of_mem _ h⟩
      · rw [if_neg hk]; exact ⟨c, h⟩
    · rcases List.mem_cons.mp h with e | h
      · left
        cases e
        rw [if_pos (by rfl)]
        exact ⟨_, List.mem_cons_self⟩
      · exact .inr h
theorem L0 {β : Type} {x : Str} : ∀ {l : List (Str × β)} {c : β}, (x, c) ∈ l -> ∃ c', l.lookup x = some c'
  | (n, d) :: r, c, h => by
    by_cases e : x = n
    · subst e; exact ⟨d, by simp [List.lookup_cons]⟩
    · rcases List.mem_cons.mp h with z | z
      · cases z; exact absurd rfl e
      · obtain ⟨c', q⟩ := L0 z
        refine ⟨c', ?_⟩
        rw [List.lookup_cons]
        have : (x == n) = false := by simpa using e
        rw [this]; exact q
theorem N6 {scope : Scope} {env : Env} {x : Str} {k : NameKind} (hcell : ∀ y ∈ scope.names, y.2 ≠ .cell) (h : (relabel scope env).names.lookup x = some k) (hk : k = .cell \/ k = .free) : (x, NameKind.free) ∈ scope.names := by
  have h1 := PySem.mem_of_lookup h
  obtain ⟨⟨n, k'⟩, hm, e⟩ := List.mem_map.mp (show (x, k) ∈ scope.names.map _ from h1)
  dsimp only at e
  split at e
  · rename_i q
    cases e
    simp only [Bool.and_eq_true] at q
    have : k' = .free := by simpa using q.1.1
    subst this
    exact hm
  · cases e
    rcases hk with rfl | rfl
    · exact absurd rfl (hcell _ hm)
    · exact hm
theorem M0 {env : Env} {x : Str} : ∀ {l : List (Str × NameKind)}, l.lookup x = some .free ->
    (l.map fun (n, k) => if (k == NameKind.free && env.scope.kind == .function && env.kindOf n == some .cell) then (n, NameKind.cell) else (n, k)).lookup x = some .cell \/
    (l.map fun (n, k) => if (k == NameKind.free && env.scope.kind == .function && env.kindOf n == some .cell) then (n, NameKind.cell) else (n, k)).lookup x = some .free
  | [], h => by simp at h
  | (n, k) :: r, h => by
    rw [List.lookup_cons] at h
    rw [List.map_cons]
    dsimp only
    by_cases e : (x == n) = true
    · rw [e] at h
      have hk : k = .free := by simpa using h
      subst hk
      by_cases q : (NameKind.free == NameKind.free && env.scope.kind == .function && env.kindOf n == some .cell) = true
      · left; rw [if_pos q, List.lookup_cons, e]
      · right; rw [if_neg q, List.lookup_cons, e]
    · have e' : (x == n) = false := by simpa using e
      rw [e'] at h
      have := M0 (env := env) h
      by_cases q : (k == NameKind.free && env.scope.kind == .function && env.kindOf n == some .cell) = true
      · rw [if_pos q, List.lookup_cons, e']; exact this
      · rw [if_neg q, List.lookup_cons, e']; exact this
theorem A0l {scope : Scope} {env : Env} {x : Str} (h : scope.names.lookup x = some .free) : (relabel scope env).names.lookup x = some .cell \/ (relabel scope env).names.lookup x = some .free := M0 h
theorem F1 {X : Cx} {scope : Scope} {N' : List Str} {cap : List (Option Nat)}
    (h1 : scope.names.all (fun p => !(p.2 == .free) || ((X.env.cells.lookup p.1).isSome && !(X.env.kindOf p.1 == some .local))) = true)
    (hk : scope.kind = .function) (h2 : scope.names.all (fun p => !(p.2 == .cell)) = true) (h3 : scope.names.all (fun p => !(p.2 == .local) || scope.names.lookup p.1 == some .local) = true)
    (nd : N'.Nodup) (len : cap.length = N'.length)
    (h4 : (N'.zip cap).all (fun q => match q.2 with | none => true | some j => (X.N[j]? == some q.1) && (scope.names.lookup q.1 == some .free) && (X.env.scope.names.lookup q.1 == some .cell || X.env.scope.names.lookup q.1 == some .free)) = true) :
    CompSc X scope (A1b X.env scope.names []) N' cap := by
  have hfree : ∀ p ∈ scope.names, p.2 = .free -> (X.env.cells.lookup p.1).isSome = true /\ X.env.kindOf p.1 ≠ some .local := fun p hp e => by
    have := List.all_eq_true.mp h1 p hp
    rw [e] at this
    have this : ((X.env.cells.lookup p.1).isSome && !(X.env.kindOf p.1 == some .local)) = true := this
    rw [Bool.and_eq_true] at this
    refine ⟨this.1, fun z => ?_⟩
    rw [z] at this
    exact absurd this.2 (by decide)
  have hcell : ∀ y ∈ scope.names, y.2 ≠ .cell := fun y hy e => by
    have := List.all_eq_true.mp h2 y hy
    rw [e] at this
    exact absurd this (by decide)
  have memsub : ∀ x c, (A1b X.env scope.names []).lookup x = some c -> (x, NameKind.free) ∈ scope.names /\ X.env.cells.lookup x = some c := fun x c h => by
    rcases A1a _ _ _ (PySem.mem_of_lookup h) with z | ⟨z, e⟩
    · exact absurd z (by simp)
    · refine ⟨z, ?_⟩
      obtain ⟨c', hc'⟩ := Option.isSome_iff_exists.mp (hfree _ z rfl).1
      have hc' : X.env.cells.lookup x = some c' := hc'
      have e : c = (X.env.cells.lookup x).getD 0 := e
      rw [hc'] at e ⊢
      exact congrArg some e.symm
  refine ⟨?_, fun x c h => (memsub x c h).2, fun x h => ?_, hk, hcell, fun y hy e => ?_, nd, len, fun x c h => (hfree _ (memsub x c h).1 rfl).2, fun i x j hi hc => ?_⟩
  · unfold closureFor
    show (forIn scope.names [] _ >>= fun r => pure r) = _
    rw [Z8 scope.names [] fun p hp e => (hfree p hp e).1]
    rfl
  · have hm : (x, NameKind.free) ∈ scope.names := by
      rcases h with h | h
      · exact N6 hcell h (.inl rfl)
      · exact N6 hcell h (.inr rfl)
    obtain ⟨c, hc⟩ := U8 (env := X.env) scope.names [] x (.inr hm)
    exact L0 hc
  · have := List.all_eq_true.mp h3 y hy
    rw [e] at this
    simpa using this
  · have hz : (x, some j) ∈ N'.zip cap := by
      refine List.mem_iff_getElem?.mpr ⟨i, ?_⟩
      rw [List.getElem?_zip_eq_some]
      exact ⟨hi, hc⟩
    have := List.all_eq_true.mp h4 _ hz
    simp only [Bool.and_eq_true, Bool.or_eq_true, beq_iff_eq] at this
    obtain ⟨⟨q1, q2⟩, q3⟩ := this
    refine ⟨q1, A0l q2, ?_, ?_⟩
    · rcases q3 with q | q
      · exact .inr (.inl q)
      · exact .inr (.inr q)
    · obtain ⟨c, hc⟩ := U8 (env := X.env) scope.names [] x (.inr (PySem.mem_of_lookup q2))
      exact L0 hc
def S2 (wi : TI) (g : TG) (tt : TT) (te : TE) (cap : List (Option Nat)) (i : Nat) : TS := fun D σ H => wi σ H fun J H1 => ∀ l, H1 l = none -> A4d J g tt te l (fun H' => D.nx (σ.set i (some (.ref l))) H') (capσ cap σ) H1
section
variable {X : Cx} {scope : Scope} {cl : List (Str × Addr)} {N' : List Str} {cap : List (Option Nat)} {elt tg iter : Expr} {ifs : List Expr} {wi : TI} {g : TG} {tt : TT} {te : TE} {pos spos py : Pos} {y : Str} {i : Nat}
theorem A4z (hc : X.calm = true) (hN : X.N.Nodup) (hi : X.N[i]? = some y) (hy : X.env.scope.names.lookup y = some .local) (C : CompSc X scope cl N' cap) (hit : PI X tg iter wi) (hg : ∀ s3 H3 fp, PG (X.block scope cl N' s3 H3 fp) tg g)
    (ht : ∀ s3 H3 fp, PTs (X.block scope cl N' s3 H3 fp) ifs tt) (he : ∀ s3 H3 fp, PE (X.block scope cl N' s3 H3 fp) elt te)
    (hsw : swapsWith (.ListComp elt [⟨tg, iter, ifs, 0⟩] scope pos) (some (.Name y py)) spos.line X.env = pure true) (hs : ∀ x, foldedSetIterable iter X.env x = pure x := by intro _; rfl) :
    PS X (.Assign [.Name y py] (.ListComp elt [⟨tg, iter, ifs, 0⟩] scope pos) spos) (S2 wi g tt te cap i) := by
  intro pins s σ H D I h
  rw [exec_Assign_Name_used _ _ _ _ hsw]
  refine wpAny_bind (wpAny_standAt (wpAny_bind ?_))
  show wpAny _ X.A (do let _ <- comprehension (.ListComp elt [⟨tg, iter, ifs, 0⟩] scope pos) scope X.env _ (newList []) false (eval iter X.env) (some (assign (.Name y py) X.env))) _ _ s
  refine wpAny_bind (wpAny_mono (wpAny_comprehension_free (use := some (assign (.Name y py) X.env)) (Q := fun _ s' => SP X pins D .next s') rfl hs C.clos C.kind C.names
    (thn (hit pins s σ H _ I h) fun v s1 h1 => thn h1 fun itv s2 h2 => ?_)) (fun _ s' hq => wpAny_pure (wpAny_pure hq)) fun _ _ e => e)
  obtain ⟨it, fp, tn, J, H2, e, I2, T, st2, f2, go⟩ := h2
  subst e
  refine A1h (RR := fun acc C => compPost (model X.prog X.w) X.A X.xe (some (assign (.Name y py) X.env)) (fun _ s' => SP X pins D .next s') acc C) (Fin := fun l H' => D.nx (σ.set i (some (.ref l))) H') hc C I2 T st2 f2 hg ht he go ?_
  intro l C' s' m H' hn n1 n2 n3 n4 n5 fin inv
  show wpAny _ X.A (assign (.Name y py) X.env (.ref l)) _ _ _
  refine wpAny_assign_Name (A0d (v := .ref l) inv hN hi (.inl hy) rfl (fun s'' I'' ⟨a, sb, ha⟩ => ?_) (.inr hy))
  have na : C' ≠ a := by
    rcases ha with e | e
    · rw [e]; exact n1
    · exact (n4 _ _ e).symm
  exact ⟨m, hn.sameBut sb na, fun h' hs' => ⟨_, H', I''.turned (t' := s''.toks) (fun b o hb e => (hs'.2 b hb).trans e) n2 n1 (.inr n3) n4 n5, fin⟩⟩
end
section
variable {X : Cx} {K : PySem.W.Frag}
theorem B5p {pos : Pos} {es : List Expr} {k : Nat} {t : TGs} {n : Nat} (h : X.K = K) (hc : X.calm = true) (hg : PGs X es t)
    (hn : (assignEach es X.env).length = n := by rfl) (hst : (assignEach es X.env).findIdx? (·.1) = none := by rfl) : PG X (.Tuple es k pos) (gTup K n t) := by subst h; exact B74 hc hg hn hst
end
end L2
namespace Prf
open PySem L2 My
abbrev Hpp := L2.Hp
theorem ifD {p : Prop} [Decidable p] {A B : Prop} (h1 : p -> A) (h2 : ¬ p -> B) : if decide p = true then A else B := by
  by_cases h : p
  · rw [decide_eq_true h]; exact h1 h
  · rw [decide_eq_false h]; exact h2 h
structure StAt (H : Hpp) (p : Addr) : Prop where
  ex : ∃ (c m : Int) (f : Bool), H p = some (.lst [.int c, .int m, .bl f]) /\ 0 <= m /\ m < 2147483648
theorem StAt.same {H H' : Hpp} {p : Addr} (h : StAt H p) (e : Same H H') : StAt H' p := by
  obtain ⟨c, m, f, h, r⟩ := h.ex; exact ⟨c, m, f, e _ _ h, r⟩
theorem StAt.kp {H H' : Hpp} {p l : Addr} (h : StAt H p) (n : p ≠ l) (e : Kp l H H') : StAt H' p := by
  obtain ⟨c, m, f, h, r⟩ := h.ex; exact ⟨c, m, f, e _ _ n h, r⟩
def A2o (K : PySem.W.Frag) : Sp := fun vs H Q _ => ∃ (a : Addr) (ns : List Int) (k : Int), vs = [.ref a, .int k] /\ SqL K H a (ns.map V.int) /\ 0 <= k /\ k <= 63 /\ ∀ p H', H p = none -> StAt H' p -> Kp p H H' -> Q (.ref p) H'
def A5s : Sp := fun vs H Q _ => ∃ (p : Addr) (n : Int), vs = [.ref p, .int n] /\ StAt H p /\ 0 < n /\ Sm 4000 n /\ ∀ d H', 0 <= d -> d < n -> StAt H' p -> Kp p H H' -> Q (.int d) H'
def B43 (K : PySem.W.Frag) : Sp := fun vs H Q _ => ∃ (a : Addr) (ns : List Int), vs = [.ref a] /\ SqL K H a (ns.map V.int) /\ ns.length <= 63 /\ ∀ H', Q (.bl true) H'
theorem sm32 {m : Int} (h0 : 0 <= m) (h1 : m < 2147483648) : Sm 8000 m := Sm.mono (k := 32) (by unfold Sm; omega) (by decide)
theorem V8 {m : Int} (n : Nat) (h : m.natAbs < 2 ^ 64 := by decide) : Sm 8000 m := Sm.mono (k := 64) h (by decide)
theorem A0g {k : Nat} {t b : Int} (h : Sm k b) (hb : b ≠ 0) : Sm k ((Int.gcd t b : Nat) : Int) := by
  have h1 : Int.gcd t b ∣ b.natAbs := Nat.gcd_dvd_right _ _
  have h2 := Nat.le_of_dvd (by omega) h1
  exact h.le (by simpa using h2)
theorem B69 {k : Nat} {t b : Int} (h : Sm k b) (hb : b ≠ 0) : Sm k (sh t b) := by
  have h1 : Int.gcd t b ∣ b.natAbs := Nat.gcd_dvd_right _ _
  have h2 := Nat.le_of_dvd (by omega) h1
  exact h.le (by rw [B7g]; exact h2)
end Prf
namespace Prf
open PySem L2 My
theorem A94 (n : Nat) (h : (n : Int) <= 1000000 := by decide) : CPow 10 (n : Int) := ⟨by omega, h, by decide⟩
theorem sm4 (n : Int) (h : n.natAbs < 2 ^ 64 := by decide) : Sm 4000 n := Sm.mono (k := 64) h (by decide)
theorem A2p {k : Int} (h0 : 0 <= k) (h1 : k <= 63) : Sm 8000 k := sm32 h0 (by omega)
theorem B7a {k : Int} (h0 : 0 <= k) (h1 : k <= 63) : Sm 20 k := by unfold Sm; omega
theorem B7b (b : Bool) : Sm 8000 (if b = true then (1 : Int) else 0) := by cases b <;> exact V8 0
theorem B3t : kitB "tuple" "tuple" = some true := by decide +kernel
theorem B33 : kitB "int" "bool" = some false := by decide +kernel
end Prf
namespace Prf
open PySem L2 My
inductive R2L {α : Type} (P : Addr -> α -> Prop) : List V -> List α -> Prop
  | nil : R2L P [] []
  | cons {a : Addr} {q : α} {rs : List V} {qs : List α} : P a q -> R2L P rs qs -> R2L P (.ref a :: rs) (q :: qs)
section
variable {α : Type} {P P' : Addr -> α -> Prop}
theorem R2L.get : ∀ {rs qs} {i : Nat} {x : V}, R2L P rs qs -> rs[i]? = some x -> ∃ a q, x = .ref a /\ qs[i]? = some q /\ P a q
  | _, _, _, _, .nil, e => by simp at e
  | _, _, 0, _, .cons h _, e => by simp at e; subst e; exact ⟨_, _, rfl, rfl, h⟩
  | _, _, i + 1, x, .cons _ t, e => by
    obtain ⟨a, q, h1, h2, h3⟩ := R2L.get (i := i) (x := x) t (by simpa using e)
    exact ⟨a, q, h1, by simpa using h2, h3⟩
end
def dq (q : Rat) : PyData := .tuple [.int q.num, .int q.den]
theorem C0a (q : Rat) : (dq q).canLay0 = true := rfl
def dcn (c : Rat × Rat) : PyData := .tuple [dq c.1, dq c.2]
theorem A93 : ∀ cs : List (Rat × Rat), PyData.canLayAll0 (cs.map dcn) = true
  | [] => rfl
  | c :: r => by
    show ((dcn c).canLay0 && PyData.canLayAll0 (r.map dcn)) = true
    rw [show (dcn c).canLay0 = true from rfl, A93 r]; rfl
theorem U7 : ∀ cs : List (Rat × Rat), PyData.depthAll (cs.map dcn) <= 2
  | [] => Nat.zero_le _
  | c :: r => by
    show max (dcn c).depth (PyData.depthAll (r.map dcn)) <= 2
    have h1 := U7 r
    have h2 : (dcn c).depth = 2 := rfl
    omega
theorem B0t {k : Nat} {z : Int} {B : Nat} (h0 : -(B : Int) <= z) (h1 : z <= B) (hB : B < 2 ^ k) : Sm k z := by
  unfold Sm; omega
end Prf
set_option maxHeartbeats 4000000
namespace L2
open PySem
mutual
theorem Den.same {K : PySem.W.Frag} {F F' : Hp} (e : Same F F') : ∀ {v : V} {x : PyData}, Den K F v x -> Den K F' v x
  | _, _, .non => .non
  | _, _, .bl b => .bl b
  | _, _, .int i => .int i
  | _, _, .str x => .str x
  | _, _, .lst h t => .lst (e.seq h) (DenAll.same e t)
  | _, _, .tup h t => .tup (SqT.same e h) (DenAll.same e t)
  | _, _, .dct h => .dct (e _ _ h)
theorem DenAll.same {K : PySem.W.Frag} {F F' : Hp} (e : Same F F') : ∀ {vs : List V} {xs : List PyData}, DenAll K F vs xs -> DenAll K F' vs xs
  | _, _, .nil => .nil
  | _, _, .cons h t => .cons (Den.same e h) (DenAll.same e t)
end
section
variable {K : PySem.W.Frag} {F : Hp}
theorem Den.intE {v : V} {i : Int} (h : Den K F v (.int i)) : v = .int i := by cases h; rfl
theorem Den.blE {v : V} {b : Bool} (h : Den K F v (.bool b)) : v = .bl b := by cases h; rfl
theorem Den.strE {v : V} {s : Str} (h : Den K F v (.str s)) : v = .str s := by cases h; rfl
theorem Den.nonE {v : V} (h : Den K F v .none) : v = .non := by cases h; rfl
theorem Den.tupE {v : V} {xs : List PyData} (h : Den K F v (.tuple xs)) : ∃ a vs, v = .ref a /\ SqT K F a vs /\ DenAll K F vs xs := by cases h; exact ⟨_, _, rfl, ‹_›, ‹_›⟩
theorem Den.lstE {v : V} {xs : List PyData} (h : Den K F v (.list xs)) : ∃ a vs, v = .ref a /\ SqL K F a vs /\ DenAll K F vs xs := by cases h; exact ⟨_, _, rfl, ‹_›, ‹_›⟩
theorem DenAll.len : ∀ {vs : List V} {xs : List PyData}, DenAll K F vs xs -> vs.length = xs.length
  | _, _, .nil => rfl
  | _, _, .cons _ t => congrArg (· + 1) (DenAll.len t)
theorem DenAll.get : ∀ {vs : List V} {xs : List PyData} {i : Nat} {v : V}, DenAll K F vs xs -> vs[i]? = some v -> ∃ x, xs[i]? = some x /\ Den K F v x
  | _, _, _, _, .nil, e => by simp at e
  | _, _, 0, _, .cons h _, e => by simp at e; subst e; exact ⟨_, rfl, h⟩
  | _, _, i + 1, v, .cons _ t, e => by
    obtain ⟨x, h1, h2⟩ := DenAll.get (i := i) (v := v) t (by simpa using e)
    exact ⟨x, by simpa using h1, h2⟩
theorem DenAll.at : ∀ {vs : List V} {xs : List PyData} {i : Nat} {x : PyData}, DenAll K F vs xs -> xs[i]? = some x -> ∃ v, vs[i]? = some v /\ Den K F v x
  | _, _, _, _, .nil, e => by simp at e
  | _, _, 0, _, .cons h _, e => by simp at e; subst e; exact ⟨_, rfl, h⟩
  | _, _, i + 1, x, .cons _ t, e => by
    obtain ⟨v, h1, h2⟩ := DenAll.at (i := i) (x := x) t (by simpa using e)
    exact ⟨v, by simpa using h1, h2⟩
theorem DenAll.app : ∀ {vs us : List V} {xs ys : List PyData}, DenAll K F vs xs -> DenAll K F us ys -> DenAll K F (vs ++ us) (xs ++ ys)
  | _, _, _, _, .nil, h => h
  | _, _, _, _, .cons h t, h' => .cons h (DenAll.app t h')
theorem DenAll.drop : ∀ {vs : List V} {xs : List PyData} (n : Nat), DenAll K F vs xs -> DenAll K F (vs.drop n) (xs.drop n)
  | _, _, 0, h => by simpa using h
  | _, _, _ + 1, .nil => by simpa using DenAll.nil
  | _, _, n + 1, .cons _ t => by simpa using DenAll.drop n t
theorem DenAll.take : ∀ {vs : List V} {xs : List PyData} (n : Nat), DenAll K F vs xs -> DenAll K F (vs.take n) (xs.take n)
  | _, _, 0, _ => by simpa using DenAll.nil
  | _, _, _ + 1, .nil => by simpa using DenAll.nil
  | _, _, n + 1, .cons h t => by simpa using DenAll.cons h (DenAll.take n t)
theorem DenAll.dropLast {vs : List V} {xs : List PyData} (h : DenAll K F vs xs) : DenAll K F vs.dropLast xs.dropLast := by
  rw [List.dropLast_eq_take, List.dropLast_eq_take, h.len]; exact h.take _
theorem DenAll.atIE {vs : List V} {xs : List PyData} {i : Int} {x : PyData} (h : DenAll K F vs xs) (e : L2.atI xs i = some x) : ∃ v, L2.atI vs i = some v /\ Den K F v x := by
  unfold L2.atI at *
  rw [h.len]
  cases q : ixN xs.length i with
  | none => rw [q] at e; cases e
  | some j => rw [q] at e; exact DenAll.at h e
end
end L2
namespace Pu
open PySem L2 My Prf
abbrev Frag := PySem.W.Frag
inductive OT where
  | leaf (x : PyData) | nd (b : Bool) (a : Addr) (k : OT) | nil | cons (h t : OT)
def OT.fp : OT -> List Addr
  | .leaf _ => []
  | .nd _ a k => a :: k.fp
  | .nil => []
  | .cons h t => h.fp ++ t.fp
def OT.dat : OT -> List PyData
  | .leaf x => [x]
  | .nd true _ k => [.list k.dat]
  | .nd false _ k => [.tuple k.dat]
  | .nil => []
  | .cons h t => h.dat ++ t.dat
def OT.put (a : Addr) (n : OT) : OT -> OT
  | .leaf x => .leaf x
  | .nd b a' k => .nd b a' (if a' = a then n else OT.put a n k)
  | .nil => .nil
  | .cons h t => .cons (OT.put a n h) (OT.put a n t)
inductive SV where
  | d (x : PyData) | own (xs : List PyData) | bor (xs : List PyData) | st | tr (t : OT) | bt (t : OT) | al (a : Addr)
def SV.foot (v : V) : SV -> Addr -> Prop
  | .own _, a => v = .ref a
  | .tr t, a => a ∈ t.fp
  | _, _ => False
def SV.isRes : SV -> Bool
  | .bor _ => false
  | .bt _ => false
  | .al _ => false
  | _ => true
abbrev PEnv := List (Option SV)
structure Wd where
  M : Addr -> Prop
  H : Hpp
  F : Hpp
structure Wd.Ok (w : Wd) : Prop where
  sub : Same w.F w.H
  st : ∀ p, w.M p -> StAt w.H p
  nf : ∀ p, w.M p -> w.F p = none
structure Lw (w w' : Wd) : Prop where
  f : Same w.F w'.F
  h : ∀ b o, w.H b = some o -> ¬ w.M b -> w'.H b = some o
  m : ∀ b, w.M b -> w'.M b
  mn : ∀ b, w'.M b -> w.M b \/ w.H b = none
  dom : ∀ b, w'.H b = none -> w.H b = none
structure Le (w w' : Wd) : Prop extends Lw w w' where
  n : ∀ a o, w'.F a = some o -> w.F a = some o \/ w.H a = none
theorem Lw.refl (w : Wd) : Lw w w := ⟨Same.refl _, fun _ _ h _ => h, fun _ h => h, fun _ h => .inl h, fun _ h => h⟩
theorem Le.refl (w : Wd) : Le w w := ⟨Lw.refl w, fun _ _ h => .inl h⟩
theorem Lw.nm {w w' : Wd} (a : Lw w w') {b : Addr} (h : w.H b ≠ none) (n : ¬ w.M b) : ¬ w'.M b := fun z => (a.mn b z).elim n h
theorem Lw.trans {w w1 w2 : Wd} (a : Lw w w1) (b : Lw w1 w2) : Lw w w2 :=
  ⟨a.f.trans b.f, fun c o h n => b.h c o (a.h c o h n) (a.nm (by rw [h]; simp) n), fun c h => b.m c (a.m c h),
   fun c h => (b.mn c h).elim (a.mn c) fun z => .inr (a.dom c z), fun c h => a.dom c (b.dom c h)⟩
theorem Le.trans {w w1 w2 : Wd} (a : Le w w1) (b : Le w1 w2) : Le w w2 :=
  ⟨a.toLw.trans b.toLw, fun c o h => (b.n c o h).elim (a.n c o) fun z => .inr (a.dom c z)⟩
theorem Le.fnone {w w' : Wd} (a : Le w w') {l : Addr} (h : w.F l = none) (h' : w.H l ≠ none) : w'.F l = none := by
  cases q : w'.F l with
  | none => rfl
  | some o => rcases a.n l o q with z | z
              · rw [h] at z; cases z
              · exact absurd z h'
structure Ct where
  K : Frag
  w0 : Wd
  Z : Addr -> Prop
def VV (K : Frag) (w : Wd) (v : V) (x : PyData) : Prop := Den K w.F v x \/ ∃ l vs xs, v = .ref l /\ x = .list xs /\ w.H l = some (.lst vs) /\ ¬ w.M l /\ DenAll K w.F vs xs
def ho : Bool -> List V -> HO
  | true, vs => .lst vs
  | false, vs => .tup vs
def Tre (K : Frag) (w : Wd) : OT -> List V -> Prop
  | .leaf x, vs => ∃ v, vs = [v] /\ Den K w.F v x
  | .nd b a k, vs => vs = [.ref a] /\ ∃ us, w.H a = some (ho b us) /\ Tre K w k us
  | .nil, vs => vs = []
  | .cons h t, vs => ∃ v r, vs = v :: r /\ Tre K w h [v] /\ Tre K w t r
theorem Tre.mono {K : Frag} {w w' : Wd} (a : Lw w w') : ∀ {t : OT} {vs : List V}, Tre K w t vs -> (∀ a ∈ t.fp, ¬ w.M a) -> Tre K w' t vs
  | .leaf _, _, ⟨v, e, h⟩, _ => ⟨v, e, Den.same a.f h⟩
  | .nd _ p _, _, ⟨e, us, h, k⟩, n => ⟨e, us, a.h _ _ h (n p (by simp [OT.fp])), Tre.mono a k fun q hq => n q (by simp [OT.fp, hq])⟩
  | .nil, _, e, _ => e
  | .cons _ _, _, ⟨v, r, e, h, t⟩, n => ⟨v, r, e, Tre.mono a h fun q hq => n q (by simp [OT.fp, hq]), Tre.mono a t fun q hq => n q (by simp [OT.fp, hq])⟩
theorem Tre.sameF {K : Frag} {M : Addr -> Prop} {H F F' : Hpp} (e : Same F F') : ∀ {t : OT} {vs : List V}, Tre K ⟨M, H, F⟩ t vs -> Tre K ⟨M, H, F'⟩ t vs
  | .leaf _, _, ⟨v, q, h⟩ => ⟨v, q, Den.same e h⟩
  | .nd _ _ _, _, ⟨q, us, h, k⟩ => ⟨q, us, h, Tre.sameF e k⟩
  | .nil, _, q => q
  | .cons _ _, _, ⟨v, r, q, h, t⟩ => ⟨v, r, q, Tre.sameF e h, Tre.sameF e t⟩
def VR (c : Ct) (w : Wd) (v : V) : SV -> Prop
  | .d x => Den c.K w.F v x
  | .own xs => ∃ l vs, v = .ref l /\ w.H l = some (.lst vs) /\ w.F l = none /\ ¬ w.M l /\ c.w0.H l = none /\ DenAll c.K w.F vs xs
  | .bor xs => Den c.K w.F v (.list xs) \/ ∃ l vs, v = .ref l /\ c.w0.H l = some (.lst vs) /\ ¬ c.w0.M l /\ DenAll c.K w.F vs xs
  | .st => ∃ p, v = .ref p /\ w.M p
  | .tr t => Tre c.K w t [v] /\ (∀ a ∈ t.fp, w.H a ≠ none /\ w.F a = none /\ ¬ w.M a /\ c.w0.H a = none) /\ t.fp.Nodup
  | .bt t => Tre c.K ⟨c.w0.M, c.w0.H, w.F⟩ t [v] /\ ∀ a ∈ t.fp, ¬ c.w0.M a
  | .al a => v = .ref a
theorem B0o {H : Hpp} {p b : Addr} {o : HO} (h : upd H p o b = none) : H b = none := by
  unfold upd at h; split at h
  · cases h
  · exact h
theorem VR.foot {c : Ct} {w : Wd} {v : V} {a : Addr} : ∀ {s : SV}, VR c w v s -> s.foot v a -> w.H a ≠ none /\ w.F a = none /\ ¬ w.M a /\ c.w0.H a = none
  | .own _, ⟨l, vs, e, h1, h2, h3, h4, _⟩, f => by
    have : V.ref l = .ref a := e.symm.trans f
    cases this
    exact ⟨by rw [h1]; simp, h2, h3, h4⟩
  | .tr _, h, f => h.2.1 a f
theorem VV.mono {K : Frag} {w w' : Wd} {v : V} {x : PyData} (a : Lw w w') (h : VV K w v x) : VV K w' v x := by
  rcases h with h | ⟨l, vs, xs, e, e', h1, h2, h3⟩
  · exact .inl (Den.same a.f h)
  · exact .inr ⟨l, vs, xs, e, e', a.h _ _ h1 h2, a.nm (by rw [h1]; simp) h2, DenAll.same a.f h3⟩
theorem VV.den {K : Frag} {w : Wd} {v : V} {x : PyData} (o : w.Ok) (h : VV K w v x) : Den K w.H v x := by
  rcases h with h | ⟨l, vs, xs, e, e', h1, h2, h3⟩
  · exact Den.same o.sub h
  · rw [e, e']; exact .lst (SqL.of h1) (DenAll.same o.sub h3)
theorem VR.mono {c : Ct} {w w' : Wd} {v : V} (a : Le w w') : ∀ {s : SV}, VR c w v s -> VR c w' v s
  | .d _, h => Den.same a.f h
  | .own xs, ⟨l, vs, e, h1, h2, h3, h4, h5⟩ => ⟨l, vs, e, a.h _ _ h1 h3, a.fnone h2 (by rw [h1]; simp), a.nm (by rw [h1]; simp) h3, h4, DenAll.same a.f h5⟩
  | .bor xs, .inl h => .inl (Den.same a.f h)
  | .bor xs, .inr ⟨l, vs, e, h1, h2, h3⟩ => .inr ⟨l, vs, e, h1, h2, DenAll.same a.f h3⟩
  | .st, ⟨p, e, h⟩ => ⟨p, e, a.m p h⟩
  | .bt t, ⟨h, o⟩ => ⟨h.sameF a.f, o⟩
  | .al _, h => h
  | .tr t, ⟨h, o, d⟩ => ⟨h.mono a.toLw fun q hq => (o q hq).2.2.1, fun q hq => let ⟨h1, h2, h3, h4⟩ := o q hq; ⟨fun z => h1 (a.dom q z), a.fnone h2 h1, a.nm h1 h3, h4⟩, d⟩
theorem Tre.writ {K : Frag} {w : Wd} {l : Addr} {us : List V} : ∀ {t : OT} {vs : List V}, Tre K w t vs -> l ∉ t.fp -> Tre K ⟨w.M, upd w.H l (.lst us), w.F⟩ t vs
  | .leaf _, _, h, _ => h
  | .nd _ p _, _, ⟨e, ys, h, k⟩, n => ⟨e, ys, by show upd w.H l _ p = _; rw [C7 (fun z => n (by simp [OT.fp, z]))]; exact h, Tre.writ k fun q => n (by simp [OT.fp, q])⟩
  | .nil, _, e, _ => e
  | .cons _ _, _, ⟨v, r, e, h, t⟩, n => ⟨v, r, e, Tre.writ h fun q => n (by simp [OT.fp, q]), Tre.writ t fun q => n (by simp [OT.fp, q])⟩
theorem VR.writ {c : Ct} {w : Wd} {v : V} {l : Addr} {us : List V} (hl : w.H l ≠ none) : ∀ {s : SV}, VR c w v s -> ¬ s.foot v l -> VR c ⟨w.M, upd w.H l (.lst us), w.F⟩ v s
  | .d _, h, _ => h
  | .own _, ⟨l', vs, e, k1, k2, k3, k4, k5⟩, n => ⟨l', vs, e, by show upd w.H l _ l' = _; rw [C7 (fun z => n (by rw [<- z]; exact e))]; exact k1, k2, k3, k4, k5⟩
  | .bor _, h, _ => h
  | .st, h, _ => h
  | .bt _, h, _ => h
  | .al _, h, _ => h
  | .tr _, ⟨h, o, d⟩, n => ⟨h.writ n, fun a ha => ⟨fun z => (o a ha).1 (B0o z), (o a ha).2⟩, d⟩
structure EnvOk (c : Ct) (w : Wd) (env : PEnv) (σ : St) : Prop where
  wok : w.Ok
  le0 : Le c.w0 w
  len : env.length = σ.length
  at' : ∀ (i : Nat) s, env[i]? = some (some s) -> ∃ v, σ[i]? = some (some v) /\ VR c w v s
  own : ∀ (i j : Nat) s t v u a, env[i]? = some (some s) -> env[j]? = some (some t) -> σ[i]? = some (some v) -> σ[j]? = some (some u) -> s.foot v a -> t.foot u a -> i = j
  zf : ∀ a, c.Z a -> w.F a = none /\ w.H a ≠ none /\ ¬ w.M a
  zo : ∀ a (j : Nat) t u, c.Z a -> env[j]? = some (some t) -> σ[j]? = some (some u) -> ¬ t.foot u a
def New (c : Ct) (env : PEnv) (σ : St) (v : V) (s : SV) : Prop := ∀ a, s.foot v a -> (∀ (j : Nat) t u, env[j]? = some (some t) -> σ[j]? = some (some u) -> ¬ t.foot u a) /\ ¬ c.Z a
theorem EnvOk.look {c : Ct} {w : Wd} {env : PEnv} {σ : St} (E : EnvOk c w env σ) {j : Nat} {t : SV} {u : V} (h : env[j]? = some (some t)) (hu : σ[j]? = some (some u)) : VR c w u t := by
  obtain ⟨v, h1, h2⟩ := E.at' j t h
  rw [hu] at h1; cases h1; exact h2
theorem EnvOk.fresh {c : Ct} {w : Wd} {env : PEnv} {σ : St} (E : EnvOk c w env σ) {p : Addr} (hp : w.H p = none) : (∀ (j : Nat) t u, env[j]? = some (some t) -> σ[j]? = some (some u) -> ¬ t.foot u p) /\ ¬ c.Z p :=
  ⟨fun _ _ _ h hu f => ((E.look h hu).foot f).1 hp, fun z => (E.zf p z).2.1 hp⟩
theorem Lw.hsome {w w' : Wd} (a : Lw w w') {l : Addr} (h : w.H l ≠ none) : w'.H l ≠ none := fun z => h (a.dom l z)
theorem EnvOk.mono {c : Ct} {w w' : Wd} {env : PEnv} {σ : St} (E : EnvOk c w env σ) (ok : w'.Ok) (a : Le w w') : EnvOk c w' env σ :=
  ⟨ok, E.le0.trans a, E.len, fun i s e => let ⟨v, h1, h2⟩ := E.at' i s e; ⟨v, h1, h2.mono a⟩, E.own, fun b z => let ⟨h1, h2, h3⟩ := E.zf b z; ⟨a.fnone h1 h2, a.hsome h2, a.nm h2 h3⟩, E.zo⟩
structure Res (c : Ct) (w : Wd) (env : PEnv) (σ : St) (w' : Wd) (v : V) (s : SV) : Prop where
  ev : EnvOk c w' env σ
  lw : Lw w w'
  val : VR c w' v s
  new : New c env σ v s
  res : s.isRes = true
theorem Res.data {c : Ct} {w : Wd} {env : PEnv} {σ : St} {v : V} {x : PyData} (E : EnvOk c w env σ) (h : Den c.K w.F v x) : Res c w env σ w v (.d x) :=
  ⟨E, Lw.refl w, h, fun _ e => (nomatch e), rfl⟩
def Wd.tup (w : Wd) (p : Addr) (o : HO) : Wd := ⟨w.M, upd w.H p o, upd w.F p o⟩
def Wd.lay (w : Wd) (p : Addr) (o : HO) : Wd := ⟨w.M, upd w.H p o, w.F⟩
theorem Wd.Ok.fnone {w : Wd} (o : w.Ok) {p : Addr} (h : w.H p = none) : w.F p = none := by
  cases q : w.F p with
  | none => rfl
  | some u => have := o.sub p u q; rw [h] at this; cases this
theorem Wd.Ok.mne {w : Wd} (o : w.Ok) {p q : Addr} (h : w.H p = none) (hq : w.M q) : q ≠ p := by
  obtain ⟨c, m, f, e, _⟩ := (o.st q hq).ex
  exact D4 e h
theorem P7 {H : Hpp} {p b : Addr} {o : HO} (h : upd H p o b = none) : H b = none := by
  unfold upd at h; split at h
  · cases h
  · exact h
theorem Wd.tup_ok {w : Wd} {p : Addr} {o : HO} (ok : w.Ok) (h : w.H p = none) : (w.tup p o).Ok :=
  ⟨fun b u e => by
    show upd w.H p o b = some u
    have e' : upd w.F p o b = some u := e
    unfold upd at e' ⊢
    split at e'
    · rename_i z; rw [if_pos z]; exact e'
    · rename_i z; rw [if_neg z]; exact ok.sub b u e',
   fun q hq => (ok.st q hq).same (Same.upd h), fun q hq => by
    show upd w.F p o q = none
    rw [C7 (ok.mne h hq)]; exact ok.nf q hq⟩
theorem Wd.lay_ok {w : Wd} {p : Addr} {o : HO} (ok : w.Ok) (h : w.H p = none) : (w.lay p o).Ok :=
  ⟨ok.sub.trans (Same.upd h), fun q hq => (ok.st q hq).same (Same.upd h), ok.nf⟩
theorem Wd.tup_le {w : Wd} {p : Addr} {o : HO} (ok : w.Ok) (h : w.H p = none) : Le w (w.tup p o) :=
  ⟨⟨Same.upd (ok.fnone h), fun b u e _ => Same.upd h b u e, fun _ z => z, fun _ z => .inl z, fun b z => P7 z⟩, fun a u e => by
    have e' : upd w.F p o a = some u := e
    unfold upd at e'
    split at e'
    · rename_i z; rw [z]; exact .inr h
    · exact .inl e'⟩
theorem Wd.lay_le {w : Wd} {p : Addr} {o : HO} (h : w.H p = none) : Le w (w.lay p o) :=
  ⟨⟨Same.refl _, fun b u e _ => Same.upd h b u e, fun _ z => z, fun _ z => .inl z, fun b z => P7 z⟩, fun a u e => .inl e⟩
theorem Res.tup {c : Ct} {w : Wd} {env : PEnv} {σ : St} {p : Addr} {vs : List V} {xs : List PyData} (E : EnvOk c w env σ) (h : w.H p = none) (hd : DenAll c.K w.F vs xs) : Res c w env σ (w.tup p (.tup vs)) (.ref p) (.d (.tuple xs)) :=
  ⟨E.mono (Wd.tup_ok E.wok h) (Wd.tup_le E.wok h), (Wd.tup_le E.wok h).toLw, .tup (SqT.of C9) (DenAll.same (Wd.tup_le E.wok h).f hd), fun _ e => (nomatch e), rfl⟩
theorem Res.lst {c : Ct} {w : Wd} {env : PEnv} {σ : St} {p : Addr} {vs : List V} {xs : List PyData} (E : EnvOk c w env σ) (h : w.H p = none) (hd : DenAll c.K w.F vs xs) : Res c w env σ (w.lay p (.lst vs)) (.ref p) (.own xs) :=
  ⟨E.mono (Wd.lay_ok E.wok h) (Wd.lay_le h), (Wd.lay_le h).toLw, ⟨p, vs, rfl, C9, E.wok.fnone h, fun z => E.wok.mne h z rfl, E.le0.dom p h, hd⟩,
   fun a f => (by
    have : V.ref p = .ref a := f
    cases this
    exact E.fresh h), rfl⟩
theorem Res.frz {c : Ct} {w w1 : Wd} {env : PEnv} {σ : St} {v : V} {xs : List PyData} (R : Res c w env σ w1 v (.own xs)) : ∃ w', w'.H = w1.H /\ EnvOk c w' env σ /\ Lw w w' /\ Den c.K w'.F v (.list xs) := by
  obtain ⟨E, lw, ⟨l, vs, e, h1, h2, h3, h4, h5⟩, new, _⟩ := R
  subst e
  obtain ⟨n1, n2⟩ := new l rfl
  have up : Same w1.F (upd w1.F l (.lst vs)) := Same.upd h2
  have lw' : Lw w1 ⟨w1.M, w1.H, upd w1.F l (.lst vs)⟩ := ⟨up, fun _ _ h _ => h, fun _ h => h, fun _ h => .inl h, fun _ h => h⟩
  refine ⟨⟨w1.M, w1.H, upd w1.F l (.lst vs)⟩, rfl, ⟨⟨fun b u q => ?_, E.wok.st, fun p hp => ?_⟩, ⟨E.le0.toLw.trans lw', fun a u q => ?_⟩, E.len, fun i s q => ?_, E.own, fun a za => ?_, E.zo⟩, lw.trans lw', .lst (SqL.of C9) (DenAll.same up h5)⟩
  · have q' : upd w1.F l (.lst vs) b = some u := q
    unfold upd at q'
    split at q'
    · rename_i z; rw [z]; exact h1.trans q'
    · exact E.wok.sub b u q'
  · show upd w1.F l (.lst vs) p = none
    rw [C7 (fun z => h3 (by rw [<- z]; exact hp))]; exact E.wok.nf p hp
  · have q' : upd w1.F l (.lst vs) a = some u := q
    unfold upd at q'
    split at q'
    · rename_i z; rw [z]; exact .inr h4
    · exact E.le0.n a u q'
  · obtain ⟨v, g1, g2⟩ := E.at' i s q
    refine ⟨v, g1, ?_⟩
    cases s with
    | d x => exact Den.same up g2
    | own ys =>
      obtain ⟨l', us, e', k1, k2, k3, k4, k5⟩ := g2
      subst e'
      refine ⟨l', us, rfl, k1, ?_, k3, k4, DenAll.same up k5⟩
      show upd w1.F l (.lst vs) l' = none
      rw [C7 (fun z => n1 i _ _ q g1 (by subst z; rfl))]; exact k2
    | bor ys =>
      rcases g2 with g | ⟨l', us, e', k1, k2, k3⟩
      · exact .inl (Den.same up g)
      · exact .inr ⟨l', us, e', k1, k2, DenAll.same up k3⟩
    | st => exact g2
    | bt t => exact ⟨g2.1.sameF up, g2.2⟩
    | al a => exact g2
    | tr t =>
      obtain ⟨k1, k2, k3⟩ := g2
      refine ⟨k1.mono lw' fun p hp => (k2 p hp).2.2.1, fun p hp => ⟨(k2 p hp).1, ?_, (k2 p hp).2.2⟩, k3⟩
      show upd w1.F l (.lst vs) p = none
      rw [C7 (fun z => n1 i _ _ q g1 (by subst z; exact hp))]; exact (k2 p hp).2.1
  · obtain ⟨z1, z2, z3⟩ := E.zf a za
    refine ⟨?_, z2, z3⟩
    show upd w1.F l (.lst vs) a = none
    rw [C7 (fun z => n2 (by subst z; exact za))]; exact z1
theorem EnvOk.set {c : Ct} {w : Wd} {env : PEnv} {σ : St} {v : V} {s : SV} {i : Nat} (E : EnvOk c w env σ) (h : VR c w v s) (new : New c env σ v s) :
    EnvOk c w (env.set i (some s)) (σ.set i (some v)) := by
  have hl := E.len
  have hd : ∀ {j : Nat} {t : SV} {u : V}, (env.set i (some s))[j]? = some (some t) -> (σ.set i (some v))[j]? = some (some u) -> (i = j /\ t = s /\ u = v) \/ (i ≠ j /\ env[j]? = some (some t) /\ σ[j]? = some (some u)) := by
    intro j t u q q'
    rw [List.getElem?_set] at q q'
    by_cases e : i = j
    · subst e
      rw [if_pos rfl] at q q'
      split at q
      · rename_i z
        rw [if_pos (by omega)] at q'
        cases q; cases q'; exact .inl ⟨rfl, rfl, rfl⟩
      · cases q
    · rw [if_neg e] at q q'
      exact .inr ⟨e, q, q'⟩
  refine ⟨E.wok, E.le0, by simpa using hl, fun j t q => ?_, fun j k s1 t1 v1 u1 a q1 q2 q3 q4 f1 f2 => ?_, E.zf, fun a j t u za q q' => ?_⟩
  · rw [List.getElem?_set] at q ⊢
    by_cases e : i = j
    · subst e
      rw [if_pos rfl] at q ⊢
      split at q
      · rename_i z
        rw [if_pos (by omega)]
        cases q
        exact ⟨v, rfl, h⟩
      · cases q
    · rw [if_neg e] at q ⊢
      exact E.at' j t q
  · rcases hd q1 q3 with ⟨e1, rfl, rfl⟩ | ⟨e1, p1, p3⟩
    · rcases hd q2 q4 with ⟨e2, rfl, rfl⟩ | ⟨e2, q2, q4⟩
      · exact e1.symm.trans e2
      · exact absurd f2 ((new a f1).1 k _ _ q2 q4)
    · rcases hd q2 q4 with ⟨e2, rfl, rfl⟩ | ⟨e2, p2, p4⟩
      · exact absurd f1 ((new a f2).1 j _ _ p1 p3)
      · exact E.own j k _ _ _ _ a p1 p2 p3 p4 f1 f2
  · rcases hd q q' with ⟨_, rfl, rfl⟩ | ⟨_, q, q'⟩
    · exact fun f => (new a f).2 za
    · exact E.zo a j t u za q q'
end Pu
namespace Pu
open PySem L2 My Prf
abbrev PX := PEnv -> (SV -> PEnv -> Prop) -> Prop
abbrev PDt := PEnv -> (PyData -> PEnv -> Prop) -> Prop
abbrev PTt := PEnv -> (Bool -> PEnv -> Prop) -> Prop
abbrev PAr := PEnv -> (List PyData -> PEnv -> Prop) -> Prop
abbrev PAs := PEnv -> (List SV -> PEnv -> Prop) -> Prop
theorem Res.pre {c : Ct} {w w1 w2 : Wd} {env : PEnv} {σ : St} {v : V} {s : SV} (a : Lw w w1) (R : Res c w1 env σ w2 v s) : Res c w env σ w2 v s := ⟨R.ev, a.trans R.lw, R.val, R.new, R.res⟩
class RE (K : Frag) (te : TE) (pe : outParam PX) : Prop where
  ok : ∀ (c : Ct) (w : Wd) (env : PEnv) (σ : St) (Qp : SV -> PEnv -> Prop) (Q : VK), c.K = K -> EnvOk c w env σ -> pe env Qp -> (∀ v s env' w', Res c w env' σ w' v s -> Qp s env' -> Q v w'.H) -> te σ w.H Q
class RD (K : Frag) (te : TE) (pd : outParam PDt) : Prop where
  ok : ∀ (c : Ct) (w : Wd) (env : PEnv) (σ : St) (Qp : PyData -> PEnv -> Prop) (Q : VK), c.K = K -> EnvOk c w env σ -> pd env Qp -> (∀ v x env' w', EnvOk c w' env' σ -> Lw w w' -> Den K w'.F v x -> Qp x env' -> Q v w'.H) -> te σ w.H Q
class RW (K : Frag) (te : TE) (pd : outParam PDt) : Prop where
  ok : ∀ (c : Ct) (w : Wd) (env : PEnv) (σ : St) (Qp : PyData -> PEnv -> Prop) (Q : VK), c.K = K -> EnvOk c w env σ -> pd env Qp -> (∀ v x env' w', EnvOk c w' env' σ -> Lw w w' -> VV K w' v x -> Qp x env' -> Q v w'.H) -> te σ w.H Q
def SV.asD (s : SV) (k : PyData -> Prop) : Prop := match s with
  | .d x => k x
  | .own xs => k (.list xs)
  | _ => False
def pdat (pe : PX) (env : PEnv) (Q : PyData -> PEnv -> Prop) : Prop := pe env fun s e => s.asD fun x => Q x e
instance rd_of {K : Frag} {te : TE} {pe : PX} [h : RE K te pe] : RD K te (pdat pe) where
  ok := by
    rintro c w env σ Qp Q rfl E p k
    refine h.ok c w env σ _ Q rfl E p fun v s env' w' R q => ?_
    cases s with
    | d x => exact k v x env' w' R.ev R.lw R.val q
    | own xs =>
      obtain ⟨w2, e, E2, l2, d2⟩ := R.frz
      rw [<- e]
      exact k v _ env' w2 E2 l2 d2 q
    | bor xs => exact (show False from q).elim
    | st => exact (show False from q).elim
    | tr t => exact (show False from q).elim
    | bt t => exact (show False from q).elim
    | al t => exact (show False from q).elim
instance (priority := low) rw_of {K : Frag} {te : TE} {pd : PDt} [h : RD K te pd] : RW K te pd where
  ok := fun c w env σ Qp Q e E p k => h.ok c w env σ Qp Q e E p fun v x env' w' E' l d q => k v x env' w' E' l (.inl d) q
def pVar (i : Nat) (env : PEnv) (Q : SV -> PEnv -> Prop) : Prop := match env[i]? with
  | some (some (.d x)) => Q (.d x) env
  | some (some (.own xs)) => Q (.d (.list xs)) (env.set i (some (.d (.list xs))))
  | some (some .st) => Q .st env
  | _ => False
def B5v (i : Nat) (env : PEnv) (Q : PyData -> PEnv -> Prop) : Prop := match env[i]? with
  | some (some (.d x)) => Q x env
  | some (some (.own xs)) => Q (.list xs) env
  | some (some (.bor xs)) => Q (.list xs) env
  | _ => False
theorem EnvOk.frz {c : Ct} {w : Wd} {env : PEnv} {σ : St} {i : Nat} {xs : List PyData} (E : EnvOk c w env σ) (h : env[i]? = some (some (.own xs))) :
    ∃ w' v, w'.H = w.H /\ σ[i]? = some (some v) /\ EnvOk c w' (env.set i (some (.d (.list xs)))) σ /\ Lw w w' /\ Den c.K w'.F v (.list xs) := by
  obtain ⟨v, hv, hV⟩ := E.at' i _ h
  have hV' := hV
  obtain ⟨l, vs, e, h1, h2, h3, h4, h5⟩ := hV'
  have up : ∀ {j : Nat} {t : SV}, (env.set i none)[j]? = some (some t) -> i ≠ j /\ env[j]? = some (some t) := by
    intro j t q
    rw [List.getElem?_set] at q
    split at q
    · split at q <;> cases q
    · rename_i z; exact ⟨z, q⟩
  have E' : EnvOk c w (env.set i none) σ := ⟨E.wok, E.le0, by simpa using E.len, fun j s q => E.at' j s (up q).2, fun j k s t v u a q1 q2 => E.own j k s t v u a (up q1).2 (up q2).2, E.zf, fun a j t u za q => E.zo a j t u za (up q).2⟩
  have R : Res c w (env.set i none) σ w v (.own xs) := ⟨E', Lw.refl w, hV, fun a f => ⟨fun j t u q z g => (up q).1 (E.own i j _ _ _ _ a h (up q).2 hv z f g), fun za => E.zo a i _ _ za h hv f⟩, rfl⟩
  obtain ⟨w', e', E2, l2, d2⟩ := R.frz
  refine ⟨w', v, e', hv, ?_, l2, d2⟩
  have E3 := E2.set (i := i) (v := v) (s := .d (.list xs)) d2 (fun _ z => nomatch z)
  rw [List.set_set] at E3
  have hi : i < σ.length := (List.getElem?_eq_some_iff.mp hv).1
  rwa [show σ.set i (some v) = σ by
    refine List.ext_getElem? fun j => ?_
    rw [List.getElem?_set]
    split
    · rename_i z; subst z; simp [hv]
    · rfl] at E3
instance re_var {K : Frag} {i : Nat} : RE K (tVar i) (pVar i) where
  ok := by
    rintro c w env σ Qp Q rfl E p k
    unfold pVar at p
    split at p
    · rename_i x e
      obtain ⟨v, h1, h2⟩ := E.at' i _ e
      exact ⟨v, h1, k v _ env w (Res.data E h2) p⟩
    · rename_i xs e
      obtain ⟨w', v, e', hv, E', l, d⟩ := E.frz e
      refine ⟨v, hv, ?_⟩
      rw [<- e']
      exact k v (.d (.list xs)) _ w' ⟨E', l, d, fun _ z => (nomatch z), rfl⟩ p
    · rename_i e
      obtain ⟨v, h1, h2⟩ := E.at' i _ e
      exact ⟨v, h1, k v _ env w ⟨E, Lw.refl w, h2, fun _ z => (nomatch z), rfl⟩ p⟩
    · exact p.elim
theorem VR.vv {c : Ct} {w : Wd} {v : V} {xs : List PyData} (l : Le c.w0 w) (h : VR c w v (.bor xs)) : VV c.K w v (.list xs) := by
  rcases h with h | ⟨l', vs, e, h1, h2, h3⟩
  · exact .inl h
  · exact .inr ⟨l', vs, xs, e, rfl, l.h _ _ h1 h2, l.nm (by rw [h1]; simp) h2, h3⟩
instance rw_var {K : Frag} {i : Nat} : RW K (tVar i) (B5v i) where
  ok := by
    rintro c w env σ Qp Q rfl E p k
    unfold B5v at p
    split at p
    · rename_i x e
      obtain ⟨v, h1, h2⟩ := E.at' i _ e
      exact ⟨v, h1, k v _ env w E (Lw.refl w) (.inl h2) p⟩
    · rename_i xs e
      obtain ⟨v, h1, l, vs, e', g1, g2, g3, g4, g5⟩ := E.at' i _ e
      exact ⟨v, h1, k v _ env w E (Lw.refl w) (.inr ⟨l, vs, xs, e', rfl, g1, g3, g5⟩) p⟩
    · rename_i xs e
      obtain ⟨v, h1, h2⟩ := E.at' i _ e
      exact ⟨v, h1, k v _ env w E (Lw.refl w) (h2.vv E.le0) p⟩
    · exact p.elim
def pC (x : PyData) (env : PEnv) (Q : SV -> PEnv -> Prop) : Prop := Q (.d x) env
theorem O3 {K : Frag} {v : V} {x : PyData} (h : ∀ F, Den K F v x) : RE K (tC v) (pC x) where
  ok := by
    rintro c w env σ Qp Q rfl E p k
    exact k _ _ env w (Res.data E (h _)) p
instance re_int {K : Frag} {i : Int} : RE K (tC (.int i)) (pC (.int i)) := O3 fun _ => .int i
instance re_bl {K : Frag} {b : Bool} : RE K (tC (.bl b)) (pC (.bool b)) := O3 fun _ => .bl b
instance re_non {K : Frag} : RE K (tC .non) (pC .none) := O3 fun _ => .non
instance re_str {K : Frag} {x : Str} : RE K (tC (.str x)) (pC (.str x)) := O3 fun _ => .str x
class GD (K : Frag) (a : Addr) (x : outParam PyData) : Prop where
  ok : ∀ F, Den K F (.ref a) x
instance re_glob {K : Frag} {a : Addr} {x : PyData} [h : GD K a x] : RE K (tC (.ref a)) (pC x) := O3 h.ok
class RO (K : Frag) (r : R2) (pr : outParam (PyData -> PyData -> (SV -> Prop) -> Prop)) : Prop where
  ok : ∀ (c : Ct) (w : Wd) (env : PEnv) (σ : St) (x y : V) (dx dy : PyData) (Qp : SV -> Prop) (Q : VK), c.K = K -> EnvOk c w env σ -> VV K w x dx -> VV K w y dy -> pr dx dy Qp -> (∀ v s w', Res c w env σ w' v s -> Qp s -> Q v w'.H) -> r x y w.H Q
def pOp (pr : PyData -> PyData -> (SV -> Prop) -> Prop) (pa pb : PDt) (env : PEnv) (Q : SV -> PEnv -> Prop) : Prop := pa env fun x e1 => pb e1 fun y e2 => pr x y fun s => Q s e2
instance re_op {K : Frag} {r : R2} {ta tb : TE} {pr : PyData -> PyData -> (SV -> Prop) -> Prop} {pa pb : PDt} [h : RO K r pr] [ha : RW K ta pa] [hb : RW K tb pb] : RE K (tOp r ta tb) (pOp pr pa pb) where
  ok := by
    rintro c w env σ Qp Q rfl E p k
    refine ha.ok c w env σ _ _ rfl E p fun x dx e1 w1 E1 l1 v1 q1 => ?_
    refine hb.ok c w1 e1 σ _ _ rfl E1 q1 fun y dy e2 w2 E2 l2 v2 q2 => ?_
    exact h.ok c w2 e2 σ x y dx dy _ _ rfl E2 (v1.mono l2) v2 q2 fun v s w' R q => k v s e2 w' (R.pre (l1.trans l2)) q
class SG (g : Int -> Int -> V) (gd : outParam (Int -> Int -> PyData)) : Prop where
  ok : ∀ i j K F, Den K F (g i j) (gd i j)
instance sg_int {f : Int -> Int -> Int} : SG (fun i j => .int (f i j)) (fun i j => .int (f i j)) := ⟨fun _ _ _ _ => .int _⟩
instance sg_bl {f : Int -> Int -> Bool} : SG (fun i j => .bl (f i j)) (fun i j => .bool (f i j)) := ⟨fun _ _ _ _ => .bl _⟩
def pI (C : Int -> Int -> Prop) (gd : Int -> Int -> PyData) (x y : PyData) (Q : SV -> Prop) : Prop := match x, y with
  | .int i, .int j => C i j /\ Q (.d (gd i j))
  | _, _ => False
def pI0 (gd : Int -> Int -> PyData) (x y : PyData) (Q : SV -> Prop) : Prop := match x, y with
  | .int i, .int j => Q (.d (gd i j))
  | _, _ => False
theorem VV.intE {K : Frag} {w : Wd} {v : V} {i : Int} (h : VV K w v (.int i)) : v = .int i := by
  rcases h with h | ⟨l, vs, xs, e, e', _⟩
  · exact h.intE
  · cases e'
theorem VV.blE {K : Frag} {w : Wd} {v : V} {b : Bool} (h : VV K w v (.bool b)) : v = .bl b := by
  rcases h with h | ⟨l, vs, xs, e, e', _⟩
  · exact h.blE
  · cases e'
instance ro_I {K : Frag} {C : Int -> Int -> Prop} {g : Int -> Int -> V} {gd : Int -> Int -> PyData} [s : SG g gd] : RO K (rI C g) (pI C gd) where
  ok := by
    rintro c w env σ x y dx dy Qp Q rfl E vx vy p k
    unfold pI at p
    split at p
    · rename_i i j
      exact ⟨i, j, vx.intE, vy.intE, p.1, k _ _ w (Res.data E (s.ok i j _ _)) p.2⟩
    · exact p.elim
instance ro_I0 {K : Frag} {g : Int -> Int -> V} {gd : Int -> Int -> PyData} [s : SG g gd] : RO K (rI0 g) (pI0 gd) where
  ok := by
    rintro c w env σ x y dx dy Qp Q rfl E vx vy p k
    unfold pI0 at p
    split at p
    · rename_i i j
      exact ⟨i, j, vx.intE, vy.intE, k _ _ w (Res.data E (s.ok i j _ _)) p⟩
    · exact p.elim
def pEqD (x y : PyData) (Q : SV -> Prop) : Prop := x.canLay0 = true /\ y.canLay0 = true /\ x.depth <= 60 /\ Q (.d (.bool (PyData.eqv x y)))
def pNeD (x y : PyData) (Q : SV -> Prop) : Prop := x.canLay0 = true /\ y.canLay0 = true /\ x.depth <= 60 /\ Q (.d (.bool (!PyData.eqv x y)))
def isNo : PyData -> Bool
  | .none => true
  | _ => false
def rIsN : R2 := fun x y H Q => y = .non /\ Q (.bl (decide (x = .non))) H
def B7n : R2 := fun x y H Q => y = .non /\ Q (.bl (!decide (x = .non))) H
theorem N9 {X : Cx} : OpR X (compareOp .Is) rIsN := B88
theorem Z2 {X : Cx} : OpR X (compareOp .IsNot) B7n := B6c
theorem Den.no {K : Frag} {F : Hpp} {v : V} {x : PyData} (h : Den K F v x) : decide (v = .non) = isNo x := by cases h <;> rfl
theorem VV.no {K : Frag} {w : Wd} {v : V} {x : PyData} (h : VV K w v x) : decide (v = .non) = isNo x := by
  rcases h with h | ⟨l, vs, xs, e, e', _⟩
  · exact Den.no h
  · subst e; subst e'; rfl
def pIsN (x y : PyData) (Q : SV -> Prop) : Prop := y = .none /\ Q (.d (.bool (isNo x)))
def B52 (x y : PyData) (Q : SV -> Prop) : Prop := y = .none /\ Q (.d (.bool (!isNo x)))
theorem VV.nonE {K : Frag} {w : Wd} {v : V} (h : VV K w v .none) : v = .non := by
  rcases h with h | ⟨l, vs, xs, e, e', _⟩
  · exact h.nonE
  · cases e'
instance ro_isN {K : Frag} : RO K rIsN pIsN where
  ok := by
    rintro c w env σ x y dx dy Qp Q rfl E vx vy ⟨rfl, p⟩ k
    refine ⟨vy.nonE, k _ _ w (Res.data E ?_) p⟩
    rw [vx.no]; exact .bl _
instance ro_notN {K : Frag} : RO K B7n B52 where
  ok := by
    rintro c w env σ x y dx dy Qp Q rfl E vx vy ⟨rfl, p⟩ k
    refine ⟨vy.nonE, k _ _ w (Res.data E ?_) p⟩
    rw [vx.no]; exact .bl _
def pGet (xs : List PyData) (i : Int) (Q : SV -> Prop) : Prop := match atI xs i with
  | some z => Q (.d z)
  | none => False
def pIx (x y : PyData) (Q : SV -> Prop) : Prop := match x, y with
  | .list xs, .int i => pGet xs i Q
  | .tuple xs, .int i => pGet xs i Q
  | _, _ => False
theorem VV.lst {K : Frag} {w : Wd} {v : V} {xs : List PyData} (o : w.Ok) (h : VV K w v (.list xs)) : ∃ a vs, v = .ref a /\ SqL K w.H a vs /\ DenAll K w.F vs xs := by
  rcases h with h | ⟨l, vs, ys, e, e', h1, h2, h3⟩
  · obtain ⟨a, vs, e, h1, h2⟩ := h.lstE
    exact ⟨a, vs, e, o.sub.seq h1, h2⟩
  · cases e'; exact ⟨l, vs, e, SqL.of h1, h3⟩
theorem VV.tup {K : Frag} {w : Wd} {v : V} {xs : List PyData} (o : w.Ok) (h : VV K w v (.tuple xs)) : ∃ a vs, v = .ref a /\ SqT K w.H a vs /\ DenAll K w.F vs xs := by
  rcases h with h | ⟨l, vs, ys, e, e', h1, h2, h3⟩
  · obtain ⟨a, vs, e, h1, h2⟩ := h.tupE
    exact ⟨a, vs, e, SqT.same o.sub h1, h2⟩
  · cases e'
instance ro_ix {K : Frag} : RO K (rIx K) pIx where
  ok := by
    rintro c w env σ x y dx dy Qp Q rfl E vx vy p k
    unfold pIx at p
    split at p
    · rename_i xs i
      unfold pGet at p
      split at p
      · rename_i z hz
        obtain ⟨a, vs, e, h1, h2⟩ := vx.lst E.wok
        obtain ⟨v, g1, g2⟩ := h2.atIE hz
        exact .inl ⟨a, vs, i, v, e, vy.intE, h1, g1, k _ _ w (Res.data E g2) p⟩
      · exact p.elim
    · rename_i xs i
      unfold pGet at p
      split at p
      · rename_i z hz
        obtain ⟨a, vs, e, h1, h2⟩ := vx.tup E.wok
        obtain ⟨v, g1, g2⟩ := h2.atIE hz
        exact .inr (.inl ⟨a, vs, i, v, e, vy.intE, h1, g1, k _ _ w (Res.data E g2) p⟩)
      · exact p.elim
    · exact p.elim
theorem A5 {X : Cx} {K : Frag} (h : X.K = K) : IxR X (rIx K) := by subst h; exact B9y
def pU (gd : Int -> PyData) (x : PyData) (Q : SV -> Prop) : Prop := match x with
  | .int i => Q (.d (gd i))
  | _ => False
def pUn (f : PyData -> (SV -> Prop) -> Prop) (pa : PDt) (env : PEnv) (Q : SV -> PEnv -> Prop) : Prop := pa env fun x e => f x fun s => Q s e
instance re_neg {K : Frag} {ta : TE} {pa : PDt} {f : Int -> Int} [ha : RW K ta pa] : RE K (tUn (rU fun i => .int (f i)) ta) (pUn (pU fun i => .int (f i)) pa) where
  ok := by
    rintro c w env σ Qp Q rfl E p k
    refine ha.ok c w env σ _ _ rfl E p fun x dx e1 w1 E1 l1 v1 q1 => ?_
    unfold pU at q1
    split at q1
    · rename_i i
      exact ⟨i, v1.intE, k _ _ e1 w1 ((Res.data E1 (.int _)).pre l1) q1⟩
    · exact q1.elim
inductive VVs (K : Frag) (w : Wd) : List V -> List PyData -> Prop
  | nil : VVs K w [] []
  | cons {v : V} {x : PyData} {vs : List V} {xs : List PyData} : VV K w v x -> VVs K w vs xs -> VVs K w (v :: vs) (x :: xs)
class RAv (K : Frag) (ta : TA) (pa : outParam PAr) : Prop where
  ok : ∀ (c : Ct) (w : Wd) (env : PEnv) (σ : St) (Qp : List PyData -> PEnv -> Prop) (Q : List V -> Hpp -> Prop), c.K = K -> EnvOk c w env σ -> pa env Qp -> (∀ vs xs env' w', EnvOk c w' env' σ -> Lw w w' -> VVs K w' vs xs -> Qp xs env' -> Q vs w'.H) -> ta σ w.H Q
class RAd (K : Frag) (ta : TA) (pa : outParam PAr) : Prop where
  ok : ∀ (c : Ct) (w : Wd) (env : PEnv) (σ : St) (Qp : List PyData -> PEnv -> Prop) (Q : List V -> Hpp -> Prop), c.K = K -> EnvOk c w env σ -> pa env Qp -> (∀ vs xs env' w', EnvOk c w' env' σ -> Lw w w' -> DenAll K w'.F vs xs -> Qp xs env' -> Q vs w'.H) -> ta σ w.H Q
def pNil (env : PEnv) (Q : List PyData -> PEnv -> Prop) : Prop := Q [] env
def B08 (pa : PDt) (pr : PAr) (env : PEnv) (Q : List PyData -> PEnv -> Prop) : Prop := pa env fun x e1 => pr e1 fun xs e2 => Q (x :: xs) e2
instance rav_nil {K : Frag} : RAv K tNil pNil := ⟨fun c w env σ Qp Q _ E p k => k [] [] env w E (Lw.refl w) .nil p⟩
instance rad_nil {K : Frag} : RAd K tNil pNil := ⟨fun c w env σ Qp Q _ E p k => k [] [] env w E (Lw.refl w) .nil p⟩
instance rav_cons {K : Frag} {ta : TE} {tr : TA} {pa : PDt} {pr : PAr} [ha : RW K ta pa] [hr : RAv K tr pr] : RAv K (L9 ta tr) (B08 pa pr) where
  ok := by
    rintro c w env σ Qp Q rfl E p k
    refine ha.ok c w env σ _ _ rfl E p fun x dx e1 w1 E1 l1 v1 q1 => ?_
    refine hr.ok c w1 e1 σ _ _ rfl E1 q1 fun vs xs e2 w2 E2 l2 v2 q2 => ?_
    exact k _ _ e2 w2 E2 (l1.trans l2) (.cons (v1.mono l2) v2) q2
instance rad_cons {K : Frag} {ta : TE} {tr : TA} {pa : PDt} {pr : PAr} [ha : RD K ta pa] [hr : RAd K tr pr] : RAd K (L9 ta tr) (B08 pa pr) where
  ok := by
    rintro c w env σ Qp Q rfl E p k
    refine ha.ok c w env σ _ _ rfl E p fun x dx e1 w1 E1 l1 v1 q1 => ?_
    refine hr.ok c w1 e1 σ _ _ rfl E1 q1 fun vs xs e2 w2 E2 l2 v2 q2 => ?_
    exact k _ _ e2 w2 E2 (l1.trans l2) (.cons (Den.same l2.f v1) v2) q2
def pTup (pa : PAr) (env : PEnv) (Q : SV -> PEnv -> Prop) : Prop := pa env fun xs e => xs.length <= 1000 /\ Q (.d (.tuple xs)) e
def pLst (pa : PAr) (env : PEnv) (Q : SV -> PEnv -> Prop) : Prop := pa env fun xs e => xs.length <= 1000 /\ Q (.own xs) e
instance re_tup {K : Frag} {ta : TA} {pa : PAr} [ha : RAd K ta pa] : RE K (tTup ta) (pTup pa) where
  ok := by
    rintro c w env σ Qp Q rfl E p k
    refine ha.ok c w env σ _ _ rfl E p fun vs xs e1 w1 E1 l1 v1 q1 => ⟨?_, fun p hp => ?_⟩
    · rw [v1.len]; exact Nat.le_of_lt (A0f q1.1)
    · exact k _ _ e1 _ ((Res.tup E1 hp v1).pre l1) q1.2
instance re_lst {K : Frag} {ta : TA} {pa : PAr} [ha : RAd K ta pa] : RE K (tLst ta) (pLst pa) where
  ok := by
    rintro c w env σ Qp Q rfl E p k
    refine ha.ok c w env σ _ _ rfl E p fun vs xs e1 w1 E1 l1 v1 q1 => ⟨?_, fun p hp => ?_⟩
    · rw [v1.len]; exact Nat.le_of_lt (A0f q1.1)
    · exact k _ _ e1 _ ((Res.lst E1 hp v1).pre l1) q1.2
class RB (K : Frag) (r : List V -> Hpp -> VK -> Prop) (pr : outParam (List PyData -> (SV -> Prop) -> Prop)) : Prop where
  ok : ∀ (c : Ct) (w : Wd) (env : PEnv) (σ : St) (vs : List V) (xs : List PyData) (Qp : SV -> Prop) (Q : VK), c.K = K -> EnvOk c w env σ -> VVs K w vs xs -> pr xs Qp -> (∀ v s w', Res c w env σ w' v s -> Qp s -> Q v w'.H) -> r vs w.H Q
def pCB (pr : List PyData -> (SV -> Prop) -> Prop) (pa : PAr) (env : PEnv) (Q : SV -> PEnv -> Prop) : Prop := pa env fun xs e => pr xs fun s => Q s e
instance re_cb {K : Frag} {r : List V -> Hpp -> VK -> Prop} {ta : TA} {pr : List PyData -> (SV -> Prop) -> Prop} {pa : PAr} [h : RB K r pr] [ha : RAv K ta pa] : RE K (tCB r ta) (pCB pr pa) where
  ok := by
    rintro c w env σ Qp Q rfl E p k
    refine ha.ok c w env σ _ _ rfl E p fun vs xs e1 w1 E1 l1 v1 q1 => ?_
    exact h.ok c w1 e1 σ vs xs _ _ rfl E1 v1 q1 fun v s w' R q => k v s e1 w' (R.pre l1) q
def rAbs : List V -> Hpp -> VK -> Prop := fun xs H Q => ∃ i, xs = [.int i] /\ Q (.int (if i < 0 then -i else i)) H
def rMax : List V -> Hpp -> VK -> Prop := fun xs H Q => ∃ i j, xs = [.int i, .int j] /\ Q (.int (if j > i then j else i)) H
def rMin : List V -> Hpp -> VK -> Prop := fun xs H Q => ∃ i j, xs = [.int i, .int j] /\ Q (.int (if j < i then j else i)) H
def rInt : List V -> Hpp -> VK -> Prop := fun xs H Q => (∃ i, xs = [.int i] /\ Q (.int i) H) \/ ∃ k, xs = [.bl k] /\ Q (.int (if k then 1 else 0)) H
def B17 (K : Frag) : List V -> Hpp -> VK -> Prop := fun xs H Q => ∃ p ys, xs = [.ref p] /\ (SqL K H p ys \/ SqT K H p ys) /\ ∀ l, H l = none -> Q (.ref l) (upd H l (.lst ys))
def rIsi (K : Frag) : List V -> Hpp -> VK -> Prop := fun xs H Q => ∃ x c T b, xs = [x, .ty c] /\ TyV K H x T /\ kitB T c = some b /\ Q (.bl b) H
section
variable {X : Cx}
theorem A1g : CallR X (.builtin "abs") rAbs := B1p
theorem A99 (hc : X.calm = true) : CallR X (.builtin "max") rMax := B0a hc
theorem A97 (hc : X.calm = true) : CallR X (.builtin "min") rMin := A98 hc
theorem M5 : CallR X (.type "int") rInt := A1f
theorem P3 {K : Frag} (h : X.K = K) : CallR X (.type "list") (B17 K) := by subst h; exact A1c
theorem A1e {K : Frag} (h : X.K = K) : CallR X (.builtin "isinstance") (rIsi K) := by subst h; exact A2f
end
def pLen (xs : List PyData) (Q : SV -> Prop) : Prop := match xs with
  | [.list ys] => Q (.d (.int ys.length))
  | [.tuple ys] => Q (.d (.int ys.length))
  | _ => False
def pAbs (xs : List PyData) (Q : SV -> Prop) : Prop := match xs with
  | [.int i] => Q (.d (.int (if i < 0 then -i else i)))
  | _ => False
def pMax (xs : List PyData) (Q : SV -> Prop) : Prop := match xs with
  | [.int i, .int j] => Q (.d (.int (if j > i then j else i)))
  | _ => False
def pMin (xs : List PyData) (Q : SV -> Prop) : Prop := match xs with
  | [.int i, .int j] => Q (.d (.int (if j < i then j else i)))
  | _ => False
def pInt (xs : List PyData) (Q : SV -> Prop) : Prop := match xs with
  | [.int i] => Q (.d (.int i))
  | [.bool k] => Q (.d (.int (if k then 1 else 0)))
  | _ => False
def A27 (xs : List PyData) (Q : SV -> Prop) : Prop := match xs with
  | [.list ys] => Q (.own ys)
  | [.tuple ys] => Q (.own ys)
  | _ => False
instance rb_abs {K : Frag} : RB K rAbs pAbs where
  ok := by
    rintro c w env σ vs xs Qp Q rfl E vv p k
    unfold pAbs at p
    split at p
    · cases vv with | cons h t => cases t; exact ⟨_, by rw [h.intE], k _ _ w (Res.data E (.int _)) p⟩
    · exact p.elim
instance rb_max {K : Frag} : RB K rMax pMax where
  ok := by
    rintro c w env σ vs xs Qp Q rfl E vv p k
    unfold pMax at p
    split at p
    · cases vv with | cons h t => cases t with | cons h' t => cases t; exact ⟨_, _, by rw [h.intE, h'.intE], k _ _ w (Res.data E (.int _)) p⟩
    · exact p.elim
instance rb_min {K : Frag} : RB K rMin pMin where
  ok := by
    rintro c w env σ vs xs Qp Q rfl E vv p k
    unfold pMin at p
    split at p
    · cases vv with | cons h t => cases t with | cons h' t => cases t; exact ⟨_, _, by rw [h.intE, h'.intE], k _ _ w (Res.data E (.int _)) p⟩
    · exact p.elim
instance rb_int {K : Frag} : RB K rInt pInt where
  ok := by
    rintro c w env σ vs xs Qp Q rfl E vv p k
    unfold pInt at p
    split at p
    · cases vv with | cons h t => cases t; exact .inl ⟨_, by rw [h.intE], k _ _ w (Res.data E (.int _)) p⟩
    · cases vv with | cons h t => cases t; exact .inr ⟨_, by rw [h.blE], k _ _ w (Res.data E (.int _)) p⟩
    · exact p.elim
instance rb_lst {K : Frag} : RB K (B17 K) A27 where
  ok := by
    rintro c w env σ vs xs Qp Q rfl E vv p k
    unfold A27 at p
    split at p
    · cases vv with | cons h t => cases t; obtain ⟨a, us, e, h1, h2⟩ := h.lst E.wok; exact ⟨a, us, by rw [e], .inl h1, fun l hl => k _ _ _ (Res.lst E hl h2) p⟩
    · cases vv with | cons h t => cases t; obtain ⟨a, us, e, h1, h2⟩ := h.tup E.wok; exact ⟨a, us, by rw [e], .inr h1, fun l hl => k _ _ _ (Res.lst E hl h2) p⟩
    · exact p.elim
def tyD : PyData -> String
  | .none => "NoneType"
  | .bool _ => "bool"
  | .int _ => "int"
  | .str _ => "str"
  | .list _ => "list"
  | .tuple _ => "tuple"
  | .dict _ => "dict"
theorem Den.ty {K : Frag} {H : Hpp} {v : V} {x : PyData} (h : Den K H v x) : TyV K H v (tyD x) := by
  cases h with
  | non => rfl
  | bl => rfl
  | int => rfl
  | str => rfl
  | lst h _ => exact .inl ⟨rfl, _, h⟩
  | tup h _ => exact .inr (.inl ⟨rfl, _, h⟩)
  | dct h => exact .inr (.inr ⟨rfl, _, h⟩)
def pIsi (c : String) (pa : PDt) (env : PEnv) (Q : SV -> PEnv -> Prop) : Prop := pa env fun x e => match kitB (tyD x) c with
  | some b => Q (.d (.bool b)) e
  | none => False
instance (priority := high) re_isi {K : Frag} {ta : TE} {pa : PDt} {c : String} [ha : RW K ta pa] : RE K (tCB (rIsi K) (L9 ta (L9 (tC (.ty c)) tNil))) (pIsi c pa) where
  ok := by
    rintro ct w env σ Qp Q rfl E p k
    refine ha.ok ct w env σ _ _ rfl E p fun x dx e1 w1 E1 l1 v1 q1 => ?_
    split at q1
    · rename_i b hb
      exact ⟨x, c, _, b, rfl, Den.ty (v1.den E1.wok), hb, k _ _ e1 w1 ((Res.data E1 (.bl _)).pre l1) q1⟩
    · exact q1.elim
end Pu
namespace Pu
open PySem L2 My Prf
class RT (K : Frag) (tt : TT) (pt : outParam PTt) : Prop where
  ok : ∀ (c : Ct) (w : Wd) (env : PEnv) (σ : St) (Qp : Bool -> PEnv -> Prop) (Q : Bool -> Hpp -> Prop), c.K = K -> EnvOk c w env σ -> pt env Qp -> (∀ b env' w', EnvOk c w' env' σ -> Lw w w' -> Qp b env' -> Q b w'.H) -> tt σ w.H Q
def asB (x : PyData) (k : Bool -> Prop) : Prop := match x with
  | .bool b => k b
  | _ => False
def B06 (pa : PDt) (env : PEnv) (Q : Bool -> PEnv -> Prop) : Prop := pa env fun x e => asB x fun b => Q b e
instance rt_test {K : Frag} {ta : TE} {pa : PDt} [ha : RW K ta pa] : RT K (B4v ta) (B06 pa) where
  ok := by
    rintro c w env σ Qp Q rfl E p k
    refine ha.ok c w env σ _ _ rfl E p fun x dx e1 w1 E1 l1 v1 q1 => ?_
    unfold asB at q1
    split at q1
    · exact ⟨_, v1.blE, k _ e1 w1 E1 l1 q1⟩
    · exact q1.elim
instance rt_B {K : Frag} {ta : TE} {pa : PDt} [ha : RW K ta pa] : RT K (tB ta) (B06 pa) where
  ok := by
    rintro c w env σ Qp Q rfl E p k
    refine ha.ok c w env σ _ _ rfl E p fun x dx e1 w1 E1 l1 v1 q1 => ?_
    unfold asB at q1
    split at q1
    · exact ⟨_, v1.blE, k _ e1 w1 E1 l1 q1⟩
    · exact q1.elim
def pYes (env : PEnv) (Q : Bool -> PEnv -> Prop) : Prop := Q true env
instance rt_yes {K : Frag} : RT K tYes pYes := ⟨fun c w env σ Qp Q _ E p k => k true env w E (Lw.refl w) p⟩
def pNot (pa : PTt) (env : PEnv) (Q : Bool -> PEnv -> Prop) : Prop := pa env fun b e => Q (!b) e
def pAnd (pa pb : PTt) (env : PEnv) (Q : Bool -> PEnv -> Prop) : Prop := pa env fun b e => if b = true then pb e Q else Q false e
def pOr (pa pb : PTt) (env : PEnv) (Q : Bool -> PEnv -> Prop) : Prop := pa env fun b e => if b = true then Q true e else pb e Q
instance rt_not {K : Frag} {ta : TT} {pa : PTt} [ha : RT K ta pa] : RT K (tNot ta) (pNot pa) where
  ok := by
    rintro c w env σ Qp Q rfl E p k
    exact ha.ok c w env σ _ _ rfl E p fun b e1 w1 E1 l1 q1 => k _ e1 w1 E1 l1 q1
instance rt_and {K : Frag} {ta tb : TT} {pa pb : PTt} [ha : RT K ta pa] [hb : RT K tb pb] : RT K (tAnd ta tb) (pAnd pa pb) where
  ok := by
    rintro c w env σ Qp Q rfl E p k
    refine ha.ok c w env σ _ _ rfl E p fun b e1 w1 E1 l1 q1 => ?_
    cases b with
    | true => exact hb.ok c w1 e1 σ _ _ rfl E1 q1 fun b e2 w2 E2 l2 q2 => k _ e2 w2 E2 (l1.trans l2) q2
    | false => exact k _ e1 w1 E1 l1 q1
instance rt_or {K : Frag} {ta tb : TT} {pa pb : PTt} [ha : RT K ta pa] [hb : RT K tb pb] : RT K (tOr ta tb) (pOr pa pb) where
  ok := by
    rintro c w env σ Qp Q rfl E p k
    refine ha.ok c w env σ _ _ rfl E p fun b e1 w1 E1 l1 q1 => ?_
    cases b with
    | false => exact hb.ok c w1 e1 σ _ _ rfl E1 q1 fun b e2 w2 E2 l2 q2 => k _ e2 w2 E2 (l1.trans l2) q2
    | true => exact k _ e1 w1 E1 l1 q1
def B51 (pa : PDt) (env : PEnv) (Q : SV -> PEnv -> Prop) : Prop := pa env fun x e => asB x fun b => Q (.d (.bool (!b))) e
def B6b (pa : PDt) (pb : PX) (env : PEnv) (Q : SV -> PEnv -> Prop) : Prop := pa env fun x e => asB x fun b => if b = true then pb e Q else Q (.d (.bool false)) e
def pOrV (pa : PDt) (pb : PX) (env : PEnv) (Q : SV -> PEnv -> Prop) : Prop := pa env fun x e => asB x fun b => if b = true then Q (.d (.bool true)) e else pb e Q
instance re_notV {K : Frag} {ta : TE} {pa : PDt} [ha : RW K ta pa] : RE K (B4x ta) (B51 pa) where
  ok := by
    rintro c w env σ Qp Q rfl E p k
    refine ha.ok c w env σ _ _ rfl E p fun x dx e1 w1 E1 l1 v1 q1 => ?_
    unfold asB at q1
    split at q1
    · exact ⟨_, v1.blE, k _ _ e1 w1 ((Res.data E1 (.bl _)).pre l1) q1⟩
    · exact q1.elim
instance re_andV {K : Frag} {ta tb : TE} {pa : PDt} {pb : PX} [ha : RW K ta pa] [hb : RE K tb pb] : RE K (B41 ta tb) (B6b pa pb) where
  ok := by
    rintro c w env σ Qp Q rfl E p k
    refine ha.ok c w env σ _ _ rfl E p fun x dx e1 w1 E1 l1 v1 q1 => ?_
    unfold asB at q1
    split at q1
    · rename_i b
      refine ⟨_, v1.blE, ?_⟩
      cases b with
      | true => exact hb.ok c w1 e1 σ _ _ rfl E1 q1 fun v s e2 w2 R q2 => k _ _ e2 w2 (R.pre l1) q2
      | false => exact k _ _ e1 w1 ((Res.data E1 (.bl _)).pre l1) q1
    · exact q1.elim
instance re_orV {K : Frag} {ta tb : TE} {pa : PDt} {pb : PX} [ha : RW K ta pa] [hb : RE K tb pb] : RE K (tOrV ta tb) (pOrV pa pb) where
  ok := by
    rintro c w env σ Qp Q rfl E p k
    refine ha.ok c w env σ _ _ rfl E p fun x dx e1 w1 E1 l1 v1 q1 => ?_
    unfold asB at q1
    split at q1
    · rename_i b
      refine ⟨_, v1.blE, ?_⟩
      cases b with
      | false => exact hb.ok c w1 e1 σ _ _ rfl E1 q1 fun v s e2 w2 R q2 => k _ _ e2 w2 (R.pre l1) q2
      | true => exact k _ _ e1 w1 ((Res.data E1 (.bl _)).pre l1) q1
    · exact q1.elim
def pIfE (pt : PTt) (pa pb : PX) (env : PEnv) (Q : SV -> PEnv -> Prop) : Prop := pt env fun b e => if b = true then pa e Q else pb e Q
instance re_if {K : Frag} {tt : TT} {ta tb : TE} {pt : PTt} {pa pb : PX} [ht : RT K tt pt] [ha : RE K ta pa] [hb : RE K tb pb] : RE K (tIf tt ta tb) (pIfE pt pa pb) where
  ok := by
    rintro c w env σ Qp Q rfl E p k
    refine ht.ok c w env σ _ _ rfl E p fun b e1 w1 E1 l1 q1 => ?_
    cases b with
    | true => exact ha.ok c w1 e1 σ _ _ rfl E1 q1 fun v s e2 w2 R q2 => k _ _ e2 w2 (R.pre l1) q2
    | false => exact hb.ok c w1 e1 σ _ _ rfl E1 q1 fun v s e2 w2 R q2 => k _ _ e2 w2 (R.pre l1) q2
inductive Md where
  | dat | vw | st | bt
def TV (K : Frag) (w : Wd) (v : V) (t : OT) : Prop := Tre K w t [v] /\ ∀ a ∈ t.fp, ¬ w.M a
theorem Tre.has {K : Frag} {w : Wd} : ∀ {t : OT} {vs : List V}, Tre K w t vs -> ∀ a ∈ t.fp, w.H a ≠ none
  | .leaf _, _, _, _, z => nomatch z
  | .nd _ p _, _, ⟨_, _, h, k⟩, a, z => (List.mem_cons.mp z).elim (fun e => by rw [e, h]; simp) (Tre.has k a)
  | .nil, _, _, _, z => nomatch z
  | .cons _ _, _, ⟨_, _, _, h, t⟩, a, z => (List.mem_append.mp z).elim (Tre.has h a) (Tre.has t a)
inductive Args (K : Frag) (w : Wd) : List Md -> List V -> List SV -> Prop
  | nil : Args K w [] [] []
  | dat {v : V} {x : PyData} {md : List Md} {vs : List V} {as : List SV} : Den K w.F v x -> Args K w md vs as -> Args K w (.dat :: md) (v :: vs) (.d x :: as)
  | vw {v : V} {xs : List PyData} {md : List Md} {vs : List V} {as : List SV} : VV K w v (.list xs) -> Args K w md vs as -> Args K w (.vw :: md) (v :: vs) (.bor xs :: as)
  | bt {v : V} {t : OT} {md : List Md} {vs : List V} {as : List SV} : TV K w v t -> Args K w md vs as -> Args K w (.bt :: md) (v :: vs) (.bt t :: as)
  | st {v : V} {md : List Md} {vs : List V} {as : List SV} : (∃ p, v = .ref p /\ w.M p) -> Args K w md vs as -> Args K w (.st :: md) (v :: vs) (.st :: as)
theorem Args.len {K : Frag} {w : Wd} : ∀ {md vs as}, Args K w md vs as -> vs.length = md.length
  | _, _, _, .nil => rfl
  | _, _, _, .dat _ t => congrArg (· + 1) (Args.len t)
  | _, _, _, .vw _ t => congrArg (· + 1) (Args.len t)
  | _, _, _, .st _ t => congrArg (· + 1) (Args.len t)
  | _, _, _, .bt _ t => congrArg (· + 1) (Args.len t)
abbrev PSp := List SV -> (SV -> Prop) -> Prop
def noZ : Addr -> Prop := fun _ => False
def spOf (K : Frag) (md : List Md) (psp : PSp) : Sp := fun vs H Q _ => ∃ (w : Wd) (as : List SV) (Qp : SV -> Prop), w.H = H /\ w.Ok /\ Args K w md vs as /\ psp as Qp /\
  ∀ v s w', w'.Ok -> Le w w' -> VR ⟨K, w, noZ⟩ w' v s -> s.isRes = true -> Qp s -> Q v w'.H
theorem spOf.len {K : Frag} {md : List Md} {psp : PSp} {n : Nat} (h : md.length = n) : ∀ vs H Q E, spOf K md psp vs H Q E -> vs.length = n := by
  rintro vs H Q E ⟨w, as, Qp, _, _, a, _⟩
  exact a.len.trans h
class RAm (K : Frag) (md : List Md) (ta : TA) (pa : outParam PAs) : Prop where
  ok : ∀ (c : Ct) (w : Wd) (env : PEnv) (σ : St) (Qp : List SV -> PEnv -> Prop) (Q : List V -> Hpp -> Prop), c.K = K -> EnvOk c w env σ -> pa env Qp -> (∀ vs as env' w', EnvOk c w' env' σ -> Lw w w' -> Args K w' md vs as -> Qp as env' -> Q vs w'.H) -> ta σ w.H Q
def B54 (env : PEnv) (Q : List SV -> PEnv -> Prop) : Prop := Q [] env
def A68 (pa : PDt) (pr : PAs) (env : PEnv) (Q : List SV -> PEnv -> Prop) : Prop := pa env fun x e1 => pr e1 fun as e2 => Q (.d x :: as) e2
def asL (x : PyData) (k : List PyData -> Prop) : Prop := match x with
  | .list xs => k xs
  | _ => False
def A66 (pa : PDt) (pr : PAs) (env : PEnv) (Q : List SV -> PEnv -> Prop) : Prop := pa env fun x e1 => asL x fun xs => pr e1 fun as e2 => Q (.bor xs :: as) e2
def isSt (o : Option (Option SV)) (k : Prop) : Prop := match o with
  | some (some .st) => k
  | _ => False
def A3c (i : Nat) (pr : PAs) (env : PEnv) (Q : List SV -> PEnv -> Prop) : Prop := isSt env[i]? (pr env fun as e2 => Q (.st :: as) e2)
instance ram_nil {K : Frag} : RAm K [] tNil B54 := ⟨fun c w env σ Qp Q _ E p k => k [] [] env w E (Lw.refl w) .nil p⟩
instance ram_dat {K : Frag} {md : List Md} {ta : TE} {tr : TA} {pa : PDt} {pr : PAs} [ha : RD K ta pa] [hr : RAm K md tr pr] : RAm K (.dat :: md) (L9 ta tr) (A68 pa pr) where
  ok := by
    rintro c w env σ Qp Q rfl E p k
    refine ha.ok c w env σ _ _ rfl E p fun x dx e1 w1 E1 l1 v1 q1 => ?_
    refine hr.ok c w1 e1 σ _ _ rfl E1 q1 fun vs xs e2 w2 E2 l2 v2 q2 => ?_
    exact k _ _ e2 w2 E2 (l1.trans l2) (.dat (Den.same l2.f v1) v2) q2
instance ram_vw {K : Frag} {md : List Md} {ta : TE} {tr : TA} {pa : PDt} {pr : PAs} [ha : RW K ta pa] [hr : RAm K md tr pr] : RAm K (.vw :: md) (L9 ta tr) (A66 pa pr) where
  ok := by
    rintro c w env σ Qp Q rfl E p k
    refine ha.ok c w env σ _ _ rfl E p fun x dx e1 w1 E1 l1 v1 q1 => ?_
    unfold asL at q1
    split at q1
    · refine hr.ok c w1 e1 σ _ _ rfl E1 q1 fun vs xs e2 w2 E2 l2 v2 q2 => ?_
      exact k _ _ e2 w2 E2 (l1.trans l2) (.vw (v1.mono l2) v2) q2
    · exact q1.elim
instance ram_st {K : Frag} {md : List Md} {i : Nat} {tr : TA} {pr : PAs} [hr : RAm K md tr pr] : RAm K (.st :: md) (L9 (tVar i) tr) (A3c i pr) where
  ok := by
    rintro c w env σ Qp Q rfl E p k
    unfold A3c isSt at p
    split at p
    · rename_i e
      obtain ⟨v, h1, h2⟩ := E.at' i _ e
      refine ⟨v, h1, ?_⟩
      refine hr.ok c w env σ _ _ rfl E p fun vs xs e2 w2 E2 l2 v2 q2 => ?_
      obtain ⟨q, e', hm⟩ := h2
      exact k _ _ e2 w2 E2 l2 (.st ⟨q, e', l2.m _ hm⟩ v2) q2
    · exact p.elim
def B83 (psp : PSp) (pa : PAs) (env : PEnv) (Q : SV -> PEnv -> Prop) : Prop := pa env fun as e => psp as fun s => Q s e
theorem Res.called {c : Ct} {w w' : Wd} {env : PEnv} {σ : St} {v : V} {s : SV} (E : EnvOk c w env σ) (ok : w'.Ok) (l : Le w w') (h : VR ⟨c.K, w, noZ⟩ w' v s) (r : s.isRes = true) : Res c w env σ w' v s := by
  refine ⟨E.mono ok l, l.toLw, ?_, fun a f => E.fresh (h.foot f).2.2.2, r⟩
  cases s with
  | d x => exact h
  | own xs => obtain ⟨a, vs, e, h1, h2, h3, h4, h5⟩ := h; exact ⟨a, vs, e, h1, h2, h3, E.le0.dom _ h4, h5⟩
  | bor xs => cases r
  | bt t => cases r
  | al t => cases r
  | st => exact h
  | tr t => exact ⟨h.1, fun a f => ⟨(h.2.1 a f).1, (h.2.1 a f).2.1, (h.2.1 a f).2.2.1, E.le0.dom _ (h.2.1 a f).2.2.2⟩, h.2.2⟩
instance re_call {K : Frag} {md : List Md} {psp : PSp} {E0' : XK} {ta : TA} {pa : PAs} [ha : RAm K md ta pa] : RE K (B40 (spOf K md psp) [] E0' ta) (B83 psp pa) where
  ok := by
    rintro c w env σ Qp Q rfl E p k
    refine ha.ok c w env σ _ _ rfl E p fun vs as e1 w1 E1 l1 a1 q1 => ?_
    rw [List.append_nil]
    exact ⟨w1, as, _, rfl, E1.wok, a1, q1, fun v s w' ok l h r q => k v s e1 w' ((Res.called E1 ok l h r).pre l1) q⟩
structure PEnds where
  nx : PEnv -> Prop
  rt : SV -> PEnv -> Prop
  bk : PEnv -> Prop
  ct : PEnv -> Prop
abbrev PSt := PEnds -> PEnv -> Prop
structure EndsOk (c : Ct) (w : Wd) (Dp : PEnds) (D : Ends) : Prop where
  nx : ∀ env σ w', EnvOk c w' env σ -> Same w.F w'.F -> Dp.nx env -> D.nx σ w'.H
  rt : ∀ v s env σ w', EnvOk c w' env σ -> VR c w' v s -> s.isRes = true -> Dp.rt s env -> D.rt v w'.H
  bk : ∀ env σ w', EnvOk c w' env σ -> Same w.F w'.F -> Dp.bk env -> D.bk σ w'.H
  ct : ∀ env σ w', EnvOk c w' env σ -> Same w.F w'.F -> Dp.ct env -> D.ct σ w'.H
theorem EndsOk.on {c : Ct} {w w1 : Wd} {Dp : PEnds} {D : Ends} (h : EndsOk c w Dp D) (s : Same w.F w1.F) : EndsOk c w1 Dp D :=
  ⟨fun e σ w' E s' => h.nx e σ w' E (s.trans s'), h.rt, fun e σ w' E s' => h.bk e σ w' E (s.trans s'), fun e σ w' E s' => h.ct e σ w' E (s.trans s')⟩
class RS (K : Frag) (ts : TS) (ps : outParam PSt) : Prop where
  ok : ∀ (c : Ct) (w : Wd) (env : PEnv) (σ : St) (Dp : PEnds) (D : Ends), c.K = K -> EnvOk c w env σ -> EndsOk c w Dp D -> ps Dp env -> ts D σ w.H
def B55 (D : PEnds) (env : PEnv) : Prop := D.nx env
def B27 (D : PEnds) (env : PEnv) : Prop := D.bk env
def B8y (D : PEnds) (env : PEnv) : Prop := D.ct env
def A6q (_ : PEnds) (_ : PEnv) : Prop := False
def pSeq (p q : PSt) (D : PEnds) (env : PEnv) : Prop := p { D with nx := q D } env
instance rs_next {K : Frag} : RS K B4y B55 := ⟨fun c w env σ Dp D _ E h p => h.nx env σ w E (Same.refl _) p⟩
instance rs_never {K : Frag} : RS K A5q A6q := ⟨fun c w env σ Dp D _ E h p => p.elim⟩
instance rs_seq {K : Frag} {t u : TS} {p q : PSt} [ht : RS K t p] [hu : RS K u q] : RS K (tSeq t u) (pSeq p q) where
  ok := by
    rintro c w env σ Dp D rfl E h pr
    refine ht.ok c w env σ { Dp with nx := q Dp } _ rfl E ⟨fun e1 σ1 w1 E1 s1 n1 => ?_, h.rt, h.bk, h.ct⟩ pr
    exact hu.ok c w1 e1 σ1 Dp D rfl E1 (h.on s1) n1
def B8w (pe : PX) (D : PEnds) (env : PEnv) : Prop := pe env fun _ e => D.nx e
def pRet (pe : PX) (D : PEnds) (env : PEnv) : Prop := pe env fun s e => D.rt s e
instance (priority := low) rs_ret {K : Frag} {te : TE} {pe : PX} [he : RE K te pe] : RS K (tRet te) (pRet pe) where
  ok := by
    rintro c w env σ Dp D rfl E h p
    exact he.ok c w env σ _ _ rfl E p fun v s e1 w1 R q => h.rt v s e1 σ w1 R.ev R.val R.res q
def B5y (i : Nat) (D : PEnds) (env : PEnv) : Prop := match env[i]? with
  | some (some (.bor _)) => False
  | some (some (.bt _)) => False
  | some (some (.al _)) => False
  | some (some s) => D.rt s env
  | _ => False
instance rs_retV {K : Frag} {i : Nat} : RS K (tRet (tVar i)) (B5y i) where
  ok := by
    rintro c w env σ Dp D rfl E h p
    unfold B5y at p
    split at p
    · exact p.elim
    · exact p.elim
    · exact p.elim
    · rename_i s hn hn2 hn3 e
      obtain ⟨v, h1, h2⟩ := E.at' i _ e
      refine ⟨v, h1, h.rt v s env σ w E h2 ?_ p⟩
      cases s with
      | bor xs => exact absurd rfl (hn xs)
      | bt t => exact absurd rfl (hn2 t)
      | al t => exact absurd rfl (hn3 t)
      | _ => rfl
    · exact p.elim
def B8m (D : PEnds) (env : PEnv) : Prop := D.rt (.d .none) env
def pIf (pt : PTt) (p q : PSt) (D : PEnds) (env : PEnv) : Prop := pt env fun b e => if b = true then p D e else q D e
instance rs_if {K : Frag} {tt : TT} {t u : TS} {pt : PTt} {p q : PSt} [hc : RT K tt pt] [ht : RS K t p] [hu : RS K u q] : RS K (tIfS tt t u) (pIf pt p q) where
  ok := by
    rintro c w env σ Dp D rfl E h pr
    refine hc.ok c w env σ _ _ rfl E pr fun b e1 w1 E1 l1 q1 => ?_
    cases b with
    | true => exact ht.ok c w1 e1 σ Dp D rfl E1 (h.on l1.f) q1
    | false => exact hu.ok c w1 e1 σ Dp D rfl E1 (h.on l1.f) q1
def pAsg (pe : PX) (i : Nat) (D : PEnds) (env : PEnv) : Prop := pe env fun s e => D.nx (e.set i (some s))
instance rs_asg {K : Frag} {te : TE} {pe : PX} {i : Nat} [he : RE K te pe] : RS K (tAsg te (U5 i)) (pAsg pe i) where
  ok := by
    rintro c w env σ Dp D rfl E h p
    exact he.ok c w env σ _ _ rfl E p fun v s e1 w1 R q => h.nx _ _ w1 (R.ev.set R.val R.new) R.lw.f q
class RG (K : Frag) (g : TG) (pg : outParam (PyData -> PEnv -> (PEnv -> Prop) -> Prop)) : Prop where
  ok : ∀ (c : Ct) (w : Wd) (env : PEnv) (σ : St) (v : V) (x : PyData) (Qp : PEnv -> Prop) (Q : St -> Hpp -> Prop), c.K = K -> EnvOk c w env σ -> Den K w.F v x -> pg x env Qp -> (∀ env' σ', EnvOk c w env' σ' -> Qp env' -> Q σ' w.H) -> g v σ w.H Q
class RGs (K : Frag) (g : TGs) (pg : outParam (List PyData -> PEnv -> (PEnv -> Prop) -> Prop)) : Prop where
  ok : ∀ (c : Ct) (w : Wd) (env : PEnv) (σ : St) (vs : List V) (xs : List PyData) (Qp : PEnv -> Prop) (Q : St -> Hpp -> Prop), c.K = K -> EnvOk c w env σ -> DenAll K w.F vs xs -> pg xs env Qp -> (∀ env' σ', EnvOk c w env' σ' -> Qp env' -> Q σ' w.H) -> g vs σ w.H Q
def A51 (i : Nat) (x : PyData) (env : PEnv) (Q : PEnv -> Prop) : Prop := Q (env.set i (some (.d x)))
instance rg_name {K : Frag} {i : Nat} : RG K (U5 i) (A51 i) where
  ok := by
    rintro c w env σ v x Qp Q rfl E d p k
    exact k _ _ (E.set (s := .d x) d (fun _ z => nomatch z)) p
def qNil (xs : List PyData) (env : PEnv) (Q : PEnv -> Prop) : Prop := match xs with
  | [] => Q env
  | _ => False
def B5b (pg : PyData -> PEnv -> (PEnv -> Prop) -> Prop) (pr : List PyData -> PEnv -> (PEnv -> Prop) -> Prop) (xs : List PyData) (env : PEnv) (Q : PEnv -> Prop) : Prop := match xs with
  | x :: r => pg x env fun e => pr r e Q
  | [] => False
def qTup (n : Nat) (pr : List PyData -> PEnv -> (PEnv -> Prop) -> Prop) (x : PyData) (env : PEnv) (Q : PEnv -> Prop) : Prop := match x with
  | .tuple xs => xs.length = n /\ pr xs env Q
  | _ => False
instance rgs_nil {K : Frag} : RGs K gNil qNil where
  ok := by
    rintro c w env σ vs xs Qp Q rfl E d p k
    unfold qNil at p
    split at p
    · cases d; exact ⟨rfl, k env σ E p⟩
    · exact p.elim
instance rgs_cons {K : Frag} {g : TG} {gs : TGs} {pg : PyData -> PEnv -> (PEnv -> Prop) -> Prop} {pr : List PyData -> PEnv -> (PEnv -> Prop) -> Prop} [hg : RG K g pg] [hr : RGs K gs pr] : RGs K (A19 g gs) (B5b pg pr) where
  ok := by
    rintro c w env σ vs xs Qp Q rfl E d p k
    unfold B5b at p
    split at p
    · cases d with
      | cons h t =>
        refine ⟨_, _, rfl, hg.ok c w env σ _ _ _ _ rfl E h p fun e1 σ1 E1 q1 => ?_⟩
        exact hr.ok c w e1 σ1 _ _ _ _ rfl E1 t q1 k
    · exact p.elim
instance rg_tup {K : Frag} {n : Nat} {gs : TGs} {pr : List PyData -> PEnv -> (PEnv -> Prop) -> Prop} [hr : RGs K gs pr] : RG K (gTup K n gs) (qTup n pr) where
  ok := by
    rintro c w env σ v x Qp Q rfl E d p k
    unfold qTup at p
    split at p
    · obtain ⟨a, vs, e, h1, h2⟩ := d.tupE
      exact ⟨a, vs, e, SqT.same E.wok.sub h1, h2.len.trans p.1, hr.ok c w env σ _ _ _ _ rfl E h2 p.2 k⟩
    · exact p.elim
def B84 (pd : PDt) (n : Nat) (pr : List PyData -> PEnv -> (PEnv -> Prop) -> Prop) (D : PEnds) (env : PEnv) : Prop := pd env fun x e => qTup n pr x e D.nx
def pPar (i j : Nat) (pa : PAr) (D : PEnds) (env : PEnv) : Prop := pa env fun xs e => match xs with
  | [x, y] => D.nx ((e.set i (some (.d x))).set j (some (.d y)))
  | _ => False
instance rs_par {K : Frag} {ta : TA} {pa : PAr} {i j : Nat} [ha : RAd K ta pa] : RS K (tPar i j ta) (pPar i j pa) where
  ok := by
    rintro c w env σ Dp D rfl E h p
    refine ha.ok c w env σ _ _ rfl E p fun vs xs e1 w1 E1 l1 d1 q1 => ?_
    split at q1
    · cases d1 with
      | cons a t => cases t with
        | cons b t =>
          cases t
          exact ⟨_, _, rfl, h.nx _ _ w1 ((E1.set (s := .d _) a (fun _ z => nomatch z)).set (s := .d _) b (fun _ z => nomatch z)) l1.f q1⟩
    · exact q1.elim
def J8 (o : Option (Option SV)) (k : List PyData -> Prop) : Prop := match o with
  | some (some (.own xs)) => k xs
  | _ => False
theorem EnvOk.writeAt {c : Ct} {w : Wd} {env : PEnv} {σ : St} {i : Nat} {s s' : SV} {l : Addr} {us : List V} {v : V} (E : EnvOk c w env σ) (e : env[i]? = some (some s)) (hσ : σ[i]? = some (some v)) (hf : s.foot v l) (hf' : ∀ a, s'.foot v a -> s.foot v a)
    (hd : VR c ⟨w.M, upd w.H l (.lst us), w.F⟩ v s') : EnvOk c ⟨w.M, upd w.H l (.lst us), w.F⟩ (env.set i (some s')) σ := by
  obtain ⟨h1, h2, h3, h4⟩ := (E.look e hσ).foot hf
  have ne : ∀ b, w.M b -> b ≠ l := fun b hb z => h3 (z ▸ hb)
  have hd' : ∀ {j : Nat} {t : SV}, (env.set i (some s'))[j]? = some (some t) -> (i = j /\ t = s') \/ (i ≠ j /\ env[j]? = some (some t)) := by
    intro j t q
    rw [List.getElem?_set] at q
    split at q
    · rename_i z
      split at q
      · cases q; exact .inl ⟨z, rfl⟩
      · cases q
    · rename_i z; exact .inr ⟨z, q⟩
  have ft : ∀ {j : Nat} {t : SV} {u : V} {a : Addr}, (env.set i (some s'))[j]? = some (some t) -> σ[j]? = some (some u) -> t.foot u a -> ∃ t', env[j]? = some (some t') /\ t'.foot u a := by
    intro j t u a q qu f
    rcases hd' q with ⟨rfl, rfl⟩ | ⟨_, q⟩
    · rw [hσ] at qu; cases qu; exact ⟨s, e, hf' a f⟩
    · exact ⟨t, q, f⟩
  refine ⟨⟨fun b o q => ?_, fun p hp => (E.wok.st p hp).kp (ne p hp) Kp.upd, E.wok.nf⟩, ⟨⟨E.le0.f, fun b o q n => ?_, E.le0.m, E.le0.mn, fun b q => E.le0.dom b (P7 q)⟩, E.le0.n⟩, by simpa using E.len, fun j t q => ?_, fun j k s1 t1 v1 u1 a q1 q2 q3 q4 f1 f2 => ?_, fun a za => ?_, fun a j t u za q q' f => ?_⟩
  · show upd w.H l (.lst us) b = some o
    rw [C7 (fun z => by rw [z, h2] at q; cases q)]; exact E.wok.sub b o q
  · show upd w.H l (.lst us) b = some o
    rw [C7 (fun z => by rw [z, h4] at q; cases q)]; exact E.le0.h b o q n
  · rcases hd' q with ⟨rfl, rfl⟩ | ⟨z, q⟩
    · exact ⟨v, hσ, hd⟩
    · obtain ⟨u, g1, g2⟩ := E.at' j t q
      exact ⟨u, g1, g2.writ h1 fun f => z (E.own i j _ _ _ _ l e q hσ g1 hf f)⟩
  · obtain ⟨_, p1, g1⟩ := ft q1 q3 f1
    obtain ⟨_, p2, g2⟩ := ft q2 q4 f2
    exact E.own j k _ _ _ _ a p1 p2 q3 q4 g1 g2
  · obtain ⟨z1, z2, z3⟩ := E.zf a za
    exact ⟨z1, fun q => z2 (P7 q), z3⟩
  · obtain ⟨_, p, g⟩ := ft q q' f
    exact E.zo a j _ _ za p q' g
theorem EnvOk.write {c : Ct} {w : Wd} {env : PEnv} {σ : St} {i : Nat} {xs ys : List PyData} {l : Addr} {vs us : List V} (E : EnvOk c w env σ) (e : env[i]? = some (some (.own xs))) (hσ : σ[i]? = some (some (.ref l))) (h1 : w.H l = some (.lst vs)) (h2 : w.F l = none) (h3 : ¬ w.M l) (h4 : c.w0.H l = none)
    (hd : DenAll c.K w.F us ys) : EnvOk c ⟨w.M, upd w.H l (.lst us), w.F⟩ (env.set i (some (.own ys))) σ :=
  E.writeAt e hσ rfl (fun _ f => f) ⟨l, us, rfl, C9, h2, h3, h4, hd⟩
def pApp (i : Nat) (pd : PDt) (D : PEnds) (env : PEnv) : Prop := J8 env[i]? fun _ => pd env fun x e => J8 e[i]? fun xs => xs.length < 1000000 /\ D.nx (e.set i (some (.own (xs ++ [x]))))
theorem A5t {n : Nat} (h : n < 1000000) : n < sizeLine := Nat.lt_of_lt_of_le h (by decide)
instance rs_app {K : Frag} {i : Nat} {te : TE} {pd : PDt} [he : RD K te pd] : RS K (B0r (tBM K "list" A5y (tVar i) (L9 te tNil))) (pApp i pd) where
  ok := by
    rintro c w env σ Dp D rfl E h p
    unfold pApp J8 at p
    split at p
    · rename_i xs0 e0
      obtain ⟨v, g0, l, vs, ev, h1, h2, h3, h4, h5⟩ := E.at' i _ e0
      subst ev
      refine ⟨_, g0, .inl ⟨rfl, _, SqL.of h1⟩, ?_⟩
      refine he.ok c w env σ _ _ rfl E p fun y x e1 w1 E1 l1 d1 q1 => ?_
      split at q1
      · rename_i xs e
        obtain ⟨v', g0', l', vs', ev', k1, k2, k3, k4, k5⟩ := E1.at' i _ e
        rw [g0] at g0'; cases g0'; cases ev'
        refine ⟨l, vs', y, rfl, rfl, k1, by rw [k5.len]; exact A5t q1.1, ?_⟩
        exact h.nx _ σ ⟨w1.M, upd w1.H l (.lst (vs' ++ [y])), w1.F⟩ (E1.write e g0 k1 k2 k3 k4 (k5.app (.cons d1 .nil))) l1.f q1.2
      · exact q1.elim
    · exact p.elim
def A3d (i : Nat) (D : PEnds) (env : PEnv) : Prop := J8 env[i]? fun _ => D.nx (env.set i (some (.own [])))
instance rs_clear {K : Frag} {i : Nat} : RS K (B0r (tBM0 K "list" B18 (tVar i))) (A3d i) where
  ok := by
    rintro c w env σ Dp D rfl E h p
    unfold A3d J8 at p
    split at p
    · rename_i xs e
      obtain ⟨v, g0, l, vs, ev, h1, h2, h3, h4, h5⟩ := E.at' i _ e
      subst ev
      refine ⟨_, g0, .inl ⟨rfl, _, SqL.of h1⟩, l, vs, rfl, rfl, h1, ?_⟩
      exact h.nx _ σ ⟨w.M, upd w.H l (.lst []), w.F⟩ (E.write e g0 h1 h2 h3 h4 .nil) (Same.refl _) p
    · exact p.elim
def B8o (i : Nat) (D : PEnds) (env : PEnv) : Prop := J8 env[i]? fun xs => 0 < xs.length /\ D.nx (env.set i (some (.own xs.dropLast)))
end Pu
namespace L2
open PySem PySem.Spec PyProof.Rows
section
variable {X : Cx} {tg : Expr}
def iSq (K : PySem.W.Frag) (tl : TE) : TI := fun σ H R => tl σ H fun x H1 => (∃ a, x = .ref a /\ (∃ xs, SqL K H1 a xs) /\ R (Itl K a) H1) \/ ∃ a, x = .ref a /\ (∃ xs, SqT K H1 a xs) /\ R (Itt K a) H1
theorem C0y {l : Expr} {tl : TE} (hl : PE X l tl) : PI X tg l (iSq X.K tl) := by
  intro pins s σ H R I h
  refine thn (hl pins s σ H _ I h) fun v s1 ⟨x, H1, I1, r1, q1⟩ => ?_
  rcases q1 with ⟨a, e, ⟨xs, hq⟩, q⟩ | ⟨a, e, ⟨xs, hq⟩, q⟩
  · subst e
    cases r1
    obtain ⟨its, rv, p, hz⟩ := I1.list hq
    refine wpAny_pyIter_list p.isList ?_
    refine ⟨s1.heap.objs.size, [s1.heap.objs.size], _, _, H1, rfl, I1.kept (t' := s1.toks) fun b o e => Heap.get?_push_of_some _ e, A5l a _, ⟨_, Heap.get?_push_size _ rfl, rfl, rfl⟩, fun b hb => ?_, q⟩
    have e : b = s1.heap.objs.size := by simpa using hb
    subst e
    exact I1.fpOk (Nat.le_refl _) (I1.hok.fresh (Nat.le_refl _))
  · subst e
    cases r1
    obtain ⟨its, rv, p, hz⟩ := I1.tuple hq
    refine wpAny_pyIter_tuple (show s1.heap.IsTuple a its.toArray from p) ?_
    refine ⟨s1.heap.objs.size, [s1.heap.objs.size], _, _, H1, rfl, I1.kept (t' := s1.toks) fun b o e => Heap.get?_push_of_some _ e, A4t a _, ⟨_, Heap.get?_push_size _ rfl, rfl, rfl⟩, fun b hb => ?_, q⟩
    have e : b = s1.heap.objs.size := by simpa using hb
    subst e
    exact I1.fpOk (Nat.le_refl _) (I1.hok.fresh (Nat.le_refl _))
theorem B73 {K : PySem.W.Frag} {l : Expr} {tl : TE} (h : X.K = K) (hl : PE X l tl) : PI X tg l (iSq K tl) := by subst h; exact C0y hl
theorem D7 {K : PySem.W.Frag} (h : X.K = K) (hu : X.A.units + 64 < cLine) : OpR X (compareOp .Eq) (rEqD K) := by subst h; exact B89 hu
theorem G7 {K : PySem.W.Frag} (h : X.K = K) (hu : X.A.units + 64 < cLine) : OpR X (compareOp .NotEq) (rNeD K) := by subst h; exact B87 hu
theorem S5 {K : PySem.W.Frag} (h : X.K = K) : SlR X (rSlL K) := by subst h; exact B45
end
end L2
namespace Pu
open PySem L2 My Prf
def A23 (pt : PTt) (pb : PSt) (D : PEnds) (env : PEnv) : Prop := ∃ Inv : Nat -> PEnv -> Prop, (∃ m, Inv m env) /\ ∀ m e, Inv m e -> pt e fun b e2 => if b = true then pb ⟨fun e3 => ∃ m', m' < m /\ Inv m' e3, D.rt, D.nx, fun e3 => ∃ m', m' < m /\ Inv m' e3⟩ e2 else D.nx e2
instance rs_while {K : Frag} {tt : TT} {tb : TS} {pt : PTt} {pb : PSt} [ht : RT K tt pt] [hb : RS K tb pb] : RS K (A5p tt tb) (A23 pt pb) where
  ok := by
    rintro c w env σ Dp D rfl E h ⟨Inv, ⟨m0, i0⟩, step⟩
    refine ⟨fun m σ' H' => ∃ e w', w'.H = H' /\ EnvOk c w' e σ' /\ Same w.F w'.F /\ Inv m e, ⟨m0, env, w, rfl, E, Same.refl _, i0⟩, ?_⟩
    rintro m σ1 _ ⟨e1, w1, rfl, E1, s1, i1⟩
    refine ht.ok c w1 e1 σ1 _ _ rfl E1 (step m e1 i1) fun b e2 w2 E2 l2 q2 => ?_
    cases b with
    | true =>
      refine ⟨fun σ' H' => ∃ e w', w'.H = H' /\ EnvOk c w' e σ' /\ Same w.F w'.F /\ ∃ m', m' < m /\ Inv m' e, fun σ' H' ⟨e, w', e1, E', s', m', hm, i'⟩ => ⟨m', hm, e, w', e1, E', s', i'⟩, ?_⟩
      refine hb.ok c w2 e2 σ1 ⟨fun e3 => ∃ m', m' < m /\ Inv m' e3, Dp.rt, Dp.nx, fun e3 => ∃ m', m' < m /\ Inv m' e3⟩ _ rfl E2 ⟨fun e3 σ3 w3 E3 s3 n3 => ⟨e3, w3, rfl, E3, s1.trans (l2.f.trans s3), n3⟩, h.rt, fun e3 σ3 w3 E3 s3 n3 => h.nx e3 σ3 w3 E3 (s1.trans (l2.f.trans s3)) n3, fun e3 σ3 w3 E3 s3 n3 => ⟨e3, w3, rfl, E3, s1.trans (l2.f.trans s3), n3⟩⟩ q2
    | false => exact h.nx e2 σ1 w2 E2 (s1.trans l2.f) q2
def Walk (c : Ct) (w1 : Wd) (J : It) (xs : List PyData) : Prop :=
  ∀ w', w'.Ok -> Le c.w0 w' -> Same w1.F w'.F -> (∀ i, i < xs.length -> J.go i w'.H) /\ J.stop xs.length w'.H /\ ∀ i v H', J.yld i w'.H v H' -> i < xs.length -> ∃ w2 x, w2.H = H' /\ w2.Ok /\ Le w' w2 /\ xs[i]? = some x /\ Den c.K w2.F v x
class RI (K : Frag) (wi : TI) (pi : outParam PAr) : Prop where
  ok : ∀ (c : Ct) (w : Wd) (env : PEnv) (σ : St) (Qp : List PyData -> PEnv -> Prop) (R : It -> Hpp -> Prop), c.K = K -> EnvOk c w env σ -> pi env Qp -> (∀ J xs env' w', EnvOk c w' env' σ -> Lw w w' -> Walk c w' J xs -> Qp xs env' -> R J w'.H) -> wi σ w.H R
theorem J5 {c : Ct} {w1 : Wd} {a : Addr} {vs : List V} {xs : List PyData} (d : DenAll c.K w1.F vs xs) (h : ∀ w', w'.Ok -> Le c.w0 w' -> Same w1.F w'.F -> SqL c.K w'.H a vs) : Walk c w1 (Itl c.K a) xs := by
  intro w' ok l s
  have q := h w' ok l s
  have hl := d.len
  refine ⟨fun i hi => ⟨vs, vs[i]'(by omega), q, List.getElem?_eq_getElem _⟩, ⟨vs, q, by omega⟩, fun i v H' y hi => ?_⟩
  obtain ⟨e, y⟩ := y
  obtain ⟨x, g1, g2⟩ := d.get (y vs q)
  exact ⟨w', x, e.symm, ok, Le.refl w', g1, Den.same s g2⟩
theorem A2i {c : Ct} {w1 : Wd} {a : Addr} {vs : List V} {xs : List PyData} (d : DenAll c.K w1.F vs xs) (h : ∀ w', w'.Ok -> Le c.w0 w' -> Same w1.F w'.F -> SqT c.K w'.H a vs) : Walk c w1 (Itt c.K a) xs := by
  intro w' ok l s
  have q := h w' ok l s
  have hl := d.len
  refine ⟨fun i hi => ⟨vs, vs[i]'(by omega), q, List.getElem?_eq_getElem _⟩, ⟨vs, q, by omega⟩, fun i v H' y hi => ?_⟩
  obtain ⟨e, y⟩ := y
  obtain ⟨x, g1, g2⟩ := d.get (y vs q)
  exact ⟨w', x, e.symm, ok, Le.refl w', g1, Den.same s g2⟩
def S1 (x : PyData) (k : List PyData -> Prop) : Prop := match x with
  | .list xs => k xs
  | .tuple xs => k xs
  | _ => False
def B58 (pd : PDt) (env : PEnv) (Q : List PyData -> PEnv -> Prop) : Prop := pd env fun x e => S1 x fun xs => Q xs e
instance (priority := low) ri_sq {K : Frag} {tl : TE} {pd : PDt} [hl : RD K tl pd] : RI K (iSq K tl) (B58 pd) where
  ok := by
    rintro c w env σ Qp R rfl E p k
    refine hl.ok c w env σ _ _ rfl E p fun v x e1 w1 E1 l1 d1 q1 => ?_
    unfold S1 at q1
    split at q1
    · obtain ⟨a, vs, e, h1, h2⟩ := d1.lstE
      exact .inl ⟨a, e, ⟨vs, E1.wok.sub.seq h1⟩, k _ _ e1 w1 E1 l1 (J5 h2 fun w' ok l s => (s.trans ok.sub).seq h1) q1⟩
    · obtain ⟨a, vs, e, h1, h2⟩ := d1.tupE
      exact .inr ⟨a, e, ⟨vs, SqT.same E1.wok.sub h1⟩, k _ _ e1 w1 E1 l1 (A2i h2 fun w' ok l s => SqT.same (s.trans ok.sub) h1) q1⟩
    · exact q1.elim
def A61 (i : Nat) (env : PEnv) (Q : List PyData -> PEnv -> Prop) : Prop := match env[i]? with
  | some (some (.d x)) => S1 x fun xs => Q xs env
  | some (some (.own xs)) => Q xs (env.set i (some (.d (.list xs))))
  | some (some (.bor xs)) => Q xs env
  | _ => False
instance ri_var {K : Frag} {i : Nat} : RI K (iSq K (tVar i)) (A61 i) where
  ok := by
    rintro c w env σ Qp R rfl E p k
    unfold A61 at p
    split at p
    · rename_i x e
      obtain ⟨v, h1, h2⟩ := E.at' i _ e
      refine ⟨v, h1, ?_⟩
      unfold S1 at p
      split at p
      · obtain ⟨a, vs, e, g1, g2⟩ := Den.lstE h2
        exact .inl ⟨a, e, ⟨vs, E.wok.sub.seq g1⟩, k _ _ env w E (Lw.refl w) (J5 g2 fun w' ok l s => (s.trans ok.sub).seq g1) p⟩
      · obtain ⟨a, vs, e, g1, g2⟩ := Den.tupE h2
        exact .inr ⟨a, e, ⟨vs, SqT.same E.wok.sub g1⟩, k _ _ env w E (Lw.refl w) (A2i g2 fun w' ok l s => SqT.same (s.trans ok.sub) g1) p⟩
      · exact p.elim
    · rename_i xs e
      obtain ⟨w', v, e', hv, E', l, d⟩ := E.frz e
      refine ⟨v, hv, ?_⟩
      obtain ⟨a, vs, e, g1, g2⟩ := d.lstE
      have := k _ _ _ w' E' l (J5 g2 fun w' ok l s => (s.trans ok.sub).seq g1) p
      rw [e'] at this
      exact .inl ⟨a, e, ⟨vs, by rw [<- e']; exact E'.wok.sub.seq g1⟩, this⟩
    · rename_i xs e
      obtain ⟨v, h1, h2⟩ := E.at' i _ e
      refine ⟨v, h1, ?_⟩
      rcases h2 with h2 | ⟨l, vs, ev, g1, g2, g3⟩
      · obtain ⟨a, vs, e, g1, g2⟩ := Den.lstE h2
        exact .inl ⟨a, e, ⟨vs, E.wok.sub.seq g1⟩, k _ _ env w E (Lw.refl w) (J5 g2 fun w' ok l s => (s.trans ok.sub).seq g1) p⟩
      · exact .inl ⟨l, ev, ⟨vs, SqL.of (E.le0.h _ _ g1 g2)⟩, k _ _ env w E (Lw.refl w) (J5 g3 fun w' ok l' s => SqL.of (l'.h _ _ g1 g2)) p⟩
    · exact p.elim
def rngD (lo : Int) (n : Nat) : List PyData := (List.range n).map fun k : Nat => PyData.int (lo + (k : Int))
theorem M8 (lo : Int) (n : Nat) : (rngD lo n).length = n := by simp [rngD]
theorem A2u {lo : Int} {n i : Nat} {x : PyData} (h : (rngD lo n)[i]? = some x) : i < n /\ x = .int (lo + (i : Int)) := by
  unfold rngD at h
  rw [List.getElem?_map] at h
  by_cases hi : i < n
  · rw [List.getElem?_range hi] at h; cases h; exact ⟨hi, rfl⟩
  · rw [List.getElem?_eq_none (by simpa using hi)] at h; cases h
theorem B0n {c : Ct} {w1 : Wd} {lo : Int} {n : Nat} : Walk c w1 (Itr lo n) (rngD lo n) := by
  intro w' ok l s
  refine ⟨fun i hi => by rw [M8] at hi; exact hi, by rw [M8]; exact Nat.le_refl _, fun i v H' y hi => ?_⟩
  obtain ⟨e, y⟩ := y
  subst y
  rw [M8] at hi
  refine ⟨w', .int (lo + i), e.symm, ok, Le.refl w', ?_, .int _⟩
  unfold rngD
  rw [List.getElem?_map, List.getElem?_range hi]; rfl
def B8l (pa : PAr) (env : PEnv) (Q : List PyData -> PEnv -> Prop) : Prop := pa env fun xs e => match xs with
  | [.int j] => (-(2 ^ 62) <= j /\ j < 2 ^ 62) /\ Q (rngD 0 j.toNat) e
  | _ => False
def C03 (pa : PAr) (env : PEnv) (Q : List PyData -> PEnv -> Prop) : Prop := pa env fun xs e => match xs with
  | [.int i, .int j] => (-(2 ^ 62) <= i /\ i < 2 ^ 62 /\ -(2 ^ 62) <= j /\ j < 2 ^ 62) /\ Q (rngD i (j - i).toNat) e
  | _ => False
instance ri_rng1 {K : Frag} {ta : TA} {pa : PAr} [ha : RAv K ta pa] : RI K (B6m ta) (B8l pa) where
  ok := by
    rintro c w env σ Qp R rfl E p k
    refine ha.ok c w env σ _ _ rfl E p fun vs xs e1 w1 E1 l1 v1 q1 => ?_
    split at q1
    · cases v1 with | cons h t => cases t; exact ⟨_, by rw [h.intE], q1.1.1, q1.1.2, k _ _ e1 w1 E1 l1 B0n q1.2⟩
    · exact q1.elim
def W3 (xs : List PyData) (pg : PyData -> PEnv -> (PEnv -> Prop) -> Prop) (pb : PSt) (D : PEnds) (env : PEnv) : Prop :=
  ∃ Inv : Nat -> PEnv -> Prop, Inv 0 env /\ (∀ i x e, xs[i]? = some x -> Inv i e -> pg x e fun e2 => pb ⟨Inv (i + 1), D.rt, D.nx, Inv (i + 1)⟩ e2) /\ ∀ e, Inv xs.length e -> D.nx e
def pFor (pi : PAr) (pg : PyData -> PEnv -> (PEnv -> Prop) -> Prop) (pb : PSt) (D : PEnds) (env : PEnv) : Prop := pi env fun xs e => W3 xs pg pb D e
instance rs_for {K : Frag} {wi : TI} {g : TG} {tb : TS} {pi : PAr} {pg : PyData -> PEnv -> (PEnv -> Prop) -> Prop} {pb : PSt} [hi : RI K wi pi] [hg : RG K g pg] [hb : RS K tb pb] : RS K (tFor wi g tb) (pFor pi pg pb) where
  ok := by
    rintro c w env σ Dp D rfl E h p
    refine hi.ok c w env σ _ _ rfl E p fun J xs e1 w1 E1 l1 wk ⟨Iv, i0, step, fin⟩ => ?_
    refine ⟨fun i m σ' H' => m = xs.length - i /\ i <= xs.length /\ ∃ e w', w'.H = H' /\ EnvOk c w' e σ' /\ Same w1.F w'.F /\ Iv i e, ⟨xs.length, rfl, Nat.zero_le _, e1, w1, rfl, E1, Same.refl _, i0⟩, ?_⟩
    rintro i m σ2 _ ⟨rfl, hle, e2, w2, rfl, E2, s2, i2⟩
    obtain ⟨go, stop, yld⟩ := wk w2 E2.wok E2.le0 s2
    by_cases hlt : i < xs.length
    · refine .inr ⟨go i hlt, fun σ' H' => i + 1 <= xs.length /\ ∃ e w', w'.H = H' /\ EnvOk c w' e σ' /\ Same w1.F w'.F /\ Iv (i + 1) e, fun σ' H' ⟨q0, q⟩ => ⟨xs.length - (i + 1), by omega, rfl, q0, q⟩, fun v H' y => ?_⟩
      obtain ⟨w2', x, rfl, ok2, le2, hx, dx⟩ := yld i v H' y hlt
      replace E2 := E2.mono ok2 le2
      replace s2 := s2.trans le2.f
      clear yld go stop y le2 ok2
      generalize w2' = w2 at E2 s2 dx
      refine hg.ok c w2 e2 σ2 v x _ _ rfl E2 dx (step i x e2 hx i2) fun e3 σ3 E3 q3 => ?_
      refine hb.ok c w2 e3 σ3 ⟨Iv (i + 1), Dp.rt, Dp.nx, Iv (i + 1)⟩ _ rfl E3 ⟨fun e4 σ4 w4 E4 s4 n4 => ⟨hlt, e4, w4, rfl, E4, s2.trans s4, n4⟩, h.rt, fun e4 σ4 w4 E4 s4 n4 => h.nx e4 σ4 w4 E4 (l1.f.trans (s2.trans s4)) n4, fun e4 σ4 w4 E4 s4 n4 => ⟨hlt, e4, w4, rfl, E4, s2.trans s4, n4⟩⟩ q3
    · have e : i = xs.length := by omega
      subst e
      exact .inl ⟨stop, h.nx e2 σ2 w2 E2 (l1.f.trans s2) (fin e2 i2)⟩
theorem U6 {lo : Int} {n : Nat} {pg : PyData -> PEnv -> (PEnv -> Prop) -> Prop} {pb : PSt} {D : PEnds} {env : PEnv} (Inv : Nat -> PEnv -> Prop) (h0 : Inv 0 env)
    (hs : ∀ (i : Nat) e, i < n -> Inv i e -> pg (.int (lo + (i : Int))) e fun e2 => pb ⟨Inv (i + 1), D.rt, D.nx, Inv (i + 1)⟩ e2) (hd : ∀ e, Inv n e -> D.nx e) : W3 (rngD lo n) pg pb D env :=
  ⟨Inv, h0, fun i x e hx hi => by obtain ⟨h1, rfl⟩ := A2u hx; exact hs i e h1 hi, fun e h => hd e (by rwa [M8] at h)⟩
theorem A9q {xs : List PyData} {pg : PyData -> PEnv -> (PEnv -> Prop) -> Prop} {pb : PSt} {D : PEnds} {env : PEnv} (Inv : Nat -> PEnv -> Prop) (h0 : Inv 0 env)
    (hs : ∀ (i : Nat) x e, xs[i]? = some x -> Inv i e -> pg x e fun e2 => pb ⟨Inv (i + 1), D.rt, D.nx, Inv (i + 1)⟩ e2) (hd : ∀ e, Inv xs.length e -> D.nx e) : W3 xs pg pb D env := ⟨Inv, h0, hs, hd⟩
def SV.lent : SV -> Option SV
  | .own xs => some (.bor xs)
  | .tr _ => none
  | .bt _ => none
  | s => some s
def F9 (cap : List (Option Nat)) (env : PEnv) : PEnv := cap.map fun o => o.bind fun j => (env[j]?).join.bind SV.lent
theorem EnvOk.writeZ {c : Ct} {w : Wd} {env : PEnv} {σ : St} {l : Addr} {us : List V} (E : EnvOk c w env σ) (z : c.Z l) (h4 : c.w0.H l = none) : EnvOk c ⟨w.M, upd w.H l (.lst us), w.F⟩ env σ := by
  obtain ⟨h2, h1, h3⟩ := E.zf l z
  have ne : ∀ b, w.M b -> b ≠ l := fun b hb z => h3 (z ▸ hb)
  refine ⟨⟨fun b o q => ?_, fun p hp => (E.wok.st p hp).kp (ne p hp) Kp.upd, E.wok.nf⟩, ⟨⟨E.le0.f, fun b o q n => ?_, E.le0.m, E.le0.mn, fun b q => E.le0.dom b (P7 q)⟩, E.le0.n⟩, E.len, fun j s q => ?_, E.own, fun a za => ?_, E.zo⟩
  · show upd w.H l (.lst us) b = some o
    rw [C7 (fun z => by rw [z, h2] at q; cases q)]; exact E.wok.sub b o q
  · show upd w.H l (.lst us) b = some o
    rw [C7 (fun z => by rw [z, h4] at q; cases q)]; exact E.le0.h b o q n
  · obtain ⟨v, g1, g2⟩ := E.at' j s q
    exact ⟨v, g1, g2.writ h1 (E.zo l j s v z q g1)⟩
  · obtain ⟨z1, z2, z3⟩ := E.zf a za
    exact ⟨z1, fun q => z2 (P7 q), z3⟩
theorem EnvOk.cap {c : Ct} {w : Wd} {env : PEnv} {σ : St} {D : Addr} (cap : List (Option Nat)) (E : EnvOk c w env σ) (hD : w.H D = none) : EnvOk ⟨c.K, w, fun a => a = D⟩ (w.lay D (.lst [])) (F9 cap env) (capσ cap σ) := by
  have nown : ∀ (i : Nat) s v a, (F9 cap env)[i]? = some (some s) -> ¬ s.foot v a := fun i s0 v a q f => by
    unfold F9 at q
    rw [List.getElem?_map] at q
    cases hc : cap[i]? with
    | none => rw [hc] at q; cases q
    | some o =>
      rw [hc] at q
      cases o with
      | none => cases q
      | some j =>
        have q' : ((env[j]?).join.bind SV.lent) = some s0 := Option.some.inj q
        cases hj : (env[j]?).join with
        | none => rw [hj] at q'; cases q'
        | some s => rw [hj] at q'; cases s <;> cases q' <;> exact f
  refine ⟨Wd.lay_ok E.wok hD, Wd.lay_le hD, by simp [F9, capσ], fun i s q => ?_, fun i j s t v u a q _ _ _ f => absurd f (nown i s v a q), fun a za => ?_, fun a j t u _ q _ => nown j t u a q⟩
  · unfold F9 at q
    unfold capσ
    rw [List.getElem?_map] at q ⊢
    cases hc : cap[i]? with
    | none => rw [hc] at q; cases q
    | some o =>
      rw [hc] at q
      cases o with
      | none => cases q
      | some j =>
        have q' : ((env[j]?).join.bind SV.lent) = some s := Option.some.inj q
        cases hj : env[j]? with
        | none => rw [hj] at q'; cases q'
        | some t =>
          rw [hj] at q'
          cases t with
          | none => cases q'
          | some s0 =>
            have q2 : s0.lent = some s := q'
            obtain ⟨v, h1, h2⟩ := E.at' j s0 hj
            refine ⟨v, by simp [h1], ?_⟩
            cases s0 with
            | d x => cases q2; exact h2
            | own xs => cases q2; obtain ⟨l, vs, e, g1, g2, g3, g4, g5⟩ := h2; exact .inr ⟨l, vs, e, g1, g3, g5⟩
            | bor xs =>
              cases q2
              rcases h2.vv E.le0 with g | ⟨l, vs, ys, e, e', g1, g2, g3⟩
              · exact .inl g
              · cases e'; exact .inr ⟨l, vs, e, g1, g2, g3⟩
            | st => cases q2; exact h2
            | tr t => cases q2
            | bt t => cases q2
            | al t => cases q2; exact h2
  · have e : a = D := za
    subst e
    exact ⟨E.wok.fnone hD, by show upd w.H a (.lst []) a ≠ none; rw [C9]; simp, fun z => E.wok.mne hD z rfl⟩
theorem Walk.up {c : Ct} {w : Wd} {J : It} {xs : List PyData} (h : Walk c w J xs) (l : Le c.w0 w) : Walk ⟨c.K, w, c.Z⟩ w J xs := fun w' ok l' s => h w' ok (l.trans l') s
def K7 (xs : List PyData) (pg : PyData -> PEnv -> (PEnv -> Prop) -> Prop) (pt : PTt) (pd : PDt) (e0 : PEnv) (Fin : List PyData -> Prop) : Prop :=
  ∃ Pv : Nat -> PEnv -> List PyData -> Prop, Pv 0 e0 [] /\ (∀ i x e ys, xs[i]? = some x -> Pv i e ys -> pg x e fun e2 => pt e2 fun b e3 => if b = true then pd e3 fun y e4 => Pv (i + 1) e4 (ys ++ [y]) else Pv (i + 1) e3 ys) /\ ∀ e ys, Pv xs.length e ys -> Fin ys
theorem A2e {K : Frag} {g : TG} {tt : TT} {te : TE} {pg : PyData -> PEnv -> (PEnv -> Prop) -> Prop} {pt : PTt} {pd : PDt} [hg : RG K g pg] [ht : RT K tt pt] [he : RD K te pd] {c : Ct} {w : Wd} {env : PEnv} {σ : St} {J : It} {xs : List PyData} {cap : List (Option Nat)} {D : Addr} {Fp : List PyData -> Prop} {Fin : Hpp -> Prop}
    (hK : c.K = K) (E : EnvOk c w env σ) (wk : Walk ⟨c.K, w, c.Z⟩ w J xs) (hn : xs.length < 1000000) (p : K7 xs pg pt pd (F9 cap env) Fp) (hD : w.H D = none) (k : ∀ w' ys, Res c w env σ w' (.ref D) (.own ys) -> Fp ys -> Fin w'.H) : A4d J g tt te D Fin (capσ cap σ) w.H := by
  subst hK
  obtain ⟨Pv, p0, step, fin⟩ := p
  have hw0 : c.w0.H D = none := E.le0.dom D hD
  refine ⟨fun i m σ' H' vs => m = xs.length - i /\ i <= xs.length /\ ∃ e w' ys, w'.H = H' /\ EnvOk ⟨c.K, w, fun a => a = D⟩ w' e σ' /\ w'.H D = some (.lst vs) /\ vs.length <= i /\ DenAll c.K w'.F vs ys /\ Pv i e ys,
    ⟨xs.length, rfl, Nat.zero_le _, F9 cap env, w.lay D (.lst []), [], rfl, E.cap cap hD, C9, Nat.le_refl _, .nil, p0⟩, ?_⟩
  rintro i m σ1 _ vs ⟨rfl, hle, e1, w1, ys, rfl, E1, h1, hvl, d1, q1⟩
  refine ⟨h1, A5t (by omega), ?_⟩
  obtain ⟨go, stop, yld⟩ := wk w1 E1.wok E1.le0 E1.le0.f
  by_cases hlt : i < xs.length
  · refine .inr ⟨go i hlt, fun v H' y => ?_⟩
    obtain ⟨w1', x, rfl, ok1', le1, hx, dx⟩ := yld i v H' y hlt
    replace h1 := le1.h _ _ h1 (E1.zf D rfl).2.2
    replace E1 := E1.mono ok1' le1
    replace d1 := DenAll.same le1.f d1
    clear yld go stop y le1 ok1'
    generalize w1' = w1 at E1 h1 d1 dx
    refine hg.ok ⟨c.K, w, fun a => a = D⟩ w1 e1 σ1 v x _ _ rfl E1 dx (step i x e1 ys hx q1) fun e2 σ2 E2 q2 => ?_
    refine ht.ok ⟨c.K, w, fun a => a = D⟩ w1 e2 σ2 _ _ rfl E2 q2 fun b e3 w3 E3 l3 q3 => ?_
    have nm := (E2.zf D rfl).2.2
    have h3 := l3.h _ _ h1 nm
    cases b with
    | true =>
      refine he.ok ⟨c.K, w, fun a => a = D⟩ w3 e3 σ2 _ _ rfl E3 q3 fun y' y e4 w4 E4 l4 d4 q4 => ?_
      have h4 := l4.h _ _ h3 (E3.zf D rfl).2.2
      refine ⟨vs, h4, A5t (by omega), xs.length - (i + 1), by omega, rfl, hlt, e4, ⟨w4.M, upd w4.H D (.lst (vs ++ [y'])), w4.F⟩, ys ++ [y], rfl, E4.writeZ rfl hD, C9, by rw [List.length_append]; simp; exact hvl, (DenAll.same (l3.f.trans l4.f) d1).app (.cons d4 .nil), q4⟩
    | false =>
      exact ⟨xs.length - (i + 1), by omega, rfl, hlt, e3, w3, ys, rfl, E3, h3, by omega, DenAll.same l3.f d1, q3⟩
  · have e : i = xs.length := by omega
    subst e
    obtain ⟨z1, z2, z3⟩ := E1.zf D rfl
    refine .inl ⟨stop, k w1 ys ⟨E.mono E1.wok E1.le0, E1.le0.toLw, ⟨D, vs, rfl, h1, z1, z3, hw0, d1⟩, fun a f => ?_, rfl⟩ (fin e1 ys q1)⟩
    have : V.ref D = .ref a := f
    cases this
    exact E.fresh hD
def B8z (pi : PAr) (pg : PyData -> PEnv -> (PEnv -> Prop) -> Prop) (pt : PTt) (pd : PDt) (cap : List (Option Nat)) (env : PEnv) (Q : SV -> PEnv -> Prop) : Prop := pi env fun xs e => xs.length < 1000000 /\ K7 xs pg pt pd (F9 cap e) fun ys => Q (.own ys) e
instance re_comp {K : Frag} {wi : TI} {g : TG} {tt : TT} {te : TE} {cap : List (Option Nat)} {pi : PAr} {pg : PyData -> PEnv -> (PEnv -> Prop) -> Prop} {pt : PTt} {pd : PDt} [hi : RI K wi pi] [hg : RG K g pg] [ht : RT K tt pt] [he : RD K te pd] : RE K (B4z wi g tt te cap) (B8z pi pg pt pd cap) where
  ok := by
    rintro c w env σ Qp Q rfl E p k
    refine hi.ok c w env σ _ _ rfl E p fun J xs e1 w1 E1 l1 wk ⟨hn, q⟩ D hD => ?_
    exact A2e (pg := pg) (pt := pt) (pd := pd) rfl E1 (wk.up E1.le0) hn q hD fun w' ys R q' => k _ _ e1 w' (R.pre l1) q'
def A24 (pi : PAr) (pg : PyData -> PEnv -> (PEnv -> Prop) -> Prop) (pt : PTt) (pd : PDt) (cap : List (Option Nat)) (i : Nat) (D : PEnds) (env : PEnv) : Prop := pi env fun xs e => xs.length < 1000000 /\ K7 xs pg pt pd (F9 cap e) fun ys => D.nx (e.set i (some (.own ys)))
instance rs_setComp {K : Frag} {wi : TI} {g : TG} {tt : TT} {te : TE} {cap : List (Option Nat)} {i : Nat} {pi : PAr} {pg : PyData -> PEnv -> (PEnv -> Prop) -> Prop} {pt : PTt} {pd : PDt} [hi : RI K wi pi] [hg : RG K g pg] [ht : RT K tt pt] [he : RD K te pd] : RS K (S2 wi g tt te cap i) (A24 pi pg pt pd cap i) where
  ok := by
    rintro c w env σ Dp D rfl E h p
    refine hi.ok c w env σ _ _ rfl E p fun J xs e1 w1 E1 l1 wk ⟨hn, q⟩ l hl => ?_
    exact A2e (pg := pg) (pt := pt) (pd := pd) rfl E1 (wk.up E1.le0) hn q hl fun w' ys R q' => h.nx _ _ w' (R.ev.set R.val R.new) (l1.f.trans R.lw.f) q'
class RP (K : Frag) (to : TO) (po : outParam (PEnv -> (Option Int -> PEnv -> Prop) -> Prop)) : Prop where
  ok : ∀ (c : Ct) (w : Wd) (env : PEnv) (σ : St) (Qp : Option Int -> PEnv -> Prop) (Q : Option Int -> Hpp -> Prop), c.K = K -> EnvOk c w env σ -> po env Qp -> (∀ o env' w', EnvOk c w' env' σ -> Lw w w' -> Qp o env' -> Q o w'.H) -> to σ w.H Q
def A1y (env : PEnv) (Q : Option Int -> PEnv -> Prop) : Prop := Q none env
def asI (x : PyData) (k : Int -> Prop) : Prop := match x with
  | .int i => k i
  | _ => False
def B5z (pa : PDt) (env : PEnv) (Q : Option Int -> PEnv -> Prop) : Prop := pa env fun x e => asI x fun i => Q (some i) e
instance rp_no {K : Frag} : RP K A1v A1y := ⟨fun c w env σ Qp Q _ E p k => k none env w E (Lw.refl w) p⟩
instance rp_part {K : Frag} {te : TE} {pa : PDt} [ha : RW K te pa] : RP K (B4w te) (B5z pa) where
  ok := by
    rintro c w env σ Qp Q rfl E p k
    refine ha.ok c w env σ _ _ rfl E p fun x dx e1 w1 E1 l1 v1 q1 => ?_
    unfold asI at q1
    split at q1
    · exact ⟨_, v1.intE, k _ e1 w1 E1 l1 q1⟩
    · exact q1.elim
def cutD (xs : List PyData) (lo hi : Option Int) : List PyData := (xs.drop (HT.sIx xs.length 0 lo)).take (HT.sIx xs.length xs.length hi - HT.sIx xs.length 0 lo)
def pSlL (pa : PDt) (pl ph : PEnv -> (Option Int -> PEnv -> Prop) -> Prop) (env : PEnv) (Q : SV -> PEnv -> Prop) : Prop := pa env fun x e => asL x fun xs => pl e fun lo e1 => ph e1 fun hi e2 => Q (.own (cutD xs lo hi)) e2
instance re_sl {K : Frag} {te : TE} {tl th : TO} {pa : PDt} {pl ph : PEnv -> (Option Int -> PEnv -> Prop) -> Prop} [ha : RW K te pa] [hl : RP K tl pl] [hh : RP K th ph] : RE K (tSl (rSlL K) te tl th) (pSlL pa pl ph) where
  ok := by
    rintro c w env σ Qp Q rfl E p k
    refine ha.ok c w env σ _ _ rfl E p fun x dx e1 w1 E1 l1 v1 q1 => ?_
    unfold asL at q1
    split at q1
    · rename_i xs
      refine hl.ok c w1 e1 σ _ _ rfl E1 q1 fun lo e2 w2 E2 l2 q2 => ?_
      refine hh.ok c w2 e2 σ _ _ rfl E2 q2 fun hi e3 w3 E3 l3 q3 => ?_
      obtain ⟨a, vs, e, g1, g2⟩ := ((v1.mono l2).mono l3).lst E3.wok
      refine ⟨a, vs, e, g1, fun p hp => k _ _ e3 _ ((Res.lst E3 hp (xs := cutD xs lo hi) ?_).pre (l1.trans (l2.trans l3))) q3⟩
      unfold cutV cutD
      rw [g2.len]
      exact (g2.drop _).take _
    · exact q1.elim
def pRev (pa pb : PDt) (env : PEnv) (Q : SV -> PEnv -> Prop) : Prop := pa env fun x e => asL x fun xs => pb e fun k e2 => k = .int (-1) /\ Q (.own xs.reverse) e2
theorem L7 {K : Frag} {w : Wd} : ∀ {md : List Md} {vs : List V} {as : List SV}, Args K w md vs as -> as.length = vs.length /\ ∀ (i : Nat) s, as[i]? = some s -> (∃ v, vs[i]? = some v /\ VR ⟨K, w, noZ⟩ w v s) /\ ∀ u a, ¬ s.foot u a
  | _, _, _, .nil => ⟨rfl, fun i s h => by simp at h⟩
  | _, _, _, .dat h t => ⟨by simp [(L7 t).1], fun i s e => match i, e with
    | 0, e => by simp at e; subst e; exact ⟨⟨_, rfl, h⟩, fun _ _ z => z⟩
    | i + 1, e => by simpa using (L7 t).2 i s (by simpa using e)⟩
  | _, _, _, .vw h t => ⟨by simp [(L7 t).1], fun i s e => match i, e with
    | 0, e => by
      simp at e; subst e
      refine ⟨⟨_, rfl, ?_⟩, fun _ _ z => z⟩
      rcases h with h | ⟨l, vs, ys, e1, e2, h1, h2, h3⟩
      · exact .inl h
      · cases e2; exact .inr ⟨l, vs, e1, h1, h2, h3⟩
    | i + 1, e => by simpa using (L7 t).2 i s (by simpa using e)⟩
  | _, _, _, .bt h t => ⟨by simp [(L7 t).1], fun i s e => match i, e with
    | 0, e => by simp at e; subst e; exact ⟨⟨_, rfl, h⟩, fun _ _ z => z⟩
    | i + 1, e => by simpa using (L7 t).2 i s (by simpa using e)⟩
  | _, _, _, .st h t => ⟨by simp [(L7 t).1], fun i s e => match i, e with
    | 0, e => by simp at e; subst e; exact ⟨⟨_, rfl, h⟩, fun _ _ z => z⟩
    | i + 1, e => by simpa using (L7 t).2 i s (by simpa using e)⟩
theorem E8 {K : Frag} {ts : TS} {ps : PSt} [hs : RS K ts ps] {md : List Md} {psp : PSp} {vs : List V} {H : Hpp} {Q : VK} {E : XK} {N : List Str} (h : spOf K md psp vs H Q E)
    (hb : ∀ as Qp, psp as Qp -> ps ⟨fun _ => Qp (.d .none), fun s _ => Qp s, fun _ => False, fun _ => False⟩ (as.map some ++ List.replicate (N.length - md.length) none)) : ts { nx := fun _ H' => Q .non H', rt := Q } (L2.R7 N vs) H := by
  obtain ⟨w, as, Qp, rfl, ok, a, p, k⟩ := h
  obtain ⟨hl, hat⟩ := L7 a
  have look : ∀ (i : Nat) s, (as.map some ++ List.replicate (N.length - md.length) none)[i]? = some (some s) -> as[i]? = some s := fun i s e => by
    rw [List.getElem?_append] at e
    split at e
    · rw [List.getElem?_map] at e
      cases q : as[i]? with
      | none => rw [q] at e; cases e
      | some t => rw [q] at e; cases e; rfl
    · rw [List.getElem?_replicate] at e
      split at e <;> cases e
  refine hs.ok ⟨K, w, noZ⟩ w (as.map some ++ List.replicate (N.length - md.length) none) (L2.R7 N vs) _ _ rfl ⟨ok, Le.refl w, by simp [L2.R7, hl, a.len], fun i s e => ?_, fun i j s t v u a e _ _ _ f => absurd f ((hat i _ (look i _ e)).2 v a), fun a z => z.elim, fun a j t u z => z.elim⟩ ⟨fun env σ w' E' _ q => ?_, fun v s _ _ w' E' h r q => k v s w' E'.wok E'.le0 h r q, fun _ _ _ _ _ z => z, fun _ _ _ _ _ z => z⟩ (hb as Qp p)
  · obtain ⟨⟨v, h1, h2⟩, _⟩ := hat i s (look i s e)
    refine ⟨v, ?_, h2⟩
    unfold L2.R7
    rw [List.getElem?_append_left (by rw [List.length_map]; exact (List.getElem?_eq_some_iff.mp h1).1), List.getElem?_map, h1]; rfl
  · exact k .non (.d .none) w' E'.wok E'.le0 (show Den _ _ _ _ from .non) rfl q
def pLaw : PSp := fun as Q => ∃ ns : List Int, as = [.bor (ns.map .int)] /\ ns.length <= 63 /\ Q (.d (.bool true))
theorem A92 {K : Frag} {F : Hpp} : ∀ ns : List Int, DenAll K F (ns.map V.int) (ns.map .int)
  | [] => .nil
  | n :: r => .cons (.int n) (A92 r)
theorem B9s {K : Frag} : ∀ vs H Q E, B43 K vs H Q E -> spOf K [.vw] pLaw vs H Q E := by
  rintro vs H Q E ⟨a, ns, rfl, hS, hl, k⟩
  refine ⟨⟨fun _ => False, H, fun b => if b = a then H a else none⟩, [.bor (ns.map .int)], fun s => s = .d (.bool true), rfl, ⟨fun b o e => ?_, fun _ z => z.elim, fun _ z => z.elim⟩, .vw (.inl (.lst ?_ (A92 ns))) .nil, ⟨ns, rfl, hl, rfl⟩, fun v s w' ok l h r e => ?_⟩
  · dsimp only at e
    split at e
    · rename_i z; rw [z]; exact e
    · cases e
  · rcases hS with (h | ⟨o, h⟩) | h
    · exact .inl (.inl (by dsimp only; rw [if_pos rfl]; exact h))
    · exact .inl (.inr ⟨o, by dsimp only; rw [if_pos rfl]; exact h⟩)
    · exact .inr h
  · subst e
    have : v = .bl true := Den.blE h
    subst this
    exact k _
end Pu
namespace L2
open PySem PySem.Spec PyProof.Rows
end L2
namespace Pu
open PySem L2 My Prf
theorem A60 {q : Rat} {Q : SV -> Prop} : pIx (dq q) (.int 0) Q = Q (.d (.int q.num)) := rfl
theorem A6z {q : Rat} {Q : SV -> Prop} : pIx (dq q) (.int 1) Q = Q (.d (.int (q.den : Int))) := rfl
theorem A8l {i : Int} : (PyData.int i).canLay0 = true := rfl
theorem A3t {b : Bool} : (PyData.bool b).canLay0 = true := rfl
theorem A3s : PyData.none.canLay0 = true := rfl
theorem A90 {i : Int} : (PyData.int i).depth = 0 := rfl
theorem A4c {b : Bool} : (PyData.bool b).depth = 0 := rfl
theorem A9y {s : Str} : (PyData.str s).depth = 0 := rfl
theorem A4b : PyData.none.depth = 0 := rfl
theorem B3r {q : Rat} : (dq q).canLay0 = true := rfl
theorem B4m {q : Rat} : (dq q).depth = 1 := rfl
theorem Z7 {i j : Int} : PyData.eqv (.int i) (.int j) = decide (i = j) := by
  show (i == j) = _
  by_cases h : i = j <;> simp [h]
theorem B48 {p q : Rat} (h1 : p.num = q.num) (h2 : (p.den : Int) = q.den) : p = q := Rat.ext h1 (by omega)
theorem B4h {p q : Rat} : PyData.eqv (dq p) (dq q) = decide (p = q) := by
  show (PyData.eqv (.int p.num) (.int q.num) && (PyData.eqv (.int (p.den : Int)) (.int (q.den : Int)) && true)) = _
  rw [Z7, Z7, Bool.and_true]
  by_cases h : p = q
  · subst h; simp
  · rw [decide_eq_false h]
    by_cases h1 : p.num = q.num
    · have h2 : ¬ (p.den : Int) = (q.den : Int) := fun z => h (B48 h1 z)
      rw [decide_eq_false h2, Bool.and_false]
    · rw [decide_eq_false h1, Bool.false_and]
theorem A07 {q : Rat} : PyData.eqv .none (dq q) = false := rfl
theorem A06 {q : Rat} : PyData.eqv (dq q) .none = false := rfl
theorem A9h {q : Rat} : isNo (dq q) = false := rfl
theorem A5d : PyData.tuple [.int 0, .int 1] = dq 0 := rfl
theorem B3d : PyData.tuple [.int 1, .int 1] = dq 1 := rfl
theorem B12 {q : Rat} : tyD (dq q) = "tuple" := rfl
theorem B36 : kitB "bool" "bool" = some true := by decide +kernel
theorem B32 : kitB "int" "int" = some true := by decide +kernel
theorem B35 : kitB "bool" "int" = some true := by decide +kernel
theorem B3w : kitB "str" "str" = some true := by decide +kernel
theorem B30 : kitB "list" "list" = some true := by decide +kernel
theorem B3z : kitB "list" "tuple" = some false := by decide +kernel
theorem B3u : kitB "tuple" "list" = some false := by decide +kernel
theorem B3v : kitB "tuple" "bool" = some false := by decide +kernel
theorem B3x : kitB "NoneType" "tuple" = some false := by decide +kernel
theorem A9k {K : Frag} {F : Hpp} : ∀ {vs : List V} {ns : List Int}, DenAll K F vs (ns.map .int) -> vs = ns.map V.int
  | _, [], .nil => rfl
  | _, n :: r, .cons h t => by rw [h.intE, A9k t]; rfl
def A54 : PSp := fun as Q => ∃ n : Int, as = [.st, .d (.int n)] /\ 0 < n /\ Sm 4000 n /\ ∀ d : Int, 0 <= d -> d < n -> Q (.d (.int d))
def A20 : PSp := fun as Q => ∃ (ns : List Int) (k : Int), as = [.bor (ns.map .int), .d (.int k)] /\ 0 <= k /\ k <= 63 /\ Q .st
theorem B4u {K : Frag} : ∀ vs H Q E, spOf K [.st, .dat] A54 vs H Q E -> A5s vs H Q E := by
  rintro vs H Q E ⟨w, as, Qp, rfl, ok, a, ⟨n, rfl, n0, sn, q⟩, k⟩
  cases a with
  | st h t => cases t with
    | dat h' t =>
      cases t
      obtain ⟨p, e, hm⟩ := h
      subst e
      rw [Den.intE h']
      refine ⟨p, n, rfl, ok.st p hm, n0, sn, fun d H' d0 d1 S' kp => ?_⟩
      have out : ∀ b o, w.H b = some o -> b ≠ p -> H' b = some o := fun b o e ne => kp b o ne e
      have pn := ok.nf p hm
      refine k (.int d) (.d (.int d)) ⟨w.M, H', w.F⟩ ⟨fun b o e => out b o (ok.sub b o e) (fun z => by rw [z, pn] at e; cases e), fun r hr => ?_, ok.nf⟩ ⟨⟨Same.refl _, fun b o e nb => out b o e (fun z => nb (z ▸ hm)), fun _ z => z, fun _ z => .inl z, fun b e => ?_⟩, fun _ _ z => .inl z⟩ (Den.int d) rfl (q d d0 d1)
      · by_cases z : r = p
        · subst z; exact S'
        · exact (ok.st r hr).kp z kp
      · cases hb : w.H b with
        | none => rfl
        | some o =>
          by_cases z : b = p
          · subst z; obtain ⟨_, _, _, hp, _⟩ := S'.ex; rw [show H' b = none from e] at hp; cases hp
          · have := out b o hb z; rw [show H' b = none from e] at this; cases this
theorem B1u {K : Frag} : ∀ vs H Q E, spOf K [.vw, .dat] A20 vs H Q E -> A2o K vs H Q E := by
  rintro vs H Q E ⟨w, as, Qp, rfl, ok, a, ⟨ns, kk, rfl, k0, k1, q⟩, k⟩
  cases a with
  | vw h t => cases t with
    | dat h' t =>
      cases t
      obtain ⟨a, us, e, hS, hd⟩ := h.lst ok
      subst e
      rw [Den.intE h']
      refine ⟨a, ns, kk, rfl, by rw [<- A9k hd]; exact hS, k0, k1, fun p H' hp S' kp => ?_⟩
      have out : ∀ b o, w.H b = some o -> H' b = some o := fun b o e => kp b o (D4 e hp) e
      refine k (.ref p) .st ⟨fun b => w.M b \/ b = p, H', w.F⟩ ⟨fun b o e => out b o (ok.sub b o e), fun r hr => ?_, fun r hr => ?_⟩ ⟨⟨Same.refl _, fun b o e _ => out b o e, fun _ z => .inl z, fun b z => ?_, fun b e => ?_⟩, fun _ _ z => .inl z⟩ ⟨p, rfl, .inr rfl⟩ rfl q
      · rcases hr with hr | rfl
        · exact (ok.st r hr).kp (ok.mne hp hr) kp
        · exact S'
      · rcases hr with hr | rfl
        · exact ok.nf r hr
        · exact ok.fnone hp
      · rcases z with z | rfl
        · exact .inl z
        · exact .inr hp
      · cases hb : w.H b with
        | none => rfl
        | some o => have := out b o hb; rw [show H' b = none from e] at this; cases this
def B71 : PSp := fun as Q => ∃ a b : Int, as = [.d (.int a), .d (.int b)] /\ Q (.d (.int ((Int.gcd a b : Nat) : Int)))
def B5g : PSp := fun as Q => ∃ t b : Int, as = [.d (.int t), .d (.int b)] /\ 0 < b /\ Sm 8000 t /\ Sm 8000 b /\ Q (.d (dq (Rat.divInt t b)))
def A0m (f : Rat -> Rat -> Rat) : PSp := fun as Q => ∃ p q : Rat, as = [.d (dq p), .d (dq q)] /\ SmQ 3900 p /\ SmQ 3900 q /\ Q (.d (dq (f p q)))
def A55 : PSp := fun as Q => ∃ p q : Rat, as = [.d (dq p), .d (dq q)] /\ SmQ 3900 p /\ SmQ 3900 q /\ q ≠ 0 /\ Q (.d (dq (p / q)))
def A42 : PSp := fun as Q => ∃ p q : Rat, as = [.d (dq p), .d (dq q)] /\ SmQ 3900 p /\ SmQ 3900 q /\ 0 < q /\ Q (.d (dq (p / q)))
def A56 : PSp := fun as Q => ∃ p q : Rat, as = [.d (dq p), .d (dq q)] /\ SmQ 3900 p /\ SmQ 3900 q /\ Q (.d (.bool (decide (p < q))))
def A57 : PSp := fun as Q => ∃ (pl : Bool) (le : Int), as = [.st, .d (.bool pl), .d (.int le)] /\ (le = 0 \/ le = 1) /\ ∀ q : Rat, 0 <= q -> (le = 1 -> 0 < q) -> SmR 41 6 q -> (pl = true -> SmR 3 1 q /\ q.den = 1) -> Q (.d (dq q))
end Pu
namespace L2
open PySem PySem.Spec PyProof.Rows
section
variable {X : Cx} {tg : Expr}
def ItrD (lo : Int) (n : Nat) : It := ⟨fun i _ => i < n, fun i H x H' => H' = H /\ x = .int (lo - i), fun i _ => n <= i⟩
theorem A5m {P : Program} {w : World} {K : PySem.W.Frag} {tg : Expr} (it : Addr) (lo : Int) (n : Nat) : Turn P w K tg (ItrD lo n) [it] it (fun i h => IsRangeIter h it (lo + (i : Nat) * (-1)) ((n : Int) - (i : Nat)) (-1)) where
  mem := List.mem_singleton.mpr rfl
  obj := fun i h st b hb => by
    cases List.mem_singleton.mp hb
    refine ⟨_, st, fun v z => ?_⟩
    have z' : Data.fields _ = Data.cell v := z
    cases z'
  keep := fun i h h' st k => k it (List.mem_singleton.mpr rfl) _ st
  item := by
    intro X hP hw hK hc i pins s σ H E I hf st hg
    subst hP hw hK
    have f := hf it (List.mem_singleton.mpr rfl)
    have W := Walks.range (prog := X.prog) (w := X.w) (I.ok.hd hc) it lo (-1) n
    refine W.item i s _ _ hg st fun v h' tk hv st' kk => ?_
    obtain ⟨t, rfl⟩ := hv
    have I1 : Inv X pins σ H { s with heap := h', toks := tk } := I.turned (fun b o hb e => kk b o (fun z => hb (List.mem_singleton.mp z)) e) f.1 f.2.1 f.2.2.2.1 f.2.2.2.2.1 f.2.2.2.2.2
    refine ⟨_, rfl, A9o (s := { s with heap := h', toks := tk }) (n := "range_iterator") st' rfl rfl (by decide) ⟨.int (lo - i), H, I1, ⟨t, ?_⟩, ⟨rfl, rfl⟩, st', fun b hb => (hf b hb).1⟩⟩
    congr 1
    omega
  done := by
    intro X hP hw hK hc i pins s σ H E I hf st hg
    subst hP hw hK
    have f := hf it (List.mem_singleton.mpr rfl)
    have hn : n <= i := hg
    exact wpAny_pyNext_range_end (I.ok.hd hc) st (by omega) fun h' eb => ⟨rfl, I.turned (t' := s.toks) (fun b o hb e => eb b o hb e) f.1 f.2.1 f.2.2.2.1 f.2.2.2.2.1 f.2.2.2.2.2⟩
  self := fun _ _ _ _ _ st h => wpAny_pyIter_rangeiter st h
theorem A0k (a b : Int) : Builtin.Range.rangeSize a b (-1) = if b < a then a - b else 0 := by
  unfold Builtin.Range.rangeSize
  rw [if_neg (by decide)]
  by_cases h : b < a
  · rw [if_pos h, if_pos h, show -(-1 : Int) = 1 from rfl, Int.ediv_one]; omega
  · rw [if_neg h, if_neg h]
theorem A4w {a b : Int} (h : (-(2 ^ 61) <= a /\ a < 2 ^ 61) /\ -(2 ^ 61) <= b /\ b < 2 ^ 61) : Builtin.Range.small a b (-1) = true := by
  obtain ⟨⟨h1, h2⟩, h3, h4⟩ := h
  unfold Builtin.Range.small
  rw [A0k]
  simp only [Builtin.Range.rangeFitsLong, Bool.and_eq_true, Bool.or_eq_true, decide_eq_true_eq, beq_iff_eq, show ¬ (-1 : Int) > 0 by decide, if_false]
  by_cases h : b < a
  · simp only [if_pos h]; omega
  · simp only [if_neg h]; omega
def B6l (ta : TA) : TI := fun σ H R => ta σ H fun vs H1 => ∃ i j : Int, vs = [.int i, .int j, .int (-1)] /\ ((-(2 ^ 61) <= i /\ i < 2 ^ 61) /\ -(2 ^ 61) <= j /\ j < 2 ^ 61) /\ R (ItrD i (i - j).toNat) H1
theorem A6g {a b c : Expr} {ta : TA} {p pos : Pos} (hg : Gl X "range") (hm : X.mg "range" = none) (ha : PA X [a, b, c] ta) (hs : starEach [a, b, c] X.env = [(false, eval a X.env), (false, eval b X.env), (false, eval c X.env)] := by rfl)
    (hs2 : starEach [b, c] X.env = [(false, eval b X.env), (false, eval c X.env)] := by rfl) : PI X tg (.Call (.Name "range" p) [a, b, c] [] pos) (B6l ta) := by
  intro pins s σ H R I h
  refine Call_ (U1 I hg hm boot_range (PyProof.Rows.callWith_type1 (thn (ha pos pins s σ H _ I h) fun us s1 ⟨vs, H1, I1, r1, q1⟩ => ?_) (hs.trans (by rw [hs2])) (by rw [hs2]; rfl)))
  obtain ⟨i, j, e, hb, q⟩ := q1
  subst e
  cases r1 with
  | cons r rr => cases rr with
    | cons r' rr => cases rr with
      | cons r2 rr =>
        cases rr
        obtain ⟨t, rfl⟩ := r
        obtain ⟨t', rfl⟩ := r'
        obtain ⟨t2, rfl⟩ := r2
        refine call_range_3 (by decide) ?_ (.inl (PyProof.noPylong_small (by decide)))
        refine wpAny_pyIter_range (IsRange.new ..) (A4w hb) ?_
        have I2 : Inv X pins σ H1 { s1 with heap := s1.heap.push { cls := .type "range", data := .fields #[.int i t, .int j t', .int (-1) t2] }, toks := s1.toks } := I1.kept fun b o e => Heap.get?_push_of_some _ e
        refine ⟨(s1.heap.push { cls := .type "range", data := .fields #[.int i t, .int j t', .int (-1) t2] }).objs.size, [(s1.heap.push { cls := .type "range", data := .fields #[.int i t, .int j t', .int (-1) t2] }).objs.size], _, _, H1, rfl,
          I2.kept (t' := s1.toks) fun b o e => Heap.get?_push_of_some _ e, A5m _ i (i - j).toNat, ?_, fun b hb => ?_, q⟩
        · have e1 : i + ((0 : Nat) : Int) * (-1) = i := by omega
          have e2 : (((i - j).toNat : Nat) : Int) - ((0 : Nat) : Int) = Builtin.Range.rangeSize i j (-1) := by rw [A0k]; split <;> omega
          show IsRangeIter _ _ (i + ((0 : Nat) : Int) * (-1)) ((((i - j).toNat : Nat) : Int) - ((0 : Nat) : Int)) (-1)
          rw [e1, e2]
          exact Heap.get?_push_size _ rfl
        · cases List.mem_singleton.mp hb
          exact I2.fpOk (Nat.le_refl _) (I2.hok.fresh (Nat.le_refl _))
def B7p (K : PySem.W.Frag) : R2 := fun x y H Q => ∃ l b xs zs, x = .ref l /\ y = .ref b /\ SqL K H l xs /\ SqL K H b zs /\ xs.length + zs.length <= sizeLine /\ ∀ p, H p = none -> Q (.ref p) (upd H p (.lst (xs ++ zs)))
theorem T8 {K : PySem.W.Frag} (hK : X.K = K) : OpR X (binaryOp .Add) (B7p K) := by
  subst hK
  intro pins s σ H x y v u Q I rx ry h
  obtain ⟨l, b, xs, zs, rfl, rfl, hH, hB, hz, q⟩ := h
  cases rx
  cases ry
  obtain ⟨its, r, hl, z⟩ := I.list hH
  obtain ⟨its2, r2, hl2, z2⟩ := I.list hB
  have n1 := r.length
  have n2 := r2.length
  obtain ⟨⟨k1, dd, da, sl⟩, m1, ho, e1, e2, e3⟩ := hl
  obtain ⟨⟨k2, dd2, da2, sl2⟩, m2, ho2, e4, e5, e6⟩ := hl2
  dsimp only at e1 e2 e3 e4 e5 e6
  subst e1 e2 e3 e4 e5 e6
  refine concat_meets ⟨_, ho, rfl⟩ ⟨_, ho2, rfl⟩ noFill_list_add seq_list_add F.slot_list_add F.entry_list_add (F.args_list_add_2 _ _) (list_addW l b its.toArray its2.toArray m1 m2 none none sl sl2 (by rw [List.size_toArray, List.size_toArray]; omega)) ⟨ho, ho2, ?_⟩
  rw [show its.toArray ++ its2.toArray = (its ++ its2).toArray by simp]
  exact ⟨.ref _, _, I.lnew (t' := s.toks) (r.append r2) (by rw [List.length_append]; omega), rfl, q _ I.fresh⟩
end
end L2
namespace L2
open PySem PySem.Spec PyProof.Rows
section
variable {X : Cx}
def Z5 (T : String) : List String -> Option Bool
  | [] => some false
  | c :: r => match kitB T c with
    | some true => some true
    | some false => Z5 T r
    | none => none
end
end L2
namespace Pu
open PySem L2 My Prf
def dwnD (lo : Int) (n : Nat) : List PyData := (List.range n).map fun k : Nat => PyData.int (lo - (k : Int))
theorem T0 (lo : Int) (n : Nat) : (dwnD lo n).length = n := by simp [dwnD]
theorem B1m {lo : Int} {n i : Nat} {x : PyData} (h : (dwnD lo n)[i]? = some x) : i < n /\ x = .int (lo - (i : Int)) := by
  unfold dwnD at h
  rw [List.getElem?_map] at h
  by_cases hi : i < n
  · rw [List.getElem?_range hi] at h; cases h; exact ⟨hi, rfl⟩
  · rw [List.getElem?_eq_none (by simpa using hi)] at h; cases h
def B8k (pa : PAr) (env : PEnv) (Q : List PyData -> PEnv -> Prop) : Prop := pa env fun xs e => match xs with
  | [.int i, .int j, .int k] => k = -1 /\ ((-(2 ^ 61) <= i /\ i < 2 ^ 61) /\ -(2 ^ 61) <= j /\ j < 2 ^ 61) /\ Q (dwnD i (i - j).toNat) e
  | _ => False
instance ri_rngD {K : Frag} {ta : TA} {pa : PAr} [ha : RAv K ta pa] : RI K (B6l ta) (B8k pa) where
  ok := by
    rintro c w env σ Qp R rfl E p k
    refine ha.ok c w env σ _ _ rfl E p fun vs xs e1 w1 E1 l1 v1 q1 => ?_
    split at q1
    · rename_i i j k'
      obtain ⟨rfl, hb, q1⟩ := q1
      cases v1 with | cons h t => cases t with | cons h' t => cases t with | cons h2 t =>
        cases t
        refine ⟨i, j, by rw [h.intE, h'.intE, h2.intE], hb, k _ _ e1 w1 E1 l1 ?_ q1⟩
        intro w' ok l s
        refine ⟨fun m hm => by rw [T0] at hm; exact hm, by rw [T0]; exact Nat.le_refl _, fun m v H' y hm => ?_⟩
        obtain ⟨e, y⟩ := y
        subst y
        rw [T0] at hm
        refine ⟨w', .int (i - m), e.symm, ok, Le.refl w', ?_, .int _⟩
        unfold dwnD
        rw [List.getElem?_map, List.getElem?_range hm]; rfl
    · exact q1.elim
theorem B6p {lo : Int} {n : Nat} {pg : PyData -> PEnv -> (PEnv -> Prop) -> Prop} {pb : PSt} {D : PEnds} {env : PEnv} (Iv : Nat -> PEnv -> Prop) (h0 : Iv 0 env)
    (hs : ∀ (i : Nat) e, i < n -> Iv i e -> pg (.int (lo - (i : Int))) e fun e2 => pb ⟨Iv (i + 1), D.rt, D.nx, Iv (i + 1)⟩ e2) (hd : ∀ e, Iv n e -> D.nx e) : W3 (dwnD lo n) pg pb D env :=
  ⟨Iv, h0, fun i x e hx hi => by obtain ⟨h1, rfl⟩ := B1m hx; exact hs i e h1 hi, fun e h => hd e (by rwa [T0] at h)⟩
def pCat (x y : PyData) (Q : SV -> Prop) : Prop := match x, y with
  | .list xs, .list ys => xs.length + ys.length <= 1000000 /\ Q (.own (xs ++ ys))
  | _, _ => False
instance ro_cat {K : Frag} : RO K (B7p K) pCat where
  ok := by
    rintro c w env σ x y dx dy Qp Q rfl E vx vy p k
    unfold pCat at p
    split at p
    · obtain ⟨a, vs, e, h1, h2⟩ := vx.lst E.wok
      obtain ⟨b, us, e', g1, g2⟩ := vy.lst E.wok
      exact ⟨a, b, vs, us, e, e', h1, g1, by rw [h2.len, g2.len]; exact Nat.le_trans p.1 (by decide), fun q hq => k _ _ _ (Res.lst E hq (h2.app g2)) p.2⟩
    · exact p.elim
def blsD : List PyData -> Option (List Bool)
  | [] => some []
  | .bool b :: r => (blsD r).map (b :: ·)
  | _ => none
def pAll (xs : List PyData) (Q : SV -> Prop) : Prop := match xs with
  | [.list ys] => ∃ bs, blsD ys = some bs /\ Q (.d (.bool (bs.all id)))
  | _ => False
def pAny (xs : List PyData) (Q : SV -> Prop) : Prop := match xs with
  | [.list ys] => ∃ bs, blsD ys = some bs /\ Q (.d (.bool (bs.any id)))
  | _ => False
def C05 (cs : List String) (pa : PDt) (env : PEnv) (Q : SV -> PEnv -> Prop) : Prop := pa env fun x e => cs.length <= 1000 /\ match Z5 (tyD x) cs with
  | some b => Q (.d (.bool b)) e
  | none => False
theorem A3z : Z5 "bool" ["list", "tuple"] = some false := by decide +kernel
theorem A3w : Z5 "NoneType" ["list", "tuple"] = some false := by decide +kernel
theorem A3y : Z5 "int" ["list", "tuple"] = some false := by decide +kernel
theorem A3v : Z5 "str" ["list", "tuple"] = some false := by decide +kernel
theorem A3x : Z5 "list" ["list", "tuple"] = some true := by decide +kernel
theorem A3u : Z5 "tuple" ["list", "tuple"] = some true := by decide +kernel
end Pu
namespace Pu
open PySem L2 My Prf
theorem B6a {x : PyData} {xs : List PyData} {Q : SV -> Prop} : pGet (x :: xs) 0 Q = Q (.d x) := by unfold pGet; rw [at0]
theorem B59 {x y : PyData} {xs : List PyData} {Q : SV -> Prop} : pGet (x :: y :: xs) 1 Q = Q (.d y) := by unfold pGet; rw [at1]
theorem B8v {x y z : PyData} {xs : List PyData} {Q : SV -> Prop} : pGet (x :: y :: z :: xs) 2 Q = Q (.d z) := by unfold pGet; rw [at2]
theorem B8u {x y z u : PyData} {xs : List PyData} {Q : SV -> Prop} : pGet (x :: y :: z :: u :: xs) 3 Q = Q (.d u) := by unfold pGet; rw [at3]
theorem Q0 {xs : List PyData} {i : Int} {z : PyData} {Q : SV -> Prop} (h : atI xs i = some z) (q : Q (.d z)) : pGet xs i Q := by unfold pGet; rw [h]; exact q
theorem B6h {xs : List Int} {d : Int} (h0 : 0 <= d) (h1 : d < xs.length) : ∃ z, z ∈ xs /\ atI (xs.map PyData.int) d = some (.int z) := by
  obtain ⟨n, rfl⟩ := Int.eq_ofNat_of_zero_le h0
  have hn : n < xs.length := by omega
  refine ⟨xs[n], List.getElem_mem hn, M7 ?_⟩
  rw [List.getElem?_map, List.getElem?_eq_getElem hn]; rfl
theorem B8 {α : Type} {f : α -> PyData} {xs : List α} {n : Nat} {a : α} {Q : SV -> Prop} (h : xs[n]? = some a) (q : Q (.d (f a))) : pGet (xs.map f) (n : Int) Q :=
  Q0 (M7 (by rw [List.getElem?_map, h]; rfl)) q
theorem O9 {α : Type} {f : α -> PyData} {xs : List α} {a : α} {Q : SV -> Prop} (h : xs[xs.length - 1]? = some a) (h1 : 1 <= xs.length) (q : Q (.d (f a))) : pGet (xs.map f) (-1) Q := by
  refine Q0 (z := f a) ?_ q
  unfold L2.atI ixN
  rw [if_neg (by decide), if_pos (by rw [List.length_map]; omega)]
  show (xs.map f)[((-1 : Int) + ((xs.map f).length : Int)).toNat]? = _
  rw [show ((-1 : Int) + ((xs.map f).length : Int)).toNat = xs.length - 1 by rw [List.length_map]; omega, List.getElem?_map, h]; rfl
end Pu
namespace Pu
open PySem L2 My Prf
theorem pIxT {xs : List PyData} {i : Int} {Q : SV -> Prop} : pIx (.tuple xs) (.int i) Q = pGet xs i Q := rfl
end Pu
namespace L2
open PySem PySem.Spec PyProof.Rows
structure QE (X : Cx) (e : Expr) (t : TE) : Prop where
  out : PE X e  t
structure QT (X : Cx) (e : Expr) (t : TT) : Prop where
  out : PT X e  t
structure QW (X : Cx) (e : Expr) (t : TT) : Prop where
  out : PW X e  t
structure QA (X : Cx) (e : List Expr) (t : TA) : Prop where
  out : PA X e  t
structure QSs (X : Cx) (e : List Stmt) (t : TS) : Prop where
  out : PSs X e  t
structure QS (X : Cx) (e : Stmt) (t : TS) : Prop where
  out : PS X e  t
structure QGs (X : Cx) (e : List Expr) (t : TGs) : Prop where
  out : PGs X e  t
structure QG (X : Cx) (e : Expr) (t : TG) : Prop where
  out : PG X e  t
structure QI (X : Cx) (e e2 : Expr) (t : TI) : Prop where
  out : PI X e e2  t
structure QTs (X : Cx) (e : List Expr) (t : TT) : Prop where
  out : PTs X e  t
structure QO (X : Cx) (e : Option Expr) (t : TO) : Prop where
  out : PO X e  t
section
variable {X : Cx}
theorem qpv (i: Nat) {x : Str} {pos : Pos} (hN: X.N[i]? = some x := by rfl) (hv: Vis X.env.scope x := by first | exact Or.inl rfl | exact Or.inr (Or.inl rfl) | exact Or.inr (Or.inr rfl)) (hd: (x == ("__debug__" : Str)) = false := by decide) (hcd: (x == ("__classdict__" : Str)) = false := by decide) : QE X (.Name x pos) (tVar i) := ⟨pv i hN hv hd hcd⟩
theorem A2 {i j pos} : QE X (.Constant (.int i) j pos) (tC (.int i)) := ⟨D5 ⟩
theorem R4 {b j pos} : QE X (.Constant (.bool b) j pos) (tC (.bl b)) := ⟨C02 ⟩
theorem F2 {j pos} : QE X (.Constant .none j pos) (tC .non) := ⟨B8a ⟩
theorem C5 {x j pos} : QE X (.Constant (.str x) j pos) (tC (.str x)) := ⟨B77 ⟩
theorem Y6 {x : Str} {v : V} {u : Value} {pos : Pos} (hg: Gl X x) (hm: X.mg x = some u) (r: RelV v u) (hd: (x == ("__debug__" : Str)) = false := by decide) : QE X (.Name x pos) (tC v) := ⟨B5q hg hm r hd⟩
theorem A2v {x : Str} {v : V} {u : Value} {pos : Pos} (hg: Gl X x) (hm: X.mg x = none) (hv: bootBuiltins x = some u) (r: RelV v u) (hn: x ≠ "__name__" := by decide) (hd: (x == ("__debug__" : Str)) = false := by decide) : QE X (.Name x pos) (tC v) := ⟨B5t hg hm hv r hn hd⟩
theorem B7 {op : Operator} {r : R2} (ho: OpR X (binaryOp op) r) (ha: QE X a ta) (hb: QE X b tb) : QE X (.BinOp a op b pos) (tOp r ta tb) := ⟨I0 ho ha.out hb.out⟩
theorem O4 {op : UnaryOp} {r : V -> Hp -> VK -> Prop} (ho: UnR X (unaryOp op) r) (ha: QE X a ta) : QE X (.UnaryOp op a pos) (tUn r ta) := ⟨C0z ho ha.out⟩
theorem B5a (ha: QE X a ta) : QE X (.UnaryOp .Not a pos) (B4x ta) := ⟨B79 ha.out⟩
theorem F3 {op : CmpOp} {r : R2} (ho: OpR X (compareOp op) r) (ha: QE X a ta) (hb: QE X b tb) (hm: behindInMarks op b = false) : QE X (.Compare a [op] [b] pos) (tOp r ta tb) := ⟨Z1 ho ha.out hb.out hm⟩
theorem B4 {op : CmpOp} {r : R2} (ho: OpR X (compareOp op) r) (ha: QE X a ta) (hb: QE X b tb) (hm: behindInMarks op b = false) : QT X (.Compare a [op] [b] pos) (B4v (tOp r ta tb)) := ⟨A52 ho ha.out hb.out hm⟩
theorem A1w {rest : List Expr} (ha: QE X a ta) (hb: QE X (.BoolOp .And (b :: rest) pos) tb) : QE X (.BoolOp .And (a :: b :: rest) pos) (B41 ta tb) := ⟨B8c ha.out hb.out⟩
theorem B7q {rest : List Expr} (ha: QE X a ta) (hb: QE X (.BoolOp .Or (b :: rest) pos) tb) : QE X (.BoolOp .Or (a :: b :: rest) pos) (tOrV ta tb) := ⟨C00 ha.out hb.out⟩
theorem Y5 {op} {t : TE} (h: QE X a t) : QE X (.BoolOp op [a] pos) t := ⟨B78 h.out⟩
theorem K1 {rest : List Expr} (ha: QT X a tA) (hb: QW X (.BoolOp .And (b :: rest) pos) tB') : QW X (.BoolOp .And (a :: b :: rest) pos) (tAnd tA tB') := ⟨B7y ha.out hb.out⟩
theorem L8 {rest : List Expr} (ha: QT X a tA) (hb: QW X (.BoolOp .Or (b :: rest) pos) tB') : QW X (.BoolOp .Or (a :: b :: rest) pos) (tOr tA tB') := ⟨C0x ha.out hb.out⟩
theorem J0 (ha: QT X a tA) : QW X (.BoolOp .And [a] pos) tA := ⟨B5d ha.out⟩
theorem K0 (ha: QT X a tA) : QW X (.BoolOp .Or [a] pos) tA := ⟨B7x ha.out⟩
theorem K2 (ha: QT X a tA) : QT X (.UnaryOp .Not a pos) (tNot tA) := ⟨B7z ha.out⟩
theorem D8 {e : Expr} {t : TE} (h: QE X e t) (he: ∀ whole, isTrue e X.env whole = (do let v <- whole; standAt e.pos; holding [v] (truthy v)) := by intro _; rfl) : QT X e (tB t) := ⟨B2b h.out he⟩
theorem T4 {c : Expr} (hc: QT X c tA) (ha: QE X a ta) (hb: QE X b tb) : QE X (.IfExp c a b pos) (tIf tA ta tb) := ⟨B05 hc.out ha.out hb.out⟩
theorem M9 (hc: X.calm = true) (C: CompSc X scope cl N' cap) (hi: QI X tg iter wi) (hg: ∀ s3 H3 fp, QG (X.block scope cl N' s3 H3 fp) tg g) (ht: ∀ s3 H3 fp, QTs (X.block scope cl N' s3 H3 fp) ifs tt) (he: ∀ s3 H3 fp, QE (X.block scope cl N' s3 H3 fp) elt te) (hs: ∀ x, foldedSetIterable iter X.env x = pure x := by intro _; rfl) : QE X (.ListComp elt [⟨tg, iter, ifs, 0⟩] scope pos) (B4z wi g tt te cap) := ⟨B5r hc C hi.out (fun a b c => (hg a b c).out) (fun a b c => (ht a b c).out) (fun a b c => (he a b c).out) hs⟩
theorem K3 (hc: X.calm = true) (hN: X.N.Nodup) (hi: X.N[i]? = some y) (hy: X.env.scope.names.lookup y = some .local) (C: CompSc X scope cl N' cap) (hit: QI X tg iter wi) (hg: ∀ s3 H3 fp, QG (X.block scope cl N' s3 H3 fp) tg g) (ht: ∀ s3 H3 fp, QTs (X.block scope cl N' s3 H3 fp) ifs tt) (he: ∀ s3 H3 fp, QE (X.block scope cl N' s3 H3 fp) elt te) (hsw: swapsWith (.ListComp elt [⟨tg, iter, ifs, 0⟩] scope pos) (some (.Name y py)) spos.line X.env = pure true) (hs: ∀ x, foldedSetIterable iter X.env x = pure x := by intro _; rfl) : QS X (.Assign [.Name y py] (.ListComp elt [⟨tg, iter, ifs, 0⟩] scope pos) spos) (S2 wi g tt te cap i) := ⟨A4z hc hN hi hy C hit.out (fun a b c => (hg a b c).out) (fun a b c => (ht a b c).out) (fun a b c => (he a b c).out) hsw hs⟩
theorem D6 {x1} (h: QA X es t) : QE X (.Tuple es x1 pos) (tTup t) := ⟨B76 h.out⟩
theorem D3 (h: QA X es t) : QE X (.List es pos) (tLst t) := ⟨B2d h.out⟩
theorem O5 {lo hi : Option Expr} {r : V -> Option Int -> Option Int -> Hp -> VK -> Prop} (hr: SlR X r) (he: QE X e te) (hl: QO X lo tl) (hu: QO X hi th) : QE X (.Subscript e (.Slice lo hi none p2) pos) (tSl r te tl th) := ⟨B04 hr he.out hl.out hu.out⟩
theorem S7  : QO X none A1v := ⟨B5l ⟩
theorem S6 (h: QE X e te) : QO X (some e) (B4w te) := ⟨B5k h.out⟩
theorem A9 {r : R2} (hr: IxR X r) (ha: QE X a ta) (hb: QE X b tb) (hs: B0l b) : QE X (.Subscript a b pos) (tOp r ta tb) := ⟨Z0 hr ha.out hb.out hs⟩
theorem A6 (F: FnOk X.prog X.w X.K X.mg X.base CX k f fd ps sp) (hr: Room k X.A) (hg: Gl X x) (hm: X.mg x = some (.ref f)) (hk: PySem.W.keepIn X.K (.ref f) = true) (hb: Binds X.K fd ps ds) (hd: Vals dvs ds) (hx: A4q CX X E) (ha: QA X (e :: es) t) (hdb: (x == ("__debug__" : Str)) = false := by decide) (he: starEach (e :: es) X.env = (false, eval e X.env) :: starEach es X.env := by rfl) (hpl: (backTo pos (starEach es X.env)).any (·.1) = false := by rfl) : QE X (.Call (.Name x p) (e :: es) [] pos) (B40 sp dvs E t) := ⟨B5s F hr hg hm hk hb hd hx ha.out hdb he hpl⟩
theorem C3 {id : String} (hc: CallR X (.builtin id) r) (hg: Gl X x) (hm: X.mg x = none) (hv: bootBuiltins x = some (.builtin id)) (ha: QA X (e :: es) t) (hn: x ≠ "__name__" := by decide) (hdb: (x == ("__debug__" : Str)) = false := by decide) (he: starEach (e :: es) X.env = (false, eval e X.env) :: starEach es X.env := by rfl) (hpl: (backTo pos (starEach es X.env)).any (·.1) = false := by rfl) : QE X (.Call (.Name x p) (e :: es) [] pos) (tCB r t) := ⟨A22 hc hg hm hv ha.out hn hdb he hpl⟩
theorem E6 (hc: CallR X (.type T) r) (hg: Gl X x) (hm: X.mg x = none) (hv: bootBuiltins x = some (.type T)) (ha: QA X (e :: es) t) (hn: x ≠ "__name__" := by decide) (hdb: (x == ("__debug__" : Str)) = false := by decide) (he: starEach (e :: es) X.env = (false, eval e X.env) :: starEach es X.env := by rfl) (hpl: (backTo pos (starEach es X.env)).any (·.1) = false := by rfl) : QE X (.Call (.Name x p) (e :: es) [] pos) (tCB r t) := ⟨A0q hc hg hm hv ha.out hn hdb he hpl⟩
theorem J2 {K : PySem.W.Frag} (hK : X.K = K) {id : String} (pa: PlainAttrs T) (slot: Slot T name id) (hty: typeOf (.builtin id) = pure (.type "method_descriptor")) (hm: MtR X id r) (ho: QE X o to) (ha: QA X (e :: es) t) (hbase: attributeBase o name X.env (eval o X.env) = eval o X.env := by rfl) (hfew: ((backTo cpos (starEach (e :: es) X.env)).all (fun x => !x.1) && (backToKw cpos (keywordEach [] X.env)).all (fun x => x.1.isSome)
      && decide ((e :: es).length + ([] : List Keyword).length + (if ([] : List Keyword).isEmpty then 0 else 1) < 30)) = true := by rfl) (hline: (apos.endLine == cpos.line) = true := by rfl) (hs: starEach (e :: es) X.env = (false, eval e X.env) :: starEach es X.env := by rfl) (hplain: (backTo cpos (starEach es X.env)).any (·.1) = false := by rfl) : QE X (.Call (.Attribute o name apos) (e :: es) [] cpos) (tBM K T r to t) := by subst hK; exact ⟨C01 pa slot hty hm ho.out ha.out hbase hfew hline hs hplain⟩
theorem B0x {K : PySem.W.Frag} (hK : X.K = K) {id : String} (pa: PlainAttrs T) (slot: Slot T name id) (hty: typeOf (.builtin id) = pure (.type "method_descriptor")) (hm: MtR X id r) (ho: QE X o to) (hbase: attributeBase o name X.env (eval o X.env) = eval o X.env := by rfl) (hline: (apos.endLine == cpos.line) = true := by rfl) : QE X (.Call (.Attribute o name apos) [] [] cpos) (tBM0 K T r to) := by subst hK; exact ⟨B8b pa slot hty hm ho.out hbase hline⟩
theorem A1  : QA X [] tNil := ⟨A0s ⟩
theorem A0 (ha: QE X e te) (hr: QA X es t) (hs: starEach (e :: es) X.env = (false, eval e X.env) :: starEach es X.env := by rfl) : QA X (e :: es) (L9 te t) := ⟨N8 ha.out hr.out hs⟩
theorem C1  : QSs X [] B4y := ⟨A1x ⟩
theorem B0 {st : Stmt} (h1: QS X st t) : QSs X [st] t := ⟨P9 h1.out⟩
theorem A4 {st : Stmt} {rest : List Stmt} (h1: QS X st t) (h2: QSs X rest u) : QSs X (st :: rest) (tSeq t u) := ⟨F7 h1.out h2.out⟩
theorem A5z {st : Stmt} : QS X st A5q := ⟨B0z ⟩
theorem B6 (he: QE X e te) : QS X (.Return (some e) pos) (tRet te) := ⟨A2z he.out⟩
theorem G1 (he: QE X e te) (hs: swapsWith e none pos.line X.env = pure false := by rfl) : QS X (.Expr e pos) (B0r te) := ⟨B5i he.out hs⟩
theorem D0 {c : Expr} {a b : List Stmt} {tc : TT} (hc: QT X c tc) (ha: QSs X a t) (hb: QSs X b u) : QS X (.If c a b pos) (tIfS tc t u) := ⟨B5h hc.out ha.out hb.out⟩
theorem T3 {c : Expr} {body : List Stmt} {tc : TT} {tb : TS} (hp: PassesOwn (model X.prog X.w) X.A X.env X.xe) (hc: QT X c tc) (hb: QSs X body tb) : QS X (.While c body [] pos) (A5p tc tb) := ⟨B0y hp hc.out hb.out⟩
theorem F8 {iter : Expr} {body : List Stmt} {wi : TI} {g : TG} {tb : TS} {pos : Pos} (hp: PassesOwn (model X.prog X.w) X.A X.env X.xe) (hc: X.calm = true) (hi: QI X tg iter wi) (hg: QG X tg g) (hb: QSs X body tb) (hs: ∀ x, foldedSetIterable iter X.env x = pure x := by intro _; rfl) : QS X (.For tg iter body [] pos) (tFor wi g tb) := ⟨B2c hp hc hi.out hg.out hb.out hs⟩
theorem B3 {i : Nat} {x : Str} {e : Expr} {te : TE} {pos' : Pos} (hN: X.N.Nodup) (hi: X.N[i]? = some x) (hx: Loc X.env.scope x) (he: QE X e te) (hs: swapsWith e (some (.Name x pos')) pos.line X.env = pure false := by rfl) (hf: X.fn x = true \/ X.env.scope.names.lookup x = some .local := by first | exact .inl rfl | exact .inr rfl | assumption) : QS X (.Assign [.Name x pos'] e pos) (tAsg te (U5 i)) := ⟨W1 hN hi hx he.out hs hf⟩
theorem K4 {i j : Nat} {x y : Str} {a b : Expr} {ta : TA} {px py pt : Pos} {kt k2 pt2} (hc: X.calm = true) (hN: X.N.Nodup) (hi: X.N[i]? = some x) (hj: X.N[j]? = some y) (hij: i ≠ j) (hx: X.env.scope.names.lookup x = some .local) (hy: X.env.scope.names.lookup y = some .local) (ha: QA X [a, b] ta) (hw: swappedStores [.Tuple [.Name x px, .Name y py] kt pt] (.Tuple [a, b] k2 pt2) X.env = pure (some [x, y])) (hs: swapsWithSole [.Tuple [.Name x px, .Name y py] kt pt] (.Tuple [a, b] k2 pt2) pos.line X.env = pure false := by rfl) : QS X (.Assign [.Tuple [.Name x px, .Name y py] kt pt] (.Tuple [a, b] k2 pt2) pos) (tPar i j ta) := ⟨B70 hc hN hi hj hij hx hy ha.out hw hs⟩
theorem B49 {tg e : Expr} {te : TE} {g : TG} (he: QE X e te) (hg: QG X tg g) (hs: swapsWithSole [tg] e pos.line X.env = pure false := by rfl) (hw: swappedStores [tg] e X.env = pure none := by rfl) (h1: (assignEach [tg] X.env).map (·.2) = [assign tg X.env] := by rfl) : QS X (.Assign [tg] e pos) (tAsg te g) := ⟨A21 he.out hg.out hs hw h1⟩
theorem C2 {i : Nat} {x : Str} (hN: X.N.Nodup) (hi: X.N[i]? = some x) (hx: Loc X.env.scope x) (hf: X.fn x = true \/ X.env.scope.names.lookup x = some .local := by first | exact .inl rfl | exact .inr rfl | assumption) : QG X (.Name x pos) (U5 i) := ⟨A6i hN hi hx hf⟩
theorem K5  : QGs X [] gNil := ⟨B5o ⟩
theorem D2 {e : Expr} {es : List Expr} {t : TG} {u : TGs} (h1: QG X e t) (h2: QGs X es u) (hs: (assignEach (e :: es) X.env).map (·.2) = assign e X.env :: (assignEach es X.env).map (·.2) := by rfl) : QGs X (e :: es) (A19 t u) := ⟨B03 h1.out h2.out hs⟩
theorem K6 {K : PySem.W.Frag} {pos : Pos} {es : List Expr} {k : Nat} {t : TGs} {n : Nat} (h: X.K = K) (hc: X.calm = true) (hg: QGs X es t) (hn: (assignEach es X.env).length = n := by rfl) (hst: (assignEach es X.env).findIdx? (·.1) = none := by rfl) : QG X (.Tuple es k pos) (gTup K n t) := ⟨B5p h hc hg.out hn hst⟩
theorem G4 {a : Expr} {ta : TA} {p pos : Pos} (hg: Gl X "range") (hm: X.mg "range" = none) (ha: QA X [a] ta) (hs: starEach [a] X.env = [(false, eval a X.env)] := by rfl) : QI X tg (.Call (.Name "range" p) [a] [] pos) (B6m ta) := ⟨A0p hg hm ha.out hs⟩
theorem A4y {a b c : Expr} {ta : TA} {p pos : Pos} (hg: Gl X "range") (hm: X.mg "range" = none) (ha: QA X [a, b, c] ta) (hs: starEach [a, b, c] X.env = [(false, eval a X.env), (false, eval b X.env), (false, eval c X.env)] := by rfl) (hs2: starEach [b, c] X.env = [(false, eval b X.env), (false, eval c X.env)] := by rfl) : QI X tg (.Call (.Name "range" p) [a, b, c] [] pos) (B6l ta) := ⟨A6g hg hm ha.out hs hs2⟩
theorem G6 {K : PySem.W.Frag} {l : Expr} {tl : TE} (h: X.K = K) (hl: QE X l tl) : QI X tg l (iSq K tl) := ⟨B73 h hl.out⟩
theorem G0 {X : Cx} : QTs X [] tYes := ⟨B5f ⟩
theorem B0w {X : Cx} {c : Expr} {t : TT} (h: QT X c t) : QTs X [c] t := ⟨B5e h.out⟩
theorem QW.pt {X : Cx} {e : Expr} {t : TT} (h : QW X e t) : QT X e t := ⟨h.out.pt⟩
end
end L2
namespace Pu
open PySem L2 My Prf
theorem C0b (n : Int) : PyData.tuple [.int n, .int 1] = dq (n : Rat) := by
  unfold dq; rw [Rat.num_intCast, Rat.den_intCast]; rfl
theorem T2 {k : Nat} {n : Int} (h : Sm k n) : SmR k 1 (n : Rat) := ⟨by rw [Rat.num_intCast]; exact h, by rw [Rat.den_intCast]; unfold Sm; decide⟩
theorem B44 {k : Nat} {q : Rat} (h : SmR k 1 q) : q.den = 1 := by
  have h1 : (q.den : Int).natAbs < 2 ^ 1 := h.2
  have h2 := q.den_nz
  omega
theorem B91 {n : Int} (h : 0 <= n) : (0 : Rat) <= (n : Rat) := Rat.intCast_nonneg.mpr h
theorem B90 {n : Int} (h : 0 < n) : (0 : Rat) < (n : Rat) := Rat.intCast_pos.mpr h
theorem A2q {z : Int} (h0 : 0 <= z) (h1 : z <= 1000000000000000000) : Sm 4000 z := Sm.mono (k := 64) (B0t (B := 1000000000000000000) (by omega) (by omega) (by decide)) (by decide)
theorem A3a {c : Rat × Rat} {Q : SV -> Prop} : pIx (dcn c) (.int 0) Q = Q (.d (dq c.1)) := by unfold dcn; rw [pIxT, B6a]
theorem A29 {c : Rat × Rat} {Q : SV -> Prop} : pIx (dcn c) (.int 1) Q = Q (.d (dq c.2)) := by unfold dcn; rw [pIxT, B59]
theorem B1o {lo : Int} {n : Nat} {pg : PyData -> PEnv -> (PEnv -> Prop) -> Prop} {pt : PTt} {pd : PDt} {e0 : PEnv} {Fin : List PyData -> Prop} (Pv : Nat -> PEnv -> List PyData -> Prop) (h0 : Pv 0 e0 [])
    (hs : ∀ (i : Nat) e ys, i < n -> Pv i e ys -> pg (.int (lo + (i : Int))) e fun e2 => pt e2 fun b e3 => if b = true then pd e3 fun y e4 => Pv (i + 1) e4 (ys ++ [y]) else Pv (i + 1) e3 ys) (hd : ∀ e ys, Pv n e ys -> Fin ys) : K7 (rngD lo n) pg pt pd e0 Fin :=
  ⟨Pv, h0, fun i x e ys hx hi => by obtain ⟨h1, rfl⟩ := A2u hx; exact hs i e ys h1 hi, fun e ys h => hd e ys (by rwa [M8] at h)⟩
theorem N4 {α : Type} {f : α -> PyData} {xs : List α} {pg : PyData -> PEnv -> (PEnv -> Prop) -> Prop} {pt : PTt} {pd : PDt} {e0 : PEnv} {Fin : List PyData -> Prop} (Pv : Nat -> PEnv -> List PyData -> Prop) (h0 : Pv 0 e0 [])
    (hs : ∀ (i : Nat) a e ys, xs[i]? = some a -> Pv i e ys -> pg (f a) e fun e2 => pt e2 fun b e3 => if b = true then pd e3 fun y e4 => Pv (i + 1) e4 (ys ++ [y]) else Pv (i + 1) e3 ys) (hd : ∀ e ys, Pv xs.length e ys -> Fin ys) : K7 (xs.map f) pg pt pd e0 Fin := by
  refine ⟨Pv, h0, fun i x e ys hx hi => ?_, fun e ys h => hd e ys (by rwa [List.length_map] at h)⟩
  rw [List.getElem?_map] at hx
  cases ha : xs[i]? with
  | none => rw [ha] at hx; cases hx
  | some a => rw [ha] at hx; cases hx; exact hs i a e ys ha hi
theorem A2a {α : Type} {f : α -> PyData} {xs : List α} {pg : PyData -> PEnv -> (PEnv -> Prop) -> Prop} {pb : PSt} {D : PEnds} {env : PEnv} (Iv : Nat -> PEnv -> Prop) (h0 : Iv 0 env)
    (hs : ∀ (i : Nat) a e, xs[i]? = some a -> Iv i e -> pg (f a) e fun e2 => pb ⟨Iv (i + 1), D.rt, D.nx, Iv (i + 1)⟩ e2) (hd : ∀ e, Iv xs.length e -> D.nx e) : W3 (xs.map f) pg pb D env := by
  refine ⟨Iv, h0, fun i x e hx hi => ?_, fun e h => hd e (by rwa [List.length_map] at h)⟩
  rw [List.getElem?_map] at hx
  cases ha : xs[i]? with
  | none => rw [ha] at hx; cases hx
  | some a => rw [ha] at hx; cases hx; exact hs i a e ha hi
theorem B3s (cs : List (Rat × Rat)) : (PyData.list (cs.map dcn)).canLay0 = true := A93 cs
theorem A5j : PyData.tuple [.int 2, .int 3] = dq (Rat.divInt 2 3) := by
  unfold dq
  rw [show (Rat.divInt 2 3).num = 2 by decide +kernel, show (Rat.divInt 2 3).den = 3 by decide +kernel]; rfl
theorem A9n : PyData.tuple [.int 1, .int 2] = dq (Rat.divInt 1 2) := by
  unfold dq
  rw [show (Rat.divInt 1 2).num = 1 by decide +kernel, show (Rat.divInt 1 2).den = 2 by decide +kernel]; rfl
end Pu
namespace Pu
open PySem L2 My Prf
end Pu
namespace Pu
open PySem L2 My Prf
theorem A4p {q : Rat} {k : List PyData -> Prop} : S1 (dq q) k = k [.int q.num, .int (q.den : Int)] := rfl
theorem A6u {q : Rat} {Q : SV -> Prop} : pLen [dq q] Q = Q (.d (.int 2)) := rfl
theorem A0t {xs : List PyData} {Q : SV -> Prop} : pLen [.list xs] Q = Q (.d (.int xs.length)) := rfl
theorem A28 {xs : List PyData} {Q : SV -> Prop} : pLen [.tuple xs] Q = Q (.d (.int xs.length)) := rfl
theorem A9u : PyData.eqv (.list []) (.list []) = true := rfl
theorem A8k : (PyData.list []).canLay0 = true := rfl
theorem A9z : (PyData.list []).depth = 1 := rfl
end Pu
namespace Pu
open PySem L2 My Prf
theorem A5h {i : Int} : tyD (.int i) = "int" := rfl
theorem A2m {b : Bool} : tyD (.bool b) = "bool" := rfl
theorem A5g {s : Str} : tyD (.str s) = "str" := rfl
theorem A2j : tyD .none = "NoneType" := rfl
theorem A2k {xs : List PyData} : tyD (.list xs) = "list" := rfl
theorem A5f {xs : List PyData} : tyD (.tuple xs) = "tuple" := rfl
theorem A5i {c : Rat × Rat} : tyD (dcn c) = "tuple" := rfl
theorem X6 {xs : List PyData} {k : List PyData -> Prop} : S1 (.list xs) k = k xs := rfl
theorem A1q {xs : List PyData} {k : List PyData -> Prop} : S1 (.tuple xs) k = k xs := rfl
theorem A1r {c : Rat × Rat} {k : List PyData -> Prop} : S1 (dcn c) k = k [dq c.1, dq c.2] := rfl
theorem A01 : isNo .none = true := rfl
theorem A32 {i : Int} : isNo (.int i) = false := rfl
theorem A03 {b : Bool} : isNo (.bool b) = false := rfl
theorem A31 {s : Str} : isNo (.str s) = false := rfl
theorem A02 {xs : List PyData} : isNo (.list xs) = false := rfl
theorem A30 {xs : List PyData} : isNo (.tuple xs) = false := rfl
end Pu
namespace Pu
open PySem L2 My Prf
theorem sm_half : SmR 1 2 (Rat.divInt 1 2) := SmR.low (by unfold Sm; decide) (by unfold Sm; decide) (by decide)
end Pu
namespace L2
open PySem PySem.Spec PyProof.Rows
section
variable {X : Cx} {pins : List (Addr × Obj)} {σ : St} {H : Hp} {s : Shared} {h' : Heap}
theorem Inv.turnL {t' : Nat} {wr : List Addr} (I : Inv X pins σ H s) (k : ∀ b o, b ∉ wr -> s.heap.get? b = some o -> h'.get? b = some o) (hf : ∀ b ∈ wr, FpOk X pins H b) : Inv X pins σ H { s with heap := h', toks := t' } := by
  have nw : ∀ b u, H b = some u -> b ∉ wr := fun b u e z => by have := (hf b z).1; rw [e] at this; cases this
  refine I.call (g' := s.gens) (d' := s.drawn) (ch := wr) ⟨fun b o e _ _ hb => k b o hb e, fun b o e _ _ hb => ⟨o.slots, k b o hb e⟩, fun _ _ _ n _ => n, fun b o e hb => ⟨o, k b o hb e⟩, fun _ _ e => e, fun _ _ _ e => e, fun b ps e => ⟨#[], by rw [e]; simp⟩⟩ (fun b u e => ?_) I.bare fun b hb => ?_
  · refine (I.hok b u e).stay (fun c v hc q => k c v ?_ q) (fun _ q => q) fun _ _ q => q
    rcases hc with z | z
    · rw [z]; exact nw b u e
    · exact nw c _ z
  · have f := hf b hb
    exact ⟨f.2.2.2.1, f.2.1, f.2.2.2.2.1, f.2.2.2.2.2⟩
theorem Inv.laidL {t' : Nat} {wr : List Addr} {T : Addr} {o : HO} (I : Inv X pins σ H s) (k : ∀ b u, b ∉ wr -> s.heap.get? b = some u -> h'.get? b = some u) (hf : ∀ b ∈ wr, FpOk X pins H b) (hp : s.heap.objs.size <= T) (new : ObjOk X.prog X.w (upd H T o) h' T o) :
    Inv X pins σ (upd H T o) { s with heap := h', toks := t' } := by
  have hn := I.hok.fresh hp
  have nw : ∀ b u, H b = some u -> b ∉ wr := fun b u e z => by have := (hf b z).1; rw [e] at this; cases this
  refine I.call (g' := s.gens) (d' := s.drawn) (ch := wr) ⟨fun b u e _ _ hb => k b u hb e, fun b u e _ _ hb => ⟨u.slots, k b u hb e⟩, fun b u e n _ => by rw [C7 (Nat.ne_of_lt (Nat.lt_of_lt_of_le (Heap.lt_size e) hp))]; exact n, fun b u e hb => ⟨u, k b u hb e⟩,
    fun b xs e => by rw [C7 (D4 e hn)]; exact e, fun b u xs e => by rw [C7 (D4 e hn)]; exact e, fun b ps e => ⟨#[], by rw [C7 (D4 e hn), e]; simp⟩⟩ (fun b u e => ?_) I.bare fun b hb => ?_
  · by_cases hb : b = T
    · subst hb; rw [C9] at e; cases e; exact new
    · rw [C7 hb] at e
      refine (I.hok b u e).stay (fun c v hc q => k c v ?_ q) (fun c q => by rw [C7 (D4 q hn)]; exact q) fun c xs q => by rw [C7 (D4 q hn)]; exact q
      rcases hc with z | z
      · rw [z]; exact nw b u e
      · exact nw c _ z
  · have f := hf b hb
    exact ⟨f.2.2.2.1, f.2.1, f.2.2.2.2.1, f.2.2.2.2.2⟩
end
def Itz (K : PySem.W.Frag) (l1 l2 : Addr) : It :=
  ⟨fun i H => ∃ xs ys x y, SqL K H l1 xs /\ SqL K H l2 ys /\ xs[i]? = some x /\ ys[i]? = some y,
   fun i H v H' => ∃ T x y, v = .ref T /\ H T = none /\ H' = upd H T (.tup [x, y]) /\ (∀ xs, SqL K H l1 xs -> xs[i]? = some x) /\ ∀ ys, SqL K H l2 ys -> ys[i]? = some y,
   fun i H => ∃ xs ys, SqL K H l1 xs /\ SqL K H l2 ys /\ (xs.length <= i \/ ys.length <= i)⟩
theorem X8 : ∀ {xs : List V} {us : List Value} {i : Nat} {x : V}, Vals xs us -> xs[i]? = some x -> ∃ u, us[i]? = some u /\ RelV x u
  | _, _, _, _, .nil, e => by simp at e
  | _, _, 0, _, .cons h _, e => by simp at e; subst e; exact ⟨_, rfl, h⟩
  | _, _, i + 1, x, .cons _ t, e => by
    obtain ⟨u, h1, h2⟩ := X8 (i := i) (x := x) t (by simpa using e)
    exact ⟨u, by simpa using h1, h2⟩
theorem B0q {P : Program} {w : World} {K : PySem.W.Frag} {es : List Expr} {kk : Nat} {tp : Pos} {z TI TO i1 i2 l1 l2 : Addr} (D : ZipApart z TI TO i1 i2 l1 l2) :
    Turn P w K (.Tuple es kk tp) (Itz K l1 l2) [z, TI, TO, i1, i2] z (fun i h => IsZip h z TI TO .none /\ IsPair h TI (.ref i1) (.ref i2) /\ (∃ a b, IsPair h TO a b) /\ h.IsListIter i1 l1 i /\ h.IsListIter i2 l2 i) where
  mem := List.mem_cons_self
  obj := fun i h st b hb => by
    obtain ⟨hz, hTI, ⟨a, c, hTO⟩, ⟨o1, g1, k1, d1⟩, ⟨o2, g2, k2, d2⟩⟩ := st
    simp only [List.mem_cons, List.mem_nil_iff, or_false] at hb
    rcases hb with rfl | rfl | rfl | rfl | rfl
    · exact ⟨_, hz, fun v q => Data.noConfusion (show Data.fields _ = Data.cell v from q)⟩
    · exact ⟨_, hTI, fun v q => Data.noConfusion (show Data.seq _ _ = Data.cell v from q)⟩
    · exact ⟨_, hTO, fun v q => Data.noConfusion (show Data.seq _ _ = Data.cell v from q)⟩
    · exact ⟨_, g1, fun v q => by rw [d1] at q; cases q⟩
    · exact ⟨_, g2, fun v q => by rw [d2] at q; cases q⟩
  keep := fun i h h' st k => by
    obtain ⟨hz, hTI, ⟨a, c, hTO⟩, h1, h2⟩ := st
    exact ⟨k z (by simp) _ hz, k TI (by simp) _ hTI, ⟨a, c, k TO (by simp) _ hTO⟩, h1.at fun o e => k i1 (by simp) o e, h2.at fun o e => k i2 (by simp) o e⟩
  item := by
    intro X hP hw hK hc i pins s σ H E I hf st hg
    subst hP hw hK
    obtain ⟨hz, hTI, ⟨a, c, hTO⟩, h1, h2⟩ := st
    obtain ⟨xs, ys, x, y, q1, q2, ex, ey⟩ := hg
    obtain ⟨its1, r1, p1, _⟩ := I.list q1
    obtain ⟨its2, r2, p2, _⟩ := I.list q2
    obtain ⟨u1, e1, ru1⟩ := X8 r1 ex
    obtain ⟨u2, e2, ru2⟩ := X8 r2 ey
    refine wpAny_pyNext_zip_item D hz hTI hTO h1 h2 p1.isList p2.isList (by simpa using e1) (by simpa using e2) fun h' a1 a2 a3 a4 a5 a6 hk => ⟨_, rfl, ?_⟩
    refine wpAny_letOwnedTupleGo_zip a1 fun h'' b1 sb => ?_
    have lt : ∀ {b o}, s.heap.get? b = some o -> s.heap.objs.size ≠ b := fun e => Nat.ne_of_gt (Heap.lt_size e)
    have k2 : ∀ b o, b ∉ [z, TO, i1, i2] -> s.heap.get? b = some o -> h''.get? b = some o := fun b o hb e => by
      simp only [List.mem_cons, List.mem_nil_iff, or_false, not_or] at hb
      exact (sb.2 b hb.1).trans (hk b o hb.1 hb.2.1 hb.2.2.1 hb.2.2.2 e)
    have I2 : Inv X pins σ (upd H s.heap.objs.size (.tup [x, y])) { s with heap := h'', toks := s.toks } := by
      refine I.laidL (wr := [z, TO, i1, i2]) k2 (fun b hb => hf b ?_) (Nat.le_refl _) ⟨by show 2 <= sizeLine; decide, [u1, u2], .cons ru1 (.cons ru2 .nil), ?_⟩
      · simp only [List.mem_cons, List.mem_nil_iff, or_false] at hb ⊢
        rcases hb with q | q | q | q <;> simp [q]
      · exact ⟨_, (sb.2 _ (lt hz)).trans a5, rfl, _, rfl⟩
    refine ⟨.ref s.heap.objs.size, _, I2, rfl, ⟨_, x, y, rfl, I.fresh, rfl, fun zs hzs => by rw [I.list_inj hzs q1]; exact ex, fun zs hzs => by rw [I.list_inj hzs q2]; exact ey⟩, ⟨b1, (sb.2 _ D.TIz).trans (hk _ _ D.TIz D.TITO D.TIi1 D.TIi2 hTI), ⟨_, _, (sb.2 _ D.TOz).trans a2⟩, a3.at fun o e => (sb.2 _ D.i1z).trans e, a4.at fun o e => (sb.2 _ D.i2z).trans e⟩, fun b hb => ?_⟩
    have : b ≠ s.heap.objs.size := by
      simp only [List.mem_cons, List.mem_nil_iff, or_false] at hb
      obtain ⟨_, g1, _⟩ := h1
      obtain ⟨_, g2, _⟩ := h2
      rcases hb with rfl | rfl | rfl | rfl | rfl
      · exact (lt hz).symm
      · exact (lt hTI).symm
      · exact (lt hTO).symm
      · exact (lt g1).symm
      · exact (lt g2).symm
    rw [C7 this]; exact (hf b hb).1
  done := by
    intro X hP hw hK hc i pins s σ H E I hf st hg
    subst hP hw hK
    obtain ⟨hz, hTI, ⟨a, c, hTO⟩, h1, h2⟩ := st
    obtain ⟨xs, ys, q1, q2, hl⟩ := hg
    obtain ⟨its1, r1, p1, _⟩ := I.list q1
    obtain ⟨its2, r2, p2, _⟩ := I.list q2
    have n1 := r1.length
    have n2 := r2.length
    refine wpAny_pyNext_zip_end (I.ok.hd hc) D hz hTI hTO h1 h2 p1.isList p2.isList (hl.imp (fun q => by simp; omega) fun q => by simp; omega) fun h' hk => ⟨rfl, ?_⟩
    refine I.turnL (t' := s.toks) (wr := [z, TO, i1, i2]) (fun b o hb e => ?_) (fun b hb => hf b ?_)
    · simp only [List.mem_cons, List.mem_nil_iff, or_false, not_or] at hb
      exact hk b o hb.1 hb.2.1 hb.2.2.1 hb.2.2.2 e
    · simp only [List.mem_cons, List.mem_nil_iff, or_false] at hb ⊢
      rcases hb with q | q | q | q <;> simp [q]
  self := fun _ _ _ _ _ st h => wpAny_pyIter_zip st.1 h
section
variable {X : Cx}
def iZip (K : PySem.W.Frag) (ta : TA) : TI := fun σ H R => ta σ H fun vs H1 => ∃ l1 l2 xs ys, vs = [.ref l1, .ref l2] /\ SqL K H1 l1 xs /\ SqL K H1 l2 ys /\ R (Itz K l1 l2) H1
theorem B5n {K : PySem.W.Frag} {a b : Expr} {ta : TA} {p pos : Pos} {es : List Expr} {kk : Nat} {tp : Pos} (hK : X.K = K) (hg : Gl X "zip") (hm : X.mg "zip" = none) (ha : PA X [a, b] ta)
    (hs : starEach [a, b] X.env = [(false, eval a X.env), (false, eval b X.env)] := by rfl) (hs2 : starEach [b] X.env = [(false, eval b X.env)] := by rfl) : PI X (.Tuple es kk tp) (.Call (.Name "zip" p) [a, b] [] pos) (iZip K ta) := by
  subst hK
  intro pins s σ H R I h
  refine Call_ (U1 I hg hm boot_zip (PyProof.Rows.callWith_type1 (thn (ha pos pins s σ H _ I h) fun us s1 ⟨vs, H1, I1, r1, q1⟩ => ?_) (hs.trans (by rw [hs2])) (by rw [hs2]; rfl)))
  obtain ⟨l1, l2, xs, ys, e, g1, g2, q⟩ := q1
  subst e
  obtain ⟨u, v, rfl, ru, rv⟩ := Vals.two r1
  cases (show u = Value.ref l1 from ru)
  cases (show v = Value.ref l2 from rv)
  obtain ⟨its1, _, p1, _⟩ := I1.list g1
  obtain ⟨its2, _, p2, _⟩ := I1.list g2
  refine call_zip_2 p1.isList p2.isList fun h' a1 a2 a3 a4 a5 a6 hk => wpAny_pyIter_zip a1 ?_
  have lt1 : (show Nat from l1) < s1.heap.objs.size := by obtain ⟨o, _, ho, _⟩ := p1; exact Heap.lt_size ho
  have lt2 : (show Nat from l2) < s1.heap.objs.size := by obtain ⟨o, _, ho, _⟩ := p2; exact Heap.lt_size ho
  have I2 : Inv X pins σ H1 { s1 with heap := h' } := I1.kept (t' := s1.toks) hk
  have D : ZipApart (s1.heap.objs.size + 4) (s1.heap.objs.size + 2) (s1.heap.objs.size + 3) s1.heap.objs.size (s1.heap.objs.size + 1) l1 l2 := by
    generalize s1.heap.objs.size = n at lt1 lt2
    have g : ∀ a b : Nat, a < b -> a ≠ b := fun a b q => Nat.ne_of_lt q
    have g' : ∀ a b : Nat, b < a -> a ≠ b := fun a b q => Nat.ne_of_gt q
    constructor <;> first | exact g _ _ (Nat.lt_trans lt1 (by omega)) | exact g _ _ (Nat.lt_trans lt2 (by omega)) | exact g _ _ lt1 | exact g _ _ lt2 | exact g _ _ (by omega) | exact g' _ _ (by omega)
  refine ⟨_, [s1.heap.objs.size + 4, s1.heap.objs.size + 2, s1.heap.objs.size + 3, s1.heap.objs.size, s1.heap.objs.size + 1], _, _, H1, rfl, I2, B0q D, ⟨a1, a2, ⟨_, _, a3⟩, a4, a5⟩, fun b hb => ?_, q⟩
  have hb' : s1.heap.objs.size <= b := by
    simp only [List.mem_cons, List.mem_nil_iff, or_false] at hb
    rcases hb with rfl | rfl | rfl | rfl | rfl <;> omega
  exact I1.fpOk hb' (I1.hok.fresh hb')
theorem Y4 {K : PySem.W.Frag} {a b : Expr} {ta : TA} {p pos : Pos} {es : List Expr} {kk : Nat} {tp : Pos} (hK : X.K = K) (hg : Gl X "zip") (hm : X.mg "zip" = none) (ha : QA X [a, b] ta)
    (hs : starEach [a, b] X.env = [(false, eval a X.env), (false, eval b X.env)] := by rfl) (hs2 : starEach [b] X.env = [(false, eval b X.env)] := by rfl) : QI X (.Tuple es kk tp) (.Call (.Name "zip" p) [a, b] [] pos) (iZip K ta) := ⟨B5n hK hg hm ha.out hs hs2⟩
end
end L2
namespace Pu
open PySem L2 My Prf
class RL (K : Frag) (te : TE) (pl : outParam PAr) : Prop where
  ok : ∀ (c : Ct) (w : Wd) (env : PEnv) (σ : St) (Qp : List PyData -> PEnv -> Prop) (Q : VK), c.K = K -> EnvOk c w env σ -> pl env Qp -> (∀ v xs env' w', EnvOk c w' env' σ -> Lw w w' -> VR c w' v (.bor xs) -> Qp xs env' -> Q v w'.H) -> te σ w.H Q
def B57 (pd : PDt) (env : PEnv) (Q : List PyData -> PEnv -> Prop) : Prop := pd env fun x e => asL x fun xs => Q xs e
def B56 (i : Nat) (env : PEnv) (Q : List PyData -> PEnv -> Prop) : Prop := match env[i]? with
  | some (some (.d x)) => asL x fun xs => Q xs env
  | some (some (.own xs)) => Q xs (env.set i (some (.d (.list xs))))
  | some (some (.bor xs)) => Q xs env
  | _ => False
instance (priority := low) rl_of {K : Frag} {te : TE} {pd : PDt} [h : RD K te pd] : RL K te (B57 pd) where
  ok := by
    rintro c w env σ Qp Q rfl E p k
    refine h.ok c w env σ _ _ rfl E p fun v x e1 w1 E1 l1 d1 q1 => ?_
    unfold asL at q1
    split at q1
    · exact k v _ e1 w1 E1 l1 (.inl d1) q1
    · exact q1.elim
instance rl_var {K : Frag} {i : Nat} : RL K (tVar i) (B56 i) where
  ok := by
    rintro c w env σ Qp Q rfl E p k
    unfold B56 at p
    split at p
    · rename_i x e
      obtain ⟨v, h1, h2⟩ := E.at' i _ e
      unfold asL at p
      split at p
      · exact ⟨v, h1, k v _ env w E (Lw.refl w) (.inl h2) p⟩
      · exact p.elim
    · rename_i xs e
      obtain ⟨w', v, e', hv, E', l, d⟩ := E.frz e
      refine ⟨v, hv, ?_⟩
      rw [<- e']
      exact k v _ _ w' E' l (.inl d) p
    · rename_i xs e
      obtain ⟨v, h1, h2⟩ := E.at' i _ e
      exact ⟨v, h1, k v _ env w E (Lw.refl w) h2 p⟩
    · exact p.elim
inductive Brs (c : Ct) (w : Wd) : List V -> List (List PyData) -> Prop
  | nil : Brs c w [] []
  | cons {v : V} {xs : List PyData} {vs : List V} {xss : List (List PyData)} : VR c w v (.bor xs) -> Brs c w vs xss -> Brs c w (v :: vs) (xs :: xss)
theorem B1q {c : Ct} {w w' : Wd} {v : V} {xs : List PyData} (s : Same w.F w'.F) (h : VR c w v (.bor xs)) : VR c w' v (.bor xs) := by
  rcases h with h | ⟨l, vs, e, h1, h2, h3⟩
  · exact .inl (Den.same s h)
  · exact .inr ⟨l, vs, e, h1, h2, DenAll.same s h3⟩
class RLs (K : Frag) (ta : TA) (pa : outParam (PEnv -> (List (List PyData) -> PEnv -> Prop) -> Prop)) : Prop where
  ok : ∀ (c : Ct) (w : Wd) (env : PEnv) (σ : St) (Qp : List (List PyData) -> PEnv -> Prop) (Q : List V -> Hpp -> Prop), c.K = K -> EnvOk c w env σ -> pa env Qp -> (∀ vs xss env' w', EnvOk c w' env' σ -> Lw w w' -> Brs c w' vs xss -> Qp xss env' -> Q vs w'.H) -> ta σ w.H Q
def pLsN (env : PEnv) (Q : List (List PyData) -> PEnv -> Prop) : Prop := Q [] env
def pLsC (pl : PAr) (pr : PEnv -> (List (List PyData) -> PEnv -> Prop) -> Prop) (env : PEnv) (Q : List (List PyData) -> PEnv -> Prop) : Prop := pl env fun xs e1 => pr e1 fun xss e2 => Q (xs :: xss) e2
instance rls_nil {K : Frag} : RLs K tNil pLsN := ⟨fun c w env σ Qp Q _ E p k => k [] [] env w E (Lw.refl w) .nil p⟩
instance rls_cons {K : Frag} {te : TE} {tr : TA} {pl : PAr} {pr : PEnv -> (List (List PyData) -> PEnv -> Prop) -> Prop} [hl : RL K te pl] [hr : RLs K tr pr] : RLs K (L9 te tr) (pLsC pl pr) where
  ok := by
    rintro c w env σ Qp Q rfl E p k
    refine hl.ok c w env σ _ _ rfl E p fun v xs e1 w1 E1 l1 b1 q1 => ?_
    refine hr.ok c w1 e1 σ _ _ rfl E1 q1 fun vs xss e2 w2 E2 l2 b2 q2 => ?_
    exact k _ _ e2 w2 E2 (l1.trans l2) (.cons (B1q l2.f b1) b2) q2
theorem A4h {c : Ct} {w : Wd} {v : V} {xs : List PyData} (h : VR c w v (.bor xs)) : ∃ l vs, v = .ref l /\ DenAll c.K w.F vs xs /\ ∀ w', w'.Ok -> Le c.w0 w' -> Same w.F w'.F -> SqL c.K w'.H l vs := by
  rcases h with h | ⟨l, vs, e, h1, h2, h3⟩
  · obtain ⟨a, vs, e, g1, g2⟩ := Den.lstE h
    exact ⟨a, vs, e, g2, fun w' ok _ s => (s.trans ok.sub).seq g1⟩
  · exact ⟨l, vs, e, h3, fun w' _ l' _ => SqL.of (l'.h _ _ h1 h2)⟩
def zipD (xs ys : List PyData) : List PyData := List.zipWith (fun x y => .tuple [x, y]) xs ys
def B6r (xs : List PyData) : List PyData := xs.zipIdx.map fun p => .tuple [.int (p.2 : Int), p.1]
theorem X7 {xs ys : List PyData} {i : Nat} {x : PyData} (h : (zipD xs ys)[i]? = some x) : ∃ a b, xs[i]? = some a /\ ys[i]? = some b /\ x = .tuple [a, b] := by
  unfold zipD at h
  rw [List.getElem?_zipWith] at h
  cases h1 : xs[i]? with
  | none => rw [h1] at h; cases h
  | some a => cases h2 : ys[i]? with
    | none => rw [h1, h2] at h; cases h
    | some b => rw [h1, h2] at h; cases h; exact ⟨a, b, rfl, rfl, rfl⟩
theorem O1 {xs ys : List PyData} : (zipD xs ys).length = min xs.length ys.length := List.length_zipWith
def pZip (pa : PEnv -> (List (List PyData) -> PEnv -> Prop) -> Prop) (env : PEnv) (Q : List PyData -> PEnv -> Prop) : Prop := pa env fun xss e => match xss with
  | [xs, ys] => Q (zipD xs ys) e
  | _ => False
def C06 (pa : PEnv -> (List (List PyData) -> PEnv -> Prop) -> Prop) (env : PEnv) (Q : List PyData -> PEnv -> Prop) : Prop := pa env fun xss e => match xss with
  | [xs] => Q (B6r xs) e
  | _ => False
instance ri_zip {K : Frag} {ta : TA} {pa : PEnv -> (List (List PyData) -> PEnv -> Prop) -> Prop} [ha : RLs K ta pa] : RI K (iZip K ta) (pZip pa) where
  ok := by
    rintro c w env σ Qp R rfl E p k
    refine ha.ok c w env σ _ _ rfl E p fun vs xss e1 w1 E1 l1 b1 q1 => ?_
    split at q1
    · rename_i xs ys
      cases b1 with | cons h t => cases t with | cons h' t =>
        cases t
        obtain ⟨a1, us1, rfl, d1, s1⟩ := A4h h
        obtain ⟨a2, us2, rfl, d2, s2⟩ := A4h h'
        refine ⟨a1, a2, us1, us2, rfl, s1 w1 E1.wok E1.le0 (Same.refl _), s2 w1 E1.wok E1.le0 (Same.refl _), k _ _ e1 w1 E1 l1 ?_ q1⟩
        intro w' ok l s
        have g1 := s1 w' ok l s
        have g2 := s2 w' ok l s
        have n1 := d1.len
        have n2 := d2.len
        rw [O1]
        refine ⟨fun i hi => ⟨us1, us2, us1[i]'(by omega), us2[i]'(by omega), g1, g2, List.getElem?_eq_getElem _, List.getElem?_eq_getElem _⟩, ⟨us1, us2, g1, g2, by omega⟩, fun i v H' y hi => ?_⟩
        obtain ⟨T, x, y', rfl, hT, rfl, y1, y2⟩ := y
        obtain ⟨dx, x1, x2⟩ := d1.get (y1 us1 g1)
        obtain ⟨dy, y3, y4⟩ := d2.get (y2 us2 g2)
        refine ⟨w'.tup T (.tup [x, y']), .tuple [dx, dy], rfl, Wd.tup_ok ok hT, Wd.tup_le ok hT, ?_, ?_⟩
        · unfold zipD; rw [List.getElem?_zipWith, x1, y3]
        · have f := (Wd.tup_le (o := .tup [x, y']) ok hT).f
          exact .tup (SqT.of C9) (.cons (Den.same (s.trans f) x2) (.cons (Den.same (s.trans f) y4) .nil))
    · exact q1.elim
end Pu
namespace Pu
open PySem L2 My Prf
theorem O6 {n : Nat} {pr : List PyData -> PEnv -> (PEnv -> Prop) -> Prop} {xs : List PyData} {env : PEnv} {Q : PEnv -> Prop} : qTup n pr (.tuple xs) env Q = (xs.length = n /\ pr xs env Q) := rfl
theorem A2x {pr : List PyData -> PEnv -> (PEnv -> Prop) -> Prop} {c : Rat × Rat} {env : PEnv} {Q : PEnv -> Prop} : qTup 2 pr (dcn c) env Q = pr [dq c.1, dq c.2] env Q := by
  show (2 = 2 /\ _) = _; simp
theorem A17 {c : Rat × Rat} : (dcn c).canLay0 = true := rfl
theorem A91 {c : Rat × Rat} : (dcn c).depth = 2 := rfl
theorem A9v {c : Rat × Rat} : PyData.eqv (dcn c) (dcn c) = true := PySem.SeqAt.eqv_refl _ A17
theorem A33 {c : Rat × Rat} : isNo (dcn c) = false := rfl
theorem A08 {α : Type} {f : α -> PyData} {xs : List α} : cutD (xs.map f) (some 1) none = (xs.drop 1).map f := by
  unfold cutD
  rw [HT.sIx_none, show HT.sIx (xs.map f).length 0 (some 1) = min 1 xs.length by rw [List.length_map]; exact HT.sIx_nat _ _ 1, List.length_map]
  cases xs with
  | nil => rfl
  | cons x r =>
    rw [show min 1 (x :: r).length = 1 by simp]
    simp
    rw [<- List.length_map (f := f), List.take_length]
end Pu
namespace L2
open PySem PySem.Spec PyProof.Rows
section
variable {prog : Program} {w : World} {A : Around} {E : Value -> Shared -> Prop} {s : Shared}
end
end L2
namespace L2
open PySem PySem.Spec PyProof.Rows
section
variable {prog : Program} {w : World} {A : Around} {E : Value -> Shared -> Prop} {s : Shared}
end
section
variable {X : Cx}
end
end L2
namespace Pu
open PySem L2 My Prf
def B6v (xs : List PyData) (k : List PyData -> Prop) : Prop := match xs with
  | [.list xs, .list ys] => k (zipD xs ys)
  | [.tuple xs, .tuple ys] => k (zipD xs ys)
  | _ => False
def B8d (pa : PAr) (env : PEnv) (Q : List PyData -> PEnv -> Prop) : Prop := pa env fun xs e => B6v xs fun zs => Q zs e
end Pu
namespace Pu
open PySem L2 My Prf
theorem X5 {xs ys : List PyData} {k : List PyData -> Prop} : B6v [.list xs, .list ys] k = k (zipD xs ys) := rfl
theorem A1p {xs ys : List PyData} {k : List PyData -> Prop} : B6v [.tuple xs, .tuple ys] k = k (zipD xs ys) := rfl
theorem A39 {a b : Bool} : PyData.eqv (.bool a) (.bool b) = decide (a = b) := by cases a <;> cases b <;> rfl
theorem A9s {s : Str} : PyData.eqv (.str s) (.str s) = true := by show (s == s) = true; simp
theorem B31 : kitB "int" "str" = some false := by decide +kernel
theorem B34 : kitB "bool" "str" = some false := by decide +kernel
theorem B3y : kitB "NoneType" "str" = some false := by decide +kernel
end Pu
namespace Pu
open PySem L2 My Prf
def C6 : List PyData -> OT
  | [] => .nil
  | x :: r => .cons (.leaf x) (C6 r)
def OT.len : OT -> Nat
  | .cons _ t => t.len + 1
  | .nil => 0
  | _ => 1
def OT.kid : OT -> Nat -> Option OT
  | .cons h _, 0 => some h
  | .cons _ t, n + 1 => t.kid n
  | _, _ => none
theorem M3 : ∀ xs, (C6 xs).fp = []
  | [] => rfl
  | _ :: r => by show [] ++ (C6 r).fp = []; rw [M3 r]; rfl
theorem Q7 : ∀ xs, (C6 xs).dat = xs
  | [] => rfl
  | x :: r => by show [x] ++ (C6 r).dat = x :: r; rw [Q7 r]; rfl
theorem V6 {K : Frag} {w : Wd} : ∀ {vs : List V} {xs : List PyData}, DenAll K w.F vs xs -> Tre K w (C6 xs) vs
  | _, _, .nil => rfl
  | _, _, .cons h t => ⟨_, _, rfl, ⟨_, rfl, h⟩, V6 t⟩
theorem J9 {K : Frag} {w : Wd} : ∀ {xs : List PyData} {vs : List V}, Tre K w (C6 xs) vs -> DenAll K w.F vs xs
  | [], _, e => by cases (show _ = [] from e); exact .nil
  | _ :: _, _, ⟨_, _, rfl, ⟨_, e, h⟩, t⟩ => by cases e; exact .cons h (J9 t)
noncomputable def hm (w : Wd) : Hpp := fun a => open Classical in if w.M a then none else w.H a
theorem U4 {w : Wd} {a : Addr} {o : HO} (h : w.H a = some o) (n : ¬ w.M a) : hm w a = some o := by unfold hm; rw [if_neg n]; exact h
theorem B4d {w : Wd} {a : Addr} {o : HO} (h : hm w a = some o) : w.H a = some o /\ ¬ w.M a := by
  unfold hm at h; split at h
  · cases h
  · exact ⟨h, ‹_›⟩
theorem hm_F {w : Wd} (ok : w.Ok) : Same w.F (hm w) := fun a o h => U4 (ok.sub a o h) fun z => by rw [ok.nf a z] at h; cases h
theorem B92 {w w' : Wd} (l : Lw w w') : Same (hm w) (hm w') := fun a o h => by
  obtain ⟨h1, h2⟩ := B4d h
  exact U4 (l.h _ _ h1 h2) (l.nm (by rw [h1]; simp) h2)
theorem Tre.den {K : Frag} {w : Wd} (ok : w.Ok) : ∀ {t : OT} {vs : List V}, Tre K w t vs -> (∀ a ∈ t.fp, ¬ w.M a) -> DenAll K (hm w) vs t.dat
  | .leaf _, _, ⟨_, e, h⟩, _ => by rw [e]; exact .cons (Den.same (hm_F ok) h) .nil
  | .nd true a _, _, ⟨e, _, h, k⟩, n => by rw [e]; exact .cons (.lst (SqL.of (U4 h (n a (by simp [OT.fp])))) (Tre.den ok k fun q hq => n q (by simp [OT.fp, hq]))) .nil
  | .nd false a _, _, ⟨e, _, h, k⟩, n => by rw [e]; exact .cons (.tup (SqT.of (U4 h (n a (by simp [OT.fp])))) (Tre.den ok k fun q hq => n q (by simp [OT.fp, hq]))) .nil
  | .nil, _, e, _ => by rw [show _ = [] from e]; exact .nil
  | .cons _ _, _, ⟨v, r, e, h, t⟩, n => by
    rw [e]
    exact (Tre.den ok h fun q hq => n q (by simp [OT.fp, hq])).app (vs := [v]) (us := r) (Tre.den ok t fun q hq => n q (by simp [OT.fp, hq]))
def VH (K : Frag) (w : Wd) (v : V) (x : PyData) : Prop := Den K (hm w) v x
theorem VR.vh {c : Ct} {w : Wd} {v : V} {t : OT} {x : PyData} (ok : w.Ok) (h : VR c w v (.tr t)) (e : t.dat = [x]) : VH c.K w v x := by
  have := h.1.den ok fun a ha => (h.2.1 a ha).2.2.1
  rw [e] at this
  cases this with | cons a _ => exact a
theorem VV.vh {K : Frag} {w : Wd} {v : V} {x : PyData} (ok : w.Ok) (h : VV K w v x) : VH K w v x := by
  rcases h with h | ⟨l, vs, xs, rfl, rfl, h1, h2, h3⟩
  · exact Den.same (hm_F ok) h
  · exact .lst (SqL.of (U4 h1 h2)) (DenAll.same (hm_F ok) h3)
class RH (K : Frag) (te : TE) (pd : outParam PDt) : Prop where
  ok : ∀ (c : Ct) (w : Wd) (env : PEnv) (σ : St) (Qp : PyData -> PEnv -> Prop) (Q : VK), c.K = K -> EnvOk c w env σ -> pd env Qp -> (∀ v x env' w', EnvOk c w' env' σ -> Lw w w' -> VH K w' v x -> Qp x env' -> Q v w'.H) -> te σ w.H Q
def B5w (i : Nat) (env : PEnv) (Q : PyData -> PEnv -> Prop) : Prop := match env[i]? with
  | some (some (.d x)) => Q x env
  | some (some (.own xs)) => Q (.list xs) env
  | some (some (.bor xs)) => Q (.list xs) env
  | some (some (.tr t)) => ∃ x, t.dat = [x] /\ Q x env
  | _ => False
instance rh_var {K : Frag} {i : Nat} : RH K (tVar i) (B5w i) where
  ok := by
    rintro c w env σ Qp Q rfl E p k
    unfold B5w at p
    split at p
    · rename_i x e
      obtain ⟨v, h1, h2⟩ := E.at' i _ e
      exact ⟨v, h1, k v _ env w E (Lw.refl w) (Den.same (hm_F E.wok) h2) p⟩
    · rename_i xs e
      obtain ⟨v, h1, l, vs, e', g1, g2, g3, g4, g5⟩ := E.at' i _ e
      exact ⟨v, h1, k v _ env w E (Lw.refl w) (VV.vh E.wok (.inr ⟨l, vs, xs, e', rfl, g1, g3, g5⟩)) p⟩
    · rename_i xs e
      obtain ⟨v, h1, h2⟩ := E.at' i _ e
      exact ⟨v, h1, k v _ env w E (Lw.refl w) ((h2.vv E.le0).vh E.wok) p⟩
    · rename_i t e
      obtain ⟨x, e1, q⟩ := p
      obtain ⟨v, h1, h2⟩ := E.at' i _ e
      exact ⟨v, h1, k v _ env w E (Lw.refl w) (h2.vh E.wok e1) q⟩
    · exact p.elim
def B82 (psp : PSp) (pa pb : PDt) (env : PEnv) (Q : SV -> PEnv -> Prop) : Prop := pa env fun x e => pb e fun y e2 => psp [.d x, .d y] fun s => ∃ b, s = .d (.bool b) /\ Q (.d (.bool b)) e2
def Own (c : Ct) (w : Wd) (t : OT) : Prop := (∀ a ∈ t.fp, w.H a ≠ none /\ w.F a = none /\ ¬ w.M a /\ c.w0.H a = none) /\ t.fp.Nodup
def NewT (c : Ct) (env : PEnv) (σ : St) (t : OT) : Prop := ∀ a ∈ t.fp, (∀ (j : Nat) s u, env[j]? = some (some s) -> σ[j]? = some (some u) -> ¬ s.foot u a) /\ ¬ c.Z a
def SV.ot (s : SV) (k : OT -> Prop) : Prop := match s with
  | .d x => k (.leaf x)
  | .own xs => ∀ a, k (.nd true a (C6 xs))
  | .tr t => k t
  | _ => False
theorem Res.ot {c : Ct} {w w1 : Wd} {env : PEnv} {σ : St} {v : V} {s : SV} {k : OT -> Prop} (R : Res c w env σ w1 v s) (h : s.ot k) : ∃ t, Tre c.K w1 t [v] /\ Own c w1 t /\ NewT c env σ t /\ k t := by
  obtain ⟨E, lw, val, new, _⟩ := R
  cases s with
  | d x => exact ⟨.leaf x, ⟨v, rfl, val⟩, ⟨fun a z => (nomatch z), List.nodup_nil⟩, fun a z => (nomatch z), h⟩
  | own xs =>
    obtain ⟨l, vs, rfl, h1, h2, h3, h4, h5⟩ := val
    have one : ∀ a, a ∈ (OT.nd true l (C6 xs)).fp -> a = l := fun a ha => by
      rw [show (OT.nd true l (C6 xs)).fp = l :: (C6 xs).fp from rfl, M3] at ha
      simpa using ha
    refine ⟨.nd true l (C6 xs), ⟨rfl, vs, h1, V6 h5⟩, ⟨fun a ha => ?_, by show (l :: (C6 xs).fp).Nodup; rw [M3]; simp⟩, fun a ha => ?_, h l⟩
    · rw [one a ha]; exact ⟨by rw [h1]; simp, h2, h3, h4⟩
    · rw [one a ha]; exact new l rfl
  | bor xs => exact (show False from h).elim
  | st => exact (show False from h).elim
  | tr t => exact ⟨t, val.1, val.2, new, h⟩
  | bt t => exact (show False from h).elim
  | al t => exact (show False from h).elim
theorem VR.reZ {K : Frag} {w0 w : Wd} {Z Z' : Addr -> Prop} {v : V} : ∀ {s : SV}, VR ⟨K, w0, Z⟩ w v s -> VR ⟨K, w0, Z'⟩ w v s
  | .d _, h => h
  | .own _, h => h
  | .bor _, h => h
  | .st, h => h
  | .tr _, h => h
  | .bt _, h => h
  | .al _, h => h
def Ct.with (c : Ct) (t : OT) : Ct := ⟨c.K, c.w0, fun a => c.Z a \/ a ∈ t.fp⟩
theorem EnvOk.hold {c : Ct} {w : Wd} {env : PEnv} {σ : St} {t : OT} (E : EnvOk c w env σ) (o : Own c w t) (n : NewT c env σ t) : EnvOk (c.with t) w env σ :=
  ⟨E.wok, E.le0, E.len, fun i s q => let ⟨v, h1, h2⟩ := E.at' i s q; ⟨v, h1, h2.reZ⟩, E.own, fun a z => z.elim (E.zf a) fun ha => let ⟨h1, h2, h3, _⟩ := o.1 a ha; ⟨h2, h1, h3⟩, fun a j s u z q q' => z.elim (fun z => E.zo a j s u z q q') fun ha => (n a ha).1 j s u q q'⟩
theorem EnvOk.letgo {c : Ct} {w : Wd} {env : PEnv} {σ : St} {t : OT} (E : EnvOk (c.with t) w env σ) : EnvOk c w env σ :=
  ⟨E.wok, E.le0, E.len, fun i s q => let ⟨v, h1, h2⟩ := E.at' i s q; ⟨v, h1, h2.reZ⟩, E.own, fun a z => E.zf a (.inl z), fun a j s u z q q' => E.zo a j s u (.inl z) q q'⟩
class RAt (K : Frag) (ta : TA) (pa : outParam (PEnv -> (OT -> PEnv -> Prop) -> Prop)) : Prop where
  ok : ∀ (c : Ct) (w : Wd) (env : PEnv) (σ : St) (Qp : OT -> PEnv -> Prop) (Q : List V -> Hpp -> Prop), c.K = K -> EnvOk c w env σ -> pa env Qp -> (∀ vs t env' w', EnvOk c w' env' σ -> Lw w w' -> Tre K w' t vs -> Own c w' t -> NewT c env' σ t -> Qp t env' -> Q vs w'.H) -> ta σ w.H Q
def B53 (env : PEnv) (Q : OT -> PEnv -> Prop) : Prop := Q .nil env
def A67 (pe : PX) (pr : PEnv -> (OT -> PEnv -> Prop) -> Prop) (env : PEnv) (Q : OT -> PEnv -> Prop) : Prop := pe env fun s e1 => s.ot fun t => pr e1 fun r e2 => (∀ a ∈ r.fp, a ∉ t.fp) -> Q (.cons t r) e2
instance rat_nil {K : Frag} : RAt K tNil B53 := ⟨fun c w env σ Qp Q _ E p k => k [] .nil env w E (Lw.refl w) rfl ⟨fun a z => (nomatch z), List.nodup_nil⟩ (fun a z => nomatch z) p⟩
instance rat_cons {K : Frag} {ta : TE} {tr : TA} {pe : PX} {pr : PEnv -> (OT -> PEnv -> Prop) -> Prop} [ha : RE K ta pe] [hr : RAt K tr pr] : RAt K (L9 ta tr) (A67 pe pr) where
  ok := by
    rintro c w env σ Qp Q rfl E p k
    refine ha.ok c w env σ _ _ rfl E p fun v s e1 w1 R q1 => ?_
    obtain ⟨t, ht, ho, hn, q⟩ := R.ot q1
    refine hr.ok (c.with t) w1 e1 σ _ _ rfl (R.ev.hold ho hn) q fun vs r e2 w2 E2 l2 hr' ho' hn' q2 => ?_
    refine k (v :: vs) (.cons t r) e2 w2 E2.letgo (R.lw.trans l2) ⟨v, vs, rfl, ht.mono l2 fun a ha => (ho.1 a ha).2.2.1, hr'⟩ ⟨fun a ha => ?_, List.nodup_append.mpr ⟨ho.2, ho'.2, fun a ha b hb e => (hn' b hb).2 (.inr (e ▸ ha))⟩⟩ (fun a ha => ?_) (q2 fun a ha z => (hn' a ha).2 (.inr z))
    · rcases List.mem_append.mp (show a ∈ t.fp ++ r.fp from ha) with z | z
      · obtain ⟨z1, z2, z3⟩ := E2.zf a (.inr z)
        exact ⟨z2, z1, z3, (ho.1 a z).2.2.2⟩
      · exact ho'.1 a z
    · rcases List.mem_append.mp (show a ∈ t.fp ++ r.fp from ha) with z | z
      · exact ⟨fun j s u q q' => E2.zo a j s u (.inr z) q q', (hn a z).2⟩
      · exact ⟨(hn' a z).1, fun y => (hn' a z).2 (.inl y)⟩
def B8j (b : Bool) (pa : PEnv -> (OT -> PEnv -> Prop) -> Prop) (env : PEnv) (Q : SV -> PEnv -> Prop) : Prop := pa env fun t e => t.len <= 1000 /\ ∀ a, a ∉ t.fp -> Q (.tr (.nd b a t)) e
def asTr (o : Option (Option SV)) (k : OT -> Prop) : Prop := match o with
  | some (some (.tr t)) => k t
  | _ => False
def pKid (i : Nat) (n : Int) (env : PEnv) (Q : PyData -> PEnv -> Prop) : Prop := asTr env[i]? fun t => ∃ (m : Nat) (b : Bool) (a a' : Addr) (ks : OT) (xs : List PyData), n = m /\ t = .nd b a ks /\ ks.kid m = some (.nd true a' (C6 xs)) /\ Q (.list xs) env
def A7a (i : Nat) (n : Int) (D : PEnds) (env : PEnv) : Prop := asTr env[i]? fun t => ∃ (m : Nat) (b : Bool) (a a' : Addr) (ks ls : OT), n = m /\ t = .nd b a ks /\ ks.kid m = some (.nd true a' ls) /\ D.nx (env.set i (some (.tr (OT.put a' .nil t))))
end Pu
namespace L2
open PySem PySem.Spec PyProof.Rows
section
variable {X : Cx} {e : Expr}
end
end L2
namespace Pu
open PySem L2 My Prf
def SV.asH (s : SV) (k : PyData -> Prop) : Prop := match s with
  | .d x => k x
  | .own xs => k (.list xs)
  | .tr t => ∃ x, t.dat = [x] /\ k x
  | _ => False
def B5u (pe : PX) (env : PEnv) (Q : PyData -> PEnv -> Prop) : Prop := pe env fun s e => s.asH fun x => Q x e
instance (priority := 200) rh_re {K : Frag} {te : TE} {pe : PX} [h : RE K te pe] : RH K te (B5u pe) where
  ok := by
    rintro c w env σ Qp Q rfl E p k
    refine h.ok c w env σ _ Q rfl E p fun v s env' w' R q => ?_
    have E' := R.ev
    cases s with
    | d x => exact k v x env' w' E' R.lw (Den.same (hm_F E'.wok) R.val) q
    | own xs =>
      obtain ⟨l, vs, e', g1, g2, g3, g4, g5⟩ := R.val
      exact k v _ env' w' E' R.lw (VV.vh E'.wok (.inr ⟨l, vs, xs, e', rfl, g1, g3, g5⟩)) q
    | tr t =>
      obtain ⟨x, e, q⟩ := q
      exact k v x env' w' E' R.lw (VR.vh E'.wok R.val e) q
    | bor xs => exact (show False from q).elim
    | bt t => exact (show False from q).elim
    | al t => exact (show False from q).elim
    | st => exact (show False from q).elim
theorem VR.btv {c : Ct} {w : Wd} {v : V} {t : OT} (l : Le c.w0 w) (h : VR c w v (.bt t)) : TV c.K w v t := by
  have lw : Lw ⟨c.w0.M, c.w0.H, w.F⟩ w := ⟨Same.refl _, l.h, l.m, l.mn, l.dom⟩
  exact ⟨h.1.mono lw h.2, fun a ha => l.nm (h.1.has a ha) (h.2 a ha)⟩
class RTr (K : Frag) (te : TE) (pb : outParam (PEnv -> (OT -> PEnv -> Prop) -> Prop)) : Prop where
  ok : ∀ (c : Ct) (w : Wd) (env : PEnv) (σ : St) (Qp : OT -> PEnv -> Prop) (Q : VK), c.K = K -> EnvOk c w env σ -> pb env Qp -> (∀ v t env' w', EnvOk c w' env' σ -> Lw w w' -> TV K w' v t -> Qp t env' -> Q v w'.H) -> te σ w.H Q
def pTr (pe : PX) (env : PEnv) (Q : OT -> PEnv -> Prop) : Prop := pe env fun s e => s.ot fun t => Q t e
def pTrV (i : Nat) (env : PEnv) (Q : OT -> PEnv -> Prop) : Prop := match env[i]? with
  | some (some (.d x)) => Q (.leaf x) env
  | some (some (.tr t)) => Q t env
  | some (some (.bt t)) => Q t env
  | _ => False
instance rtr_var {K : Frag} {i : Nat} : RTr K (tVar i) (pTrV i) where
  ok := by
    rintro c w env σ Qp Q rfl E p k
    unfold pTrV at p
    split at p
    · rename_i x e
      obtain ⟨v, h1, h2⟩ := E.at' i _ e
      exact ⟨v, h1, k v (.leaf x) env w E (Lw.refl w) ⟨⟨v, rfl, h2⟩, fun a z => nomatch z⟩ p⟩
    · rename_i t e
      obtain ⟨v, h1, h2⟩ := E.at' i _ e
      exact ⟨v, h1, k v _ env w E (Lw.refl w) ⟨h2.1, fun a ha => (h2.2.1 a ha).2.2.1⟩ p⟩
    · rename_i t e
      obtain ⟨v, h1, h2⟩ := E.at' i _ e
      exact ⟨v, h1, k v _ env w E (Lw.refl w) (h2.btv E.le0) p⟩
    · exact p.elim
def B22 (pb : PEnv -> (OT -> PEnv -> Prop) -> Prop) (pr : PAs) (env : PEnv) (Q : List SV -> PEnv -> Prop) : Prop := pb env fun t e1 => pr e1 fun as e2 => Q (.bt t :: as) e2
def OT.lvs : OT -> Option (List PyData)
  | .nil => some []
  | .cons (.leaf x) t => t.lvs.map (x :: ·)
  | _ => none
theorem Q6 : ∀ xs, (C6 xs).lvs = some xs
  | [] => rfl
  | x :: r => by show (C6 r).lvs.map _ = _; rw [Q6 r]; rfl
theorem W8 : ∀ {t : OT} {xs : List PyData}, t.lvs = some xs -> t = C6 xs
  | .nil, _, h => by cases h; rfl
  | .cons (.leaf x) t, xs, h => by
    have h' : t.lvs.map (x :: ·) = some xs := h
    cases q : t.lvs with
    | none => rw [q] at h'; cases h'
    | some ys => rw [q] at h'; cases h'; rw [W8 q]; rfl
def OT.sv : OT -> SV
  | .leaf (.list xs) => .bor xs
  | .leaf x => .d x
  | .nd true a k => match k.lvs with
    | some xs => .bor xs
    | none => .bt (.nd true a k)
  | t => .bt t
theorem A0c {a : Addr} {xs : List PyData} : OT.sv (.nd true a (C6 xs)) = .bor xs := by show (match (C6 xs).lvs with | some xs => SV.bor xs | none => _) = _; rw [Q6]
theorem VR.sv {c : Ct} {w : Wd} {v : V} {u : OT} (h : VR c w v (.bt u)) : VR c w v u.sv := by
  unfold OT.sv
  split
  · obtain ⟨⟨v', e, h⟩, _⟩ := h
    cases e; exact .inl h
  · obtain ⟨⟨v', e, h⟩, _⟩ := h
    cases e; exact h
  · rename_i a k
    split
    · rename_i xs q
      obtain ⟨⟨e, us, h1, h2⟩, h3⟩ := h
      cases e
      rw [W8 q] at h2
      exact .inr ⟨a, us, rfl, h1, h3 a (by simp [OT.fp]), J9 (w := ⟨c.w0.M, c.w0.H, w.F⟩) h2⟩
    · exact h
  · exact h
theorem B14 {c : Ct} {env : PEnv} {σ : St} {v : V} : ∀ {u : OT}, New c env σ v u.sv := by
  intro u a f
  unfold OT.sv at f
  split at f
  · exact f.elim
  · exact f.elim
  · split at f
    · exact f.elim
    · exact f.elim
  · exact f.elim
def OT.pair : OT -> Option (OT × OT)
  | .nd false _ (.cons u (.cons v .nil)) => some (u, v)
  | .leaf (.tuple [x, y]) => some (.leaf x, .leaf y)
  | _ => none
def pUnp (i a b : Nat) (pr : List PyData -> PEnv -> (PEnv -> Prop) -> Prop) (D : PEnds) (env : PEnv) : Prop := match env[i]? with
  | some (some (.bt t)) => ∃ u v, t.pair = some (u, v) /\ D.nx ((env.set a (some u.sv)).set b (some v.sv))
  | some (some (.d x)) => qTup 2 pr x env D.nx
  | _ => False
theorem B61 {c : Ct} {w : Wd} {v : V} {t u1 u2 : OT} (ok : w.Ok) (l : Le c.w0 w) (h : VR c w v (.bt t)) (e : t.pair = some (u1, u2)) : ∃ p x y, v = .ref p /\ SqT c.K w.H p [x, y] /\ VR c w x (.bt u1) /\ VR c w y (.bt u2) := by
  unfold OT.pair at e
  split at e
  · rename_i a k1 k2
    cases e
    obtain ⟨⟨ev, us, h1, x, r, e1, hx, y, r2, e2, hy, e3⟩, h3⟩ := h
    cases ev
    have e3' : r2 = [] := e3
    subst e1; subst e2; subst e3'
    exact ⟨a, x, y, rfl, SqT.of (l.h _ _ h1 (h3 a (by simp [OT.fp]))), ⟨hx, fun q hq => h3 q (by simp [OT.fp, hq])⟩, ⟨hy, fun q hq => h3 q (by simp [OT.fp, hq])⟩⟩
  · cases e
    obtain ⟨⟨v', ev, h⟩, _⟩ := h
    cases ev
    obtain ⟨p, vs, rfl, h1, h2⟩ := Den.tupE h
    cases h2 with
    | cons hx t => cases t with
      | cons hy t =>
        cases t
        exact ⟨p, _, _, rfl, SqT.same ok.sub h1, ⟨⟨_, rfl, hx⟩, fun q hq => nomatch hq⟩, ⟨⟨_, rfl, hy⟩, fun q hq => nomatch hq⟩⟩
  · cases e
instance (priority := high) rs_unp {K : Frag} {i a b : Nat} {pr : List PyData -> PEnv -> (PEnv -> Prop) -> Prop} [hr : RGs K (A19 (U5 a) (A19 (U5 b) gNil)) pr] : RS K (tAsg (tVar i) (gTup K 2 (A19 (U5 a) (A19 (U5 b) gNil)))) (pUnp i a b pr) where
  ok := by
    rintro c w env σ Dp D rfl E h p
    unfold pUnp at p
    split at p
    · rename_i t e
      obtain ⟨u1, u2, hp, q⟩ := p
      obtain ⟨v, h1, h2⟩ := E.at' i _ e
      obtain ⟨p, x, y, rfl, hs, hx, hy⟩ := B61 E.wok E.le0 h2 hp
      refine ⟨_, h1, p, [x, y], rfl, hs, rfl, x, [y], rfl, y, [], rfl, rfl, ?_⟩
      have E1 := E.set (i := a) hx.sv B14
      have E2 := E1.set (i := b) hy.sv B14
      exact h.nx _ _ w E2 (Same.refl _) q
    · rename_i x e
      obtain ⟨v, h1, h2⟩ := E.at' i _ e
      refine ⟨v, h1, ?_⟩
      exact rg_tup.ok c w env σ v x _ _ rfl E h2 p fun e2 σ2 E2 q2 => h.nx e2 σ2 w E2 (Same.refl _) q2
    · exact p.elim
def C08 (i : Nat) (n : Int) (j : Nat) (D : PEnds) (env : PEnv) : Prop := match env[i]? with
  | some (some (.bt t)) => ∃ u v, t.pair = some (u, v) /\ ((n = 0 /\ D.nx (env.set j (some u.sv))) \/ (n = 1 /\ D.nx (env.set j (some v.sv))))
  | _ => False
end Pu
namespace Pu
open PySem L2 My Prf
theorem fdE {a : Int} {n : Nat} (h : (n : Int) ∣ a) : a.fdiv n = a / n := Int.fdiv_eq_ediv_of_dvd h
theorem fdN (a n : Nat) : (a : Int).fdiv (n : Int) = ((a / n : Nat) : Int) := by
  rw [Int.fdiv_eq_ediv_of_nonneg _ (Int.natCast_nonneg n)]; rfl
theorem B9i (p q : Rat) : p.num.fdiv ((Int.gcd p.num q.den : Nat) : Int) * q.num.fdiv ((Int.gcd q.num p.den : Nat) : Int) = (p * q).num := by
  have e : p * q = Rat.mul p q := rfl
  rw [e]; unfold Rat.mul
  show _ = p.num.divExact _ _ * q.num.divExact _ _
  rw [Int.divExact_eq_ediv, Int.divExact_eq_ediv, fdE (Int.gcd_dvd_left ..), fdE (Int.gcd_dvd_left ..)]
  rfl
theorem B9j (p q : Rat) : (p.den : Int).fdiv ((Int.gcd q.num p.den : Nat) : Int) * (q.den : Int).fdiv ((Int.gcd p.num q.den : Nat) : Int) = ((p * q).den : Int) := by
  have e : p * q = Rat.mul p q := rfl
  rw [e]; unfold Rat.mul
  show _ = ((p.den.divExact _ _ * q.den.divExact _ _ : Nat) : Int)
  rw [Nat.divExact_eq_div, Nat.divExact_eq_div, fdN, fdN]
  rfl
theorem B5m (p q : Rat) (g t : Int) (hg : g = ((Int.gcd (p.den : Int) (q.den : Int) : Nat) : Int)) (ht : t = p.num * (q.den : Int).fdiv g + q.num * (p.den : Int).fdiv g) :
    t.fdiv ((Int.gcd t g : Nat) : Int) = (p + q).num /\ (p.den : Int).fdiv g * (q.den : Int).fdiv ((Int.gcd t g : Nat) : Int) = ((p + q).den : Int) := by
  have e : p + q = Rat.add p q := rfl
  have hgn : Int.gcd (p.den : Int) (q.den : Int) = Nat.gcd p.den q.den := rfl
  rw [hgn] at hg
  rw [e]; unfold Rat.add
  dsimp only
  split
  · rename_i h1
    rw [h1] at hg
    subst hg
    have ht' : t = p.num * q.den + q.num * p.den := by rw [ht, fdN, fdN]; simp
    have h2 : Int.gcd t ((1 : Nat) : Int) = 1 := by simp
    rw [h2, ht']
    refine ⟨by simp, ?_⟩
    rw [fdN, fdN]; simp
  · rename_i h1
    rw [Rat.maybeNormalize_eq]
    rw [hg, fdN, fdN] at ht
    have h3 : Int.gcd t g = t.natAbs.gcd (p.den.gcd q.den) := by rw [hg]; rfl
    rw [h3]
    subst ht
    refine ⟨?_, ?_⟩
    · show _ = Int.divExact _ _ (Int.gcd_dvd_left _ ((p.den.gcd q.den : Nat) : Int))
      rw [Int.divExact_eq_ediv]
      exact fdE (Int.gcd_dvd_left _ ((p.den.gcd q.den : Nat) : Int))
    · show _ = ((_ / _ : Nat) : Int)
      rw [hg, fdN, fdN]
      have hd : (p.num * ((q.den / p.den.gcd q.den : Nat) : Int) + q.num * ((p.den / p.den.gcd q.den : Nat) : Int)).natAbs.gcd (p.den.gcd q.den) ∣ q.den := Nat.dvd_trans (Nat.gcd_dvd_right ..) (Nat.gcd_dvd_right ..)
      rw [Nat.mul_div_assoc _ hd, Int.natCast_mul]
theorem Q8 {t : Int} (q : Rat) : ((Int.gcd t (q.den : Int) : Nat) : Int) ≠ 0 := by
  have h := q.den_nz
  intro h0
  have h1 : Int.gcd t (q.den : Int) = 0 := by omega
  have h2 := (Int.gcd_eq_zero_iff.mp h1).2
  omega
theorem A37 {t g : Int} (h : g ≠ 0) : ((Int.gcd t g : Nat) : Int) ≠ 0 := by
  intro h0
  have h1 : Int.gcd t g = 0 := by omega
  exact h (Int.gcd_eq_zero_iff.mp h1).2
theorem A05 {k : Nat} {a g : Int} (h : Sm k a) (g1 : 0 <= g) : Sm k (a.fdiv g) := by
  unfold Sm at *
  rw [Int.fdiv_eq_ediv_of_nonneg _ g1]
  rcases Int.lt_or_le 0 g with h0 | h0
  · have h2 := Int.natAbs_ediv_le_natAbs a g
    omega
  · have : g = 0 := by omega
    subst this
    rw [Int.ediv_zero]; exact Nat.two_pow_pos k
theorem A50 {pr : List PyData -> PEnv -> (PEnv -> Prop) -> Prop} {q : Rat} {env : PEnv} {Q : PEnv -> Prop} : qTup 2 pr (dq q) env Q = pr [.int q.num, .int q.den] env Q := by
  unfold dq; rw [O6]; exact propext ⟨fun h => h.2, fun h => ⟨rfl, h⟩⟩
theorem B99 (q : Rat) : PyData.tuple [.int (-q.num), .int q.den] = dq (-q) := rfl
theorem A9j {q : Rat} (h : q ≠ 0) : dq q⁻¹ = .tuple [.int (if 0 < q.num then (q.den : Int) else -(q.den : Int)), .int (if 0 < q.num then q.num else -q.num)] := by
  have hn := A8e h
  have e : q⁻¹ = Rat.inv q := rfl
  unfold dq
  rw [e]; unfold Rat.inv
  by_cases h0 : q.num < 0
  · rw [dif_pos h0, if_neg (by omega), if_neg (by omega)]
    show PyData.tuple [_, .int ((q.num.natAbs : Nat) : Int)] = _
    rw [show ((q.num.natAbs : Nat) : Int) = -q.num by omega]
  · have h1 : 0 < q.num := by omega
    rw [dif_neg h0, dif_pos h1, if_pos h1, if_pos h1]
    show PyData.tuple [_, .int ((q.num.natAbs : Nat) : Int)] = _
    rw [show ((q.num.natAbs : Nat) : Int) = q.num by omega]
theorem B4b {k : Nat} {q : Rat} (h : SmQ k q) (hq : q ≠ 0) : SmQ k q⁻¹ := by
  have e := A9j hq
  unfold dq at e
  injection e with e
  injection e with e1 e2
  injection e2 with e2 _
  injection e1 with e1
  injection e2 with e2
  refine ⟨?_, ?_⟩
  · show Sm k q⁻¹.num
    rw [e1]
    have := h.2
    unfold Sm at *
    split <;> omega
  · show Sm k (q⁻¹.den : Int)
    rw [e2]
    have := h.1
    unfold Sm at *
    split <;> omega
end Pu
namespace Pu
open PySem L2 My Prf
section
variable {x y : PyData} {xs ys : List PyData} {i j : Nat} {env e : PEnv} {s : SV} {t : OT}
theorem C0m {k : PyData -> Prop} : (SV.d x).asD k = k x := rfl
theorem C0l {k : PyData -> Prop} : (SV.own xs).asD k = k (.list xs) := rfl
def oVar (o : Option (Option SV)) (i : Nat) (env : PEnv) (Q : SV -> PEnv -> Prop) : Prop := match o with
  | some (some (.d x)) => Q (.d x) env
  | some (some (.own xs)) => Q (.d (.list xs)) (env.set i (some (.d (.list xs))))
  | some (some .st) => Q .st env
  | _ => False
theorem B2f {Q : SV -> PEnv -> Prop} : pVar i env Q = oVar env[i]? i env Q := rfl
theorem B3h {Q : SV -> PEnv -> Prop} : oVar (some (some (.d x))) i env Q = Q (.d x) env := rfl
theorem B3g {Q : SV -> PEnv -> Prop} : oVar (some (some (.own xs))) i env Q = Q (.d (.list xs)) (env.set i (some (.d (.list xs)))) := rfl
theorem B3f {Q : SV -> PEnv -> Prop} : oVar (some (some .st)) i env Q = Q .st env := rfl
def B1c (o : Option (Option SV)) (env : PEnv) (Q : PyData -> PEnv -> Prop) : Prop := match o with
  | some (some (.d x)) => Q x env
  | some (some (.own xs)) => Q (.list xs) env
  | some (some (.bor xs)) => Q (.list xs) env
  | _ => False
theorem A6j {Q : PyData -> PEnv -> Prop} : B5v i env Q = B1c env[i]? env Q := rfl
theorem A7o {Q : PyData -> PEnv -> Prop} : B1c (some (some (.d x))) env Q = Q x env := rfl
theorem A7n {Q : PyData -> PEnv -> Prop} : B1c (some (some (.own xs))) env Q = Q (.list xs) env := rfl
theorem A7p {Q : PyData -> PEnv -> Prop} : B1c (some (some (.bor xs))) env Q = Q (.list xs) env := rfl
theorem pI_i {C : Int -> Int -> Prop} {gd : Int -> Int -> PyData} {i j : Int} {Q : SV -> Prop} : pI C gd (.int i) (.int j) Q = (C i j /\ Q (.d (gd i j))) := rfl
theorem B8s {gd : Int -> Int -> PyData} {i j : Int} {Q : SV -> Prop} : pI0 gd (.int i) (.int j) Q = Q (.d (gd i j)) := rfl
theorem pU_i {gd : Int -> PyData} {i : Int} {Q : SV -> Prop} : pU gd (.int i) Q = Q (.d (gd i)) := rfl
theorem B3b {i : Int} {Q : SV -> Prop} : pAbs [.int i] Q = Q (.d (.int (if i < 0 then -i else i))) := rfl
theorem B2n {i j : Int} {Q : SV -> Prop} : pMax [.int i, .int j] Q = Q (.d (.int (if j > i then j else i))) := rfl
theorem B2m {i j : Int} {Q : SV -> Prop} : pMin [.int i, .int j] Q = Q (.d (.int (if j < i then j else i))) := rfl
theorem B2y {i : Int} {Q : SV -> Prop} : pInt [.int i] Q = Q (.d (.int i)) := rfl
theorem B2z {b : Bool} {Q : SV -> Prop} : pInt [.bool b] Q = Q (.d (.int (if b then 1 else 0))) := rfl
theorem A26 {Q : SV -> Prop} : A27 [.list ys] Q = Q (.own ys) := rfl
theorem A25 {Q : SV -> Prop} : A27 [.tuple ys] Q = Q (.own ys) := rfl
def oKit (o : Option Bool) (Q : SV -> Prop) : Prop := match o with
  | some b => Q (.d (.bool b))
  | none => False
theorem B2x {c : String} {pa : PDt} {Q : SV -> PEnv -> Prop} : pIsi c pa env Q = pa env fun x e => oKit (kitB (tyD x) c) fun s => Q s e := rfl
theorem A62 {cs : List String} {pa : PDt} {Q : SV -> PEnv -> Prop} : C05 cs pa env Q = pa env fun x e => cs.length <= 1000 /\ oKit (Z5 (tyD x) cs) fun s => Q s e := rfl
theorem B3o {b : Bool} {Q : SV -> Prop} : oKit (some b) Q = Q (.d (.bool b)) := rfl
theorem C0n {b : Bool} {k : Bool -> Prop} : asB (.bool b) k = k b := rfl
theorem C0g {k : List PyData -> Prop} : asL (.list xs) k = k xs := rfl
theorem B39 {k : Prop} : isSt (some (some .st)) k = k := rfl
theorem C0h {i : Int} {k : Int -> Prop} : asI (.int i) k = k i := rfl
def A73 (o : Option (Option SV)) (D : PEnds) (env : PEnv) : Prop := match o with
  | some (some (.bor _)) => False
  | some (some (.bt _)) => False
  | some (some (.al _)) => False
  | some (some s) => D.rt s env
  | _ => False
theorem A6o {D : PEnds} : B5y i D env = A73 env[i]? D env := rfl
theorem A72 {D : PEnds} : A73 (some (some (.d x))) D env = D.rt (.d x) env := rfl
theorem A71 {D : PEnds} : A73 (some (some (.own xs))) D env = D.rt (.own xs) env := rfl
theorem A70 {D : PEnds} : A73 (some (some .st)) D env = D.rt .st env := rfl
theorem A7z {D : PEnds} : A73 (some (some (.tr t))) D env = D.rt (.tr t) env := rfl
theorem A2y {Q : PEnv -> Prop} : qNil [] env Q = Q env := rfl
theorem Y7 {pg : PyData -> PEnv -> (PEnv -> Prop) -> Prop} {pr : List PyData -> PEnv -> (PEnv -> Prop) -> Prop} {Q : PEnv -> Prop} : B5b pg pr (x :: xs) env Q = pg x env fun e => pr xs e Q := rfl
def oPar (i j : Nat) (xs : List PyData) (D : PEnds) (e : PEnv) : Prop := match xs with
  | [x, y] => D.nx ((e.set i (some (.d x))).set j (some (.d y)))
  | _ => False
theorem B2l {pa : PAr} {D : PEnds} : pPar i j pa D env = pa env fun xs e => oPar i j xs D e := rfl
theorem B3n {D : PEnds} : oPar i j [x, y] D e = D.nx ((e.set i (some (.d x))).set j (some (.d y))) := rfl
theorem B0k {k : List PyData -> Prop} : J8 (some (some (.own xs))) k = k xs := rfl
def A3l (o : Option (Option SV)) (i : Nat) (env : PEnv) (Q : List PyData -> PEnv -> Prop) : Prop := match o with
  | some (some (.d x)) => S1 x fun xs => Q xs env
  | some (some (.own xs)) => Q xs (env.set i (some (.d (.list xs))))
  | some (some (.bor xs)) => Q xs env
  | _ => False
theorem A3b {Q : List PyData -> PEnv -> Prop} : A61 i env Q = A3l env[i]? i env Q := rfl
theorem A3j {Q : List PyData -> PEnv -> Prop} : A3l (some (some (.d x))) i env Q = S1 x fun xs => Q xs env := rfl
theorem A3i {Q : List PyData -> PEnv -> Prop} : A3l (some (some (.own xs))) i env Q = Q xs (env.set i (some (.d (.list xs)))) := rfl
theorem A3k {Q : List PyData -> PEnv -> Prop} : A3l (some (some (.bor xs))) i env Q = Q xs env := rfl
def B9d (xs : List PyData) (Q : List PyData -> Prop) : Prop := match xs with
  | [.int j] => (-(2 ^ 62) <= j /\ j < 2 ^ 62) /\ Q (rngD 0 j.toNat)
  | _ => False
theorem A6n {pa : PAr} {Q : List PyData -> PEnv -> Prop} : B8l pa env Q = pa env fun xs e => B9d xs fun ys => Q ys e := rfl
theorem A7y {j : Int} {Q : List PyData -> Prop} : B9d [.int j] Q = ((-(2 ^ 62) <= j /\ j < 2 ^ 62) /\ Q (rngD 0 j.toNat)) := rfl
def B9c (xs : List PyData) (Q : List PyData -> Prop) : Prop := match xs with
  | [.int i, .int j] => (-(2 ^ 62) <= i /\ i < 2 ^ 62 /\ -(2 ^ 62) <= j /\ j < 2 ^ 62) /\ Q (rngD i (j - i).toNat)
  | _ => False
theorem A6m {pa : PAr} {Q : List PyData -> PEnv -> Prop} : C03 pa env Q = pa env fun xs e => B9c xs fun ys => Q ys e := rfl
theorem A7x {i j : Int} {Q : List PyData -> Prop} : B9c [.int i, .int j] Q = ((-(2 ^ 62) <= i /\ i < 2 ^ 62 /\ -(2 ^ 62) <= j /\ j < 2 ^ 62) /\ Q (rngD i (j - i).toNat)) := rfl
def B9b (xs : List PyData) (Q : List PyData -> Prop) : Prop := match xs with
  | [.int i, .int j, .int k] => k = -1 /\ ((-(2 ^ 61) <= i /\ i < 2 ^ 61) /\ -(2 ^ 61) <= j /\ j < 2 ^ 61) /\ Q (dwnD i (i - j).toNat)
  | _ => False
theorem A6l {pa : PAr} {Q : List PyData -> PEnv -> Prop} : B8k pa env Q = pa env fun xs e => B9b xs fun ys => Q ys e := rfl
theorem A7w {i j k : Int} {Q : List PyData -> Prop} : B9b [.int i, .int j, .int k] Q = (k = -1 /\ ((-(2 ^ 61) <= i /\ i < 2 ^ 61) /\ -(2 ^ 61) <= j /\ j < 2 ^ 61) /\ Q (dwnD i (i - j).toNat)) := rfl
theorem B25 {Q : SV -> Prop} : pCat (.list xs) (.list ys) Q = (xs.length + ys.length <= 1000000 /\ Q (.own (xs ++ ys))) := rfl
theorem B3a {Q : SV -> Prop} : pAll [.list ys] Q = ∃ bs, blsD ys = some bs /\ Q (.d (.bool (bs.all id))) := rfl
theorem B29 {Q : SV -> Prop} : pAny [.list ys] Q = ∃ bs, blsD ys = some bs /\ Q (.d (.bool (bs.any id))) := rfl
def B1e (o : Option (Option SV)) (i : Nat) (env : PEnv) (Q : List PyData -> PEnv -> Prop) : Prop := match o with
  | some (some (.d x)) => asL x fun xs => Q xs env
  | some (some (.own xs)) => Q xs (env.set i (some (.d (.list xs))))
  | some (some (.bor xs)) => Q xs env
  | _ => False
theorem A6t {Q : List PyData -> PEnv -> Prop} : B56 i env Q = B1e env[i]? i env Q := rfl
theorem A78 {Q : List PyData -> PEnv -> Prop} : B1e (some (some (.d x))) i env Q = asL x fun xs => Q xs env := rfl
theorem A77 {Q : List PyData -> PEnv -> Prop} : B1e (some (some (.own xs))) i env Q = Q xs (env.set i (some (.d (.list xs)))) := rfl
theorem A79 {Q : List PyData -> PEnv -> Prop} : B1e (some (some (.bor xs))) i env Q = Q xs env := rfl
def oZip (xss : List (List PyData)) (Q : List PyData -> Prop) : Prop := match xss with
  | [xs, ys] => Q (zipD xs ys)
  | _ => False
theorem B2e {pa : PEnv -> (List (List PyData) -> PEnv -> Prop) -> Prop} {Q : List PyData -> PEnv -> Prop} : pZip pa env Q = pa env fun xss e => oZip xss fun ys => Q ys e := rfl
theorem B3e {Q : List PyData -> Prop} : oZip [xs, ys] Q = Q (zipD xs ys) := rfl
def B9f (xss : List (List PyData)) (Q : List PyData -> Prop) : Prop := match xss with
  | [xs] => Q (B6r xs)
  | _ => False
theorem A64 {pa : PEnv -> (List (List PyData) -> PEnv -> Prop) -> Prop} {Q : List PyData -> PEnv -> Prop} : C06 pa env Q = pa env fun xss e => B9f xss fun ys => Q ys e := rfl
theorem A8c {Q : List PyData -> Prop} : B9f [xs] Q = Q (B6r xs) := rfl
def A7u (o : Option (Option SV)) (env : PEnv) (Q : PyData -> PEnv -> Prop) : Prop := match o with
  | some (some (.d x)) => Q x env
  | some (some (.own xs)) => Q (.list xs) env
  | some (some (.bor xs)) => Q (.list xs) env
  | some (some (.tr t)) => ∃ x, t.dat = [x] /\ Q x env
  | _ => False
theorem A6k {Q : PyData -> PEnv -> Prop} : B5w i env Q = A7u env[i]? env Q := rfl
theorem A7s {Q : PyData -> PEnv -> Prop} : A7u (some (some (.d x))) env Q = Q x env := rfl
theorem A7r {Q : PyData -> PEnv -> Prop} : A7u (some (some (.own xs))) env Q = Q (.list xs) env := rfl
theorem A7t {Q : PyData -> PEnv -> Prop} : A7u (some (some (.bor xs))) env Q = Q (.list xs) env := rfl
theorem A7q {Q : PyData -> PEnv -> Prop} : A7u (some (some (.tr t))) env Q = ∃ x, t.dat = [x] /\ Q x env := rfl
theorem ot_d {k : OT -> Prop} : (SV.d x).ot k = k (.leaf x) := rfl
theorem ot_o {k : OT -> Prop} : (SV.own xs).ot k = ∀ a, k (.nd true a (C6 xs)) := rfl
theorem ot_t {k : OT -> Prop} : (SV.tr t).ot k = k t := rfl
theorem B4p {k : OT -> Prop} : asTr (some (some (.tr t))) k = k t := rfl
theorem C0k {k : PyData -> Prop} : (SV.d x).asH k = k x := rfl
theorem C0j {k : PyData -> Prop} : (SV.own xs).asH k = k (.list xs) := rfl
theorem C0i {k : PyData -> Prop} : (SV.tr t).asH k = ∃ x, t.dat = [x] /\ k x := rfl
def oTrV (o : Option (Option SV)) (env : PEnv) (Q : OT -> PEnv -> Prop) : Prop := match o with
  | some (some (.d x)) => Q (.leaf x) env
  | some (some (.tr t)) => Q t env
  | some (some (.bt t)) => Q t env
  | _ => False
theorem B2i {Q : OT -> PEnv -> Prop} : pTrV i env Q = oTrV env[i]? env Q := rfl
theorem B3l {Q : OT -> PEnv -> Prop} : oTrV (some (some (.d x))) env Q = Q (.leaf x) env := rfl
theorem B3k {Q : OT -> PEnv -> Prop} : oTrV (some (some (.tr t))) env Q = Q t env := rfl
theorem B3m {Q : OT -> PEnv -> Prop} : oTrV (some (some (.bt t))) env Q = Q t env := rfl
def oUnp (o : Option (Option SV)) (a b : Nat) (pr : List PyData -> PEnv -> (PEnv -> Prop) -> Prop) (D : PEnds) (env : PEnv) : Prop := match o with
  | some (some (.bt t)) => ∃ u v, t.pair = some (u, v) /\ D.nx ((env.set a (some u.sv)).set b (some v.sv))
  | some (some (.d x)) => qTup 2 pr x env D.nx
  | _ => False
theorem B2g {a b : Nat} {pr : List PyData -> PEnv -> (PEnv -> Prop) -> Prop} {D : PEnds} : pUnp i a b pr D env = oUnp env[i]? a b pr D env := rfl
theorem B3j {a b : Nat} {pr : List PyData -> PEnv -> (PEnv -> Prop) -> Prop} {D : PEnds} : oUnp (some (some (.bt t))) a b pr D env = ∃ u v, t.pair = some (u, v) /\ D.nx ((env.set a (some u.sv)).set b (some v.sv)) := rfl
theorem B3i {a b : Nat} {pr : List PyData -> PEnv -> (PEnv -> Prop) -> Prop} {D : PEnds} : oUnp (some (some (.d x))) a b pr D env = qTup 2 pr x env D.nx := rfl
def B9g (o : Option (Option SV)) (n : Int) (j : Nat) (D : PEnds) (env : PEnv) : Prop := match o with
  | some (some (.bt t)) => ∃ u v, t.pair = some (u, v) /\ ((n = 0 /\ D.nx (env.set j (some u.sv))) \/ (n = 1 /\ D.nx (env.set j (some v.sv))))
  | _ => False
theorem A7d {n : Int} {D : PEnds} : C08 i n j D env = B9g env[i]? n j D env := rfl
theorem A8d {n : Int} {D : PEnds} : B9g (some (some (.bt t))) n j D env = ∃ u v, t.pair = some (u, v) /\ ((n = 0 /\ D.nx (env.set j (some u.sv))) \/ (n = 1 /\ D.nx (env.set j (some v.sv)))) := rfl
class Box (α : Type) where
  f : α -> Prop
def hold {α : Type} [b : Box α] (x : α) : Prop := b.f x
theorem A35 {α : Type} {f : α -> Prop} {x : α} : @hold α ⟨f⟩ x = f x := rfl
theorem A7c {psp : PSp} {pa : PAs} {env : PEnv} {Q : SV -> PEnv -> Prop} : B83 psp pa env Q = pa env fun as e => psp as (@hold SV ⟨fun s => Q s e⟩) := rfl
theorem A3e {psp : PSp} {pa pb : PDt} {env : PEnv} {Q : SV -> PEnv -> Prop} : B82 psp pa pb env Q = pa env fun x e => pb e fun y e2 => psp [.d x, .d y] (@hold SV ⟨fun s => ∃ b, s = .d (.bool b) /\ Q (.d (.bool b)) e2⟩) := rfl
theorem B2p {xs : List PyData} {i : Int} {Q : SV -> Prop} : pIx (.list xs) (.int i) Q = pGet xs i (@hold SV ⟨Q⟩) := rfl
theorem B2o {xs : List PyData} {i : Int} {Q : SV -> Prop} : pIx (.tuple xs) (.int i) Q = pGet xs i (@hold SV ⟨Q⟩) := rfl
theorem A69 {pi : PAr} {pg : PyData -> PEnv -> (PEnv -> Prop) -> Prop} {pt : PTt} {pd : PDt} {cap : List (Option Nat)} {env : PEnv} {Q : SV -> PEnv -> Prop} : B8z pi pg pt pd cap env Q = pi env fun xs e => xs.length < 1000000 /\ K7 xs pg pt pd (F9 cap e) (@hold (List PyData) ⟨fun ys => Q (.own ys) e⟩) := rfl
theorem W2 {pi : PAr} {pg : PyData -> PEnv -> (PEnv -> Prop) -> Prop} {pt : PTt} {pd : PDt} {cap : List (Option Nat)} {i : Nat} {D : PEnds} {env : PEnv} : A24 pi pg pt pd cap i D env = pi env fun xs e => xs.length < 1000000 /\ K7 xs pg pt pd (F9 cap e) (@hold (List PyData) ⟨fun ys => D.nx (e.set i (some (.own ys)))⟩) := rfl
end
end Pu
namespace L2
open PySem PySem.Spec PyProof.Rows
section
variable {X : Cx}
def rInD (K : PySem.W.Frag) (neg : Bool) : R2 := fun x y H Q => ∃ dx dy xs, Den K H x dx /\ Den K H y dy /\ (dy = .list xs \/ dy = .tuple xs) /\ PyData.canLayAll0 xs = true /\ dx.canLay0 = true /\ dx.depth <= 60 /\ Q (.bl (if neg then !(xs.any fun z => z.eqv dx) else xs.any fun z => z.eqv dx)) H
theorem C1j (hu : X.A.units + 64 < cLine) : OpR X (compareOp .In) (rInD X.K false) := by
  intro pins s σ H x y v u Q I rx ry h
  obtain ⟨dx, dy, xs, h1, h2, h3, c1, c2, hd, q⟩ := h
  obtain ⟨as, r1⟩ := h1.reads I rx c2
  obtain ⟨bs, r2⟩ := h2.reads I ry (by rcases h3 with rfl | rfl <;> exact c1)
  rcases h3 with rfl | rfl
  · exact PySem.SeqAt.in_list_reads r2 r1 c1 c2 (by omega) ⟨.bl _, H, I, rfl, q⟩
  · exact PySem.SeqAt.in_tuple_reads r2 r1 c1 c2 (by omega) ⟨.bl _, H, I, rfl, q⟩
theorem A7g (hu : X.A.units + 64 < cLine) : OpR X (compareOp .NotIn) (rInD X.K true) := by
  intro pins s σ H x y v u Q I rx ry h
  obtain ⟨dx, dy, xs, h1, h2, h3, c1, c2, hd, q⟩ := h
  obtain ⟨as, r1⟩ := h1.reads I rx c2
  obtain ⟨bs, r2⟩ := h2.reads I ry (by rcases h3 with rfl | rfl <;> exact c1)
  rcases h3 with rfl | rfl
  · exact PySem.SeqAt.notIn_list_reads r2 r1 c1 c2 (by omega) ⟨.bl _, H, I, rfl, q⟩
  · exact PySem.SeqAt.notIn_tuple_reads r2 r1 c1 c2 (by omega) ⟨.bl _, H, I, rfl, q⟩
theorem W4 {K : PySem.W.Frag} (h : X.K = K) (hu : X.A.units + 64 < cLine) : OpR X (compareOp .NotIn) (rInD K true) := by subst h; exact A7g hu
end
end L2
namespace Pu
open PySem L2 My Prf
def pIn (neg : Bool) (x y : PyData) (Q : SV -> Prop) : Prop := S1 y fun xs => PyData.canLayAll0 xs = true /\ x.canLay0 = true /\ x.depth <= 60 /\ Q (.d (.bool (if neg then !(xs.any fun z => z.eqv x) else xs.any fun z => z.eqv x)))
instance ro_in {K : Frag} {neg : Bool} : RO K (rInD K neg) (pIn neg) where
  ok := by
    rintro c w env σ x y dx dy Qp Q rfl E vx vy p k
    unfold pIn S1 at p
    split at p
    · rename_i xs
      exact ⟨dx, _, xs, vx.den E.wok, vy.den E.wok, .inl rfl, p.1, p.2.1, p.2.2.1, k _ _ w (Res.data E (.bl _)) p.2.2.2⟩
    · rename_i xs
      exact ⟨dx, _, xs, vx.den E.wok, vy.den E.wok, .inr rfl, p.1, p.2.1, p.2.2.1, k _ _ w (Res.data E (.bl _)) p.2.2.2⟩
    · exact p.elim
theorem hm_H {w : Wd} : Same (hm w) w.H := fun _ _ h => (B4d h).1
instance (priority := high) re_neH {K : Frag} {ta tb : TE} {pa pb : PDt} [ha : RH K ta pa] [hb : RH K tb pb] : RE K (tOp (rNeD K) ta tb) (pOp pNeD pa pb) where
  ok := by
    rintro c w env σ Qp Q rfl E p k
    refine ha.ok c w env σ _ _ rfl E p fun x dx e1 w1 E1 l1 v1 q1 => ?_
    refine hb.ok c w1 e1 σ _ _ rfl E1 q1 fun y dy e2 w2 E2 l2 v2 q2 => ?_
    have v1' : VH c.K w2 x dx := Den.same (B92 l2) v1
    exact ⟨dx, dy, Den.same hm_H v1', Den.same hm_H v2, q2.1, q2.2.1, q2.2.2.1, k _ _ e2 w2 ((Res.data E2 (.bl _)).pre (l1.trans l2)) q2.2.2.2⟩
instance (priority := high) re_eqH {K : Frag} {ta tb : TE} {pa pb : PDt} [ha : RH K ta pa] [hb : RH K tb pb] : RE K (tOp (rEqD K) ta tb) (pOp pEqD pa pb) where
  ok := by
    rintro c w env σ Qp Q rfl E p k
    refine ha.ok c w env σ _ _ rfl E p fun x dx e1 w1 E1 l1 v1 q1 => ?_
    refine hb.ok c w1 e1 σ _ _ rfl E1 q1 fun y dy e2 w2 E2 l2 v2 q2 => ?_
    have v1' : VH c.K w2 x dx := Den.same (B92 l2) v1
    exact ⟨dx, dy, Den.same hm_H v1', Den.same hm_H v2, q2.1, q2.2.1, q2.2.2.1, k _ _ e2 w2 ((Res.data E2 (.bl _)).pre (l1.trans l2)) q2.2.2.2⟩
def B3p (o : Option (Option SV)) (n : Int) (env : PEnv) (Q : List PyData -> PEnv -> Prop) : Prop := match o with
  | some (some (.bt t)) => ∃ u v xs, t.pair = some (u, v) /\ n = 1 /\ v.sv = .bor xs /\ Q xs env
  | _ => False
def B2w (i : Nat) (n : Int) (env : PEnv) (Q : List PyData -> PEnv -> Prop) : Prop := B3p env[i]? n env Q
theorem A3m {t : OT} {n : Int} {env : PEnv} {Q : List PyData -> PEnv -> Prop} : B3p (some (some (.bt t))) n env Q = ∃ u v xs, t.pair = some (u, v) /\ n = 1 /\ v.sv = .bor xs /\ Q xs env := rfl
theorem EnvOk.take {c : Ct} {w : Wd} {env : PEnv} {σ : St} {i : Nat} {s : SV} (E : EnvOk c w env σ) (h : env[i]? = some (some s)) (hr : s.isRes = true) : ∃ v, σ[i]? = some (some v) /\ Res c w (env.set i none) σ w v s := by
  obtain ⟨v, hv, hV⟩ := E.at' i _ h
  have up : ∀ {j : Nat} {t : SV}, (env.set i none)[j]? = some (some t) -> i ≠ j /\ env[j]? = some (some t) := by
    intro j t q
    rw [List.getElem?_set] at q
    split at q
    · split at q <;> cases q
    · rename_i z; exact ⟨z, q⟩
  have E' : EnvOk c w (env.set i none) σ := ⟨E.wok, E.le0, by simpa using E.len, fun j s q => E.at' j s (up q).2, fun j k s t v u a q1 q2 => E.own j k s t v u a (up q1).2 (up q2).2, E.zf, fun a j t u za q => E.zo a j t u za (up q).2⟩
  exact ⟨v, hv, E', Lw.refl w, hV, fun a f => ⟨fun j t u q z g => (up q).1 (E.own i j _ _ _ _ a h (up q).2 hv z f g), fun za => E.zo a i _ _ za h hv f⟩, hr⟩
def B1d (o : Option (Option SV)) (i : Nat) (env : PEnv) (k : OT -> PEnv -> Prop) : Prop := match o with
  | some (some (.d x)) => k (.leaf x) env
  | some (some (.own xs)) => ∀ a, k (.nd true a (C6 xs)) (env.set i none)
  | some (some (.tr t)) => k t (env.set i none)
  | _ => False
theorem A76 {x : PyData} {i : Nat} {env : PEnv} {k : OT -> PEnv -> Prop} : B1d (some (some (.d x))) i env k = k (.leaf x) env := rfl
theorem A75 {xs : List PyData} {i : Nat} {env : PEnv} {k : OT -> PEnv -> Prop} : B1d (some (some (.own xs))) i env k = ∀ a, k (.nd true a (C6 xs)) (env.set i none) := rfl
theorem A74 {t : OT} {i : Nat} {env : PEnv} {k : OT -> PEnv -> Prop} : B1d (some (some (.tr t))) i env k = k t (env.set i none) := rfl
def B21 (i : Nat) (pr : PEnv -> (OT -> PEnv -> Prop) -> Prop) (env : PEnv) (Q : OT -> PEnv -> Prop) : Prop := B1d env[i]? i env fun t e1 => pr e1 fun r e2 => (∀ a ∈ r.fp, a ∉ t.fp) -> Q (.cons t r) e2
def B8q (i : Nat) (n : Int) (env : PEnv) (Q : SV -> PEnv -> Prop) : Prop := asTr env[i]? fun t => ∃ (m : Nat) (b : Bool) (a : Addr) (ks : OT) (x : PyData), n = m /\ t = .nd b a ks /\ ks.kid m = some (.leaf x) /\ Q (.d x) env
end Pu
namespace L2
open PySem PySem.Spec PyProof.Rows
section
variable {X : Cx} {tg : Expr}
def B7o (K : PySem.W.Frag) : List V -> Hp -> VK -> Prop := fun xs H Q => (∃ p ys, xs = [.ref p] /\ (SqL K H p ys \/ SqT K H p ys) /\ Q (.int ys.length) H) \/ ∃ z, xs = [.str z] /\ z.length <= sizeLine /\ Q (.int z.length) H
theorem C4 {K : PySem.W.Frag} (h : X.K = K) : CallR X (.builtin "len") (B7o K) := by subst h; exact call_len_seq.or A1d
theorem A3q : 1000 <= sizeLine := by rw [sizeLine_eq]; decide
end
end L2
namespace L2
open PySem PySem.Spec PyProof.Rows
section
variable {X : Cx} {tg : Expr} {pos : Pos}
theorem B6s {P : Program} {w : World} {H : Hp} (h : Heap) (hb : sysModules < h.objs.size) : ObjOk P w H (h.push { cls := .type "dict", data := .dict #[] }) h.objs.size (.dK []) :=
  ⟨Nat.zero_le _, beq_eq_false_iff_ne.mpr (Ne.symm (Nat.ne_of_lt hb)), [], .nil, Heap.DictOf.new h⟩
theorem B64 {pins : List (Addr × Obj)} {σ : St} {H : Hp} {s : Shared} (I : Inv X pins σ H s) : sysModules < s.heap.objs.size :=
  Nat.lt_trans (show sysModules < mainGlobals by decide) (I.mod.glob.keeps I.bk).lt
theorem B4r {H : Hp} {p : Addr} {a b : HO} : upd (upd H p a) p b = upd H p b := by
  funext q
  unfold upd
  split <;> rfl
theorem B37 {P : Program} {w : World} {k : Key} {u : Value} (r : RelV (kV k) u) : (K9 P w).is k u = true := by
  cases k with
  | inl i => obtain ⟨t, e⟩ := (show ∃ t, u = Value.int i t from r); subst e; exact A14 P w i t
  | inr x => obtain ⟨t, e⟩ := (show ∃ t, u = Value.str x t from r); subst e; exact A13 P w x t
end
end L2
namespace Pu
open PySem L2 My Prf
def asS (x : PyData) (k : Str -> Prop) : Prop := match x with
  | .str z => k z
  | _ => False
theorem C0f {z : Str} {k : Str -> Prop} : asS (.str z) k = k z := rfl
theorem VV.strE {K : Frag} {w : Wd} {v : V} {z : Str} (h : VV K w v (.str z)) : v = .str z := by
  rcases h with h | ⟨l, vs, xs, e, e', _⟩
  · cases h; rfl
  · cases e'
def sgn (c : Nat) : PyData := .str ⟨#[c]⟩
def C0u (z : Str) : List PyData := z.cps.toList.map sgn
def B2v (pd : PDt) (env : PEnv) (Q : List PyData -> PEnv -> Prop) : Prop := pd env fun x e => asS x fun z => Q (C0u z) e
def pS (gd : Str -> Str -> PyData) (x y : PyData) (Q : SV -> Prop) : Prop := asS x fun i => asS y fun j => Q (.d (gd i j))
def B81 (x y : PyData) (Q : SV -> Prop) : Prop := asS x fun i => asS y fun j => i.length + j.length <= 1000 /\ Q (.d (.str (i ++ j)))
def B8t (z : Str) (i : Int) (Q : SV -> Prop) : Prop := ∃ c, atI z.cps.toList i = some c /\ Q (.d (sgn c))
def pIx2 (x y : PyData) (Q : SV -> Prop) : Prop := match x with
  | .str z => asI y fun i => z.length <= 1000 /\ B8t z i Q
  | x => pIx x y Q
theorem B2t {xs : List PyData} {y : PyData} {Q : SV -> Prop} : pIx2 (.list xs) y Q = pIx (.list xs) y Q := rfl
theorem B2q {xs : List PyData} {y : PyData} {Q : SV -> Prop} : pIx2 (.tuple xs) y Q = pIx (.tuple xs) y Q := rfl
theorem B2s {q : Rat} {y : PyData} {Q : SV -> Prop} : pIx2 (dq q) y Q = pIx (dq q) y Q := rfl
theorem B2u {q : Rat × Rat} {y : PyData} {Q : SV -> Prop} : pIx2 (dcn q) y Q = pIx (dcn q) y Q := rfl
theorem B2r {z : Str} {i : Int} {Q : SV -> Prop} : pIx2 (.str z) (.int i) Q = (z.length <= 1000 /\ B8t z i Q) := rfl
instance (priority := high) ro_ix2 {K : Frag} : RO K (rIx K) pIx2 where
  ok := by
    rintro c w env σ x y dx dy Qp Q rfl E vx vy p k
    unfold pIx2 at p
    split at p
    · unfold asI at p
      split at p
      · obtain ⟨hl, cc, h1, q⟩ := p
        exact .inr (.inr ⟨_, _, cc, vx.strE, vy.intE, Nat.le_trans hl A3q, h1, k _ _ w (Res.data E (.str _)) q⟩)
      · exact p.elim
    · exact ro_ix.ok c w env σ x y dx dy Qp Q rfl E vx vy p k
def A1z (xs : List PyData) (Q : SV -> Prop) : Prop := match xs with
  | [.list ys] => Q (.d (.int ys.length))
  | [.tuple ys] => Q (.d (.int ys.length))
  | [.str z] => z.length <= 1000 /\ Q (.d (.int z.length))
  | _ => False
theorem A6y {ys : List PyData} {Q : SV -> Prop} : A1z [.list ys] Q = Q (.d (.int ys.length)) := rfl
theorem A6v {ys : List PyData} {Q : SV -> Prop} : A1z [.tuple ys] Q = Q (.d (.int ys.length)) := rfl
theorem A6x {q : Rat} {Q : SV -> Prop} : A1z [dq q] Q = Q (.d (.int 2)) := rfl
theorem A6w {z : Str} {Q : SV -> Prop} : A1z [.str z] Q = (z.length <= 1000 /\ Q (.d (.int z.length))) := rfl
instance rb_len2 {K : Frag} : RB K (B7o K) A1z where
  ok := by
    rintro c w env σ vs xs Qp Q rfl E vv p k
    unfold A1z at p
    split at p
    · cases vv with | cons h t => cases t; obtain ⟨a, us, e, h1, h2⟩ := h.lst E.wok; exact .inl ⟨a, us, by rw [e], .inl h1, by rw [h2.len]; exact k _ _ w (Res.data E (.int _)) p⟩
    · cases vv with | cons h t => cases t; obtain ⟨a, us, e, h1, h2⟩ := h.tup E.wok; exact .inl ⟨a, us, by rw [e], .inr h1, by rw [h2.len]; exact k _ _ w (Res.data E (.int _)) p⟩
    · cases vv with | cons h t => cases t; exact .inr ⟨_, by rw [h.strE], Nat.le_trans p.1 A3q, k _ _ w (Res.data E (.int _)) p.2⟩
    · exact p.elim
def B66 : List PyData -> Option (List Str)
  | [] => some []
  | .str z :: r => (B66 r).map (z :: ·)
  | _ => none
def B8r (po pa : PDt) (env : PEnv) (Q : SV -> PEnv -> Prop) : Prop := po env fun x e => asS x fun sep => pa e fun y e2 => asL y fun ys => ∃ zs, B66 ys = some zs /\ (zs.map fun z => z.length + sep.length).sum <= 1000 /\ Q (.d (.str (sep.join zs))) e2
def B8i (pd : PDt) (i : Nat) (pi : PDt) (D : PEnds) (env : PEnv) : Prop := pd env fun x e => J8 e[i]? fun _ => pi e fun y e2 => asI y fun n => J8 e2[i]? fun xs => ∃ j, ixN xs.length n = some j /\ D.nx (e2.set i (some (.own (xs.set j x))))
def B8x (env : PEnv) (Q : SV -> PEnv -> Prop) : Prop := Q (.d (.dict [])) env
theorem Res.dct {c : Ct} {w : Wd} {env : PEnv} {σ : St} {p : Addr} {kvs : List (Key × V)} (E : EnvOk c w env σ) (h : w.H p = none) : Res c w env σ (w.tup p (.dK kvs)) (.ref p) (.d (.dict (kvs.map A2b))) :=
  ⟨E.mono (Wd.tup_ok E.wok h) (Wd.tup_le E.wok h), (Wd.tup_le E.wok h).toLw, .dct (kvs := kvs) C9, fun _ e => (nomatch e), rfl⟩
def B20 (key : Key) (y : V) (env : PEnv) (Q : SV -> PEnv -> Prop) : Prop := Q (.d (.dict [A2b (key, y)])) env
theorem A84 : kitB "int" "int" = some true := by decide +kernel
theorem A85 : kitB "int" "bool" = some false := by decide +kernel
theorem A82 : kitB "int" "tuple" = some false := by decide +kernel
theorem A83 : kitB "int" "str" = some false := by decide +kernel
theorem A9c : kitB "bool" "int" = some true := by decide +kernel
theorem A9d : kitB "bool" "bool" = some true := by decide +kernel
theorem A9a : kitB "bool" "tuple" = some false := by decide +kernel
theorem A9b : kitB "bool" "str" = some false := by decide +kernel
theorem A8w : kitB "NoneType" "int" = some false := by decide +kernel
theorem A8x : kitB "NoneType" "bool" = some false := by decide +kernel
theorem A8u : kitB "NoneType" "tuple" = some false := by decide +kernel
theorem A8v : kitB "NoneType" "str" = some false := by decide +kernel
theorem A8s : kitB "str" "int" = some false := by decide +kernel
theorem A8t : kitB "str" "bool" = some false := by decide +kernel
theorem A8q : kitB "str" "tuple" = some false := by decide +kernel
theorem A8r : kitB "str" "str" = some true := by decide +kernel
theorem A80 : kitB "list" "int" = some false := by decide +kernel
theorem A81 : kitB "list" "bool" = some false := by decide +kernel
theorem A8y : kitB "list" "tuple" = some false := by decide +kernel
theorem A8z : kitB "list" "str" = some false := by decide +kernel
theorem A8o : kitB "tuple" "int" = some false := by decide +kernel
theorem A8p : kitB "tuple" "bool" = some false := by decide +kernel
theorem A8m : kitB "tuple" "tuple" = some true := by decide +kernel
theorem A8n : kitB "tuple" "str" = some false := by decide +kernel
theorem A88 : kitB "dict" "int" = some false := by decide +kernel
theorem A89 : kitB "dict" "bool" = some false := by decide +kernel
theorem A86 : kitB "dict" "tuple" = some false := by decide +kernel
theorem A87 : kitB "dict" "str" = some false := by decide +kernel
theorem A2l {kvs : List (PyData × PyData)} : tyD (.dict kvs) = "dict" := rfl
def B24 (pr pr' : PyData -> PyData -> (SV -> Prop) -> Prop) (pa pb pc : PDt) (env : PEnv) (Q : SV -> PEnv -> Prop) : Prop :=
  pa env fun x e1 => pb e1 fun y e2 => pr x y fun s => s.asD fun b => asB b fun k => if k = true then pc e2 fun z e3 => pr' y z fun s2 => Q s2 e3 else Q (.d (.bool false)) e2
end Pu
namespace L2
open PySem PySem.Spec PyProof.Rows
section
variable {prog : Program} {w : World} {A : Around} {E : Value -> Shared -> Prop} {h : Heap} {g : Array GenState} {d : Drawn} {t : Nat} {os : OsState} {a C : Addr} {o : Obj} {vs : Array Value} {K : PySem.W.Frag}
end
end L2
namespace L2
open PySem PySem.Spec PyProof.Rows
structure Fly (P : Program) (w : World) (outer : List Env) (H : Hp) (s s' : Shared) (a : Addr) (cls a0 : Value) (H' : Hp) (B : Heap) : Prop where
  os : s'.os = s.os
  bare : AllBare s'.gens
  fly : Heap.FlyingW B outer a cls a0 s'.heap
  hok : HOk P w H' B
  keep : ∀ b o, s.heap.get? b = some o -> H b = none -> b ∉ frs outer -> B.get? b = some o
  slot : ∀ b o, s.heap.get? b = some o -> H b = none -> b ∈ frs outer -> ∃ sl, s'.heap.get? b = some { o with slots := sl }
  free : ∀ b o, s.heap.get? b = some o -> H b = none -> H' b = none
  there : ∀ b o, s.heap.get? b = some o -> b ∉ frs outer -> ∃ o', B.get? b = some o'
  tups : ∀ b xs, H b = some (.tup xs) -> H' b = some (.tup xs)
  frzs : ∀ b o u, H b = some (.frz o u) -> H' b = some (.frz o u)
  tbls : ∀ b ps, H b = some (.tbl ps) -> ∃ more, H' b = some (.tbl (ps ++ more))
def CX1 (P : Program) (w : World) : CXT := fun outer H s E e s' => ∃ (a : Addr) (cls a0 : Value) (H' : Hp) (B : Heap), e = .ref a /\ Fly P w outer H s s' a cls a0 H' B /\ E cls none H'
section
variable {P : Program} {w : World} {outer : List Env} {H H' : Hp} {s s' : Shared} {a : Addr} {cls a0 : Value} {B : Heap}
end
section
variable {P : Program} {w : World} {K : PySem.W.Frag} {mg : Str -> Option Value} {base : Heap} {N : List Str} {qual : Str} {scope : Scope} {f : Addr} {cd : Value} {A : Around} {outer : List Env} {s0 : Shared} {H0 : Hp} {E : XK}
end
end L2
namespace L2
open PySem PySem.Spec PyProof.Rows
section
variable {X : Cx} {E : XK} {x : Str} {C : Addr} {pos np cpos : Pos} {e : Expr} {es : List Expr} {t : TA}
end
abbrev Cx.held (X : Cx) (a : Addr) (oe : Obj) : Cx := { X with A := X.A.mark (some (.ref a)), calm := false, pn := (a, oe) :: X.pn, xe := fun _ _ => False }
section
variable {X : Cx} {pins : List (Addr × Obj)} {σ : St} {H : Hp} {s : Shared} {a : Addr} {oe : Obj}
end
end L2
namespace L2
open PySem PySem.Spec PyProof.Rows
section
variable {P : Program} {w : World} {outer : List Env} {H H' : Hp} {s s' : Shared} {a : Addr} {cls a0 : Value} {B : Heap}
end
section
variable {X : Cx} {pins : List (Addr × Obj)} {σ : St} {H H' : Hp} {s s' : Shared} {a : Addr} {cls a0 : Value} {B : Heap}
end
section
variable {X : Cx} {k i : Nat} {f C CH : Addr} {fd : FuncData} {ps : List Str} {sp : Sp} {x xh n : Str} {p pos pos2 pos3 pos4 pos5 : Pos} {e : Expr} {es : List Expr} {t : TA} {b0 : Stmt} {suite : List Stmt} {b : Bool}
end
end L2
namespace L2
open PySem PySem.Spec PyProof.Rows
section
variable {X : Cx} {a C : Addr} {oe : Obj} {i : Nat} {b : Bool}
inductive ClV : V -> Value -> Prop
  | own (c : Addr) : ClV (.ref c) (.ref c)
  | ty (c : String) : ClV (.ty c) (.type c)
theorem ClV.get {c : V} {u cv : Value} (h : ClV c cv) (r : RelV c u) : u = cv := by
  cases h with
  | own c => exact r
  | ty c => exact r
inductive ClVs : List V -> List Value -> Prop
  | nil : ClVs [] []
  | cons {c : V} {cv : Value} {r : List V} {s : List Value} : ClV c cv -> ClVs r s -> ClVs (c :: r) (cv :: s)
theorem ClVs.get : ∀ {cs : List V} {us cvs : List Value}, ClVs cs cvs -> Vals cs us -> us = cvs
  | [], _, _, .nil, .nil => rfl
  | _ :: _, _, _, .cons h t, .cons r s => by rw [h.get r, t.get s]
end
end L2
namespace L2
open PySem PySem.Spec PyProof.Rows
section
variable {X : Cx}
variable {k i : Nat} {f C CH : Addr} {fd : FuncData} {ps : List Str} {sp : Sp} {x xh n : Str} {p pos pos2 pos3 pos4 pos5 : Pos} {e : Expr} {es : List Expr} {t : TA} {b0 : Stmt} {suite : List Stmt} {b : Bool}
end
end L2
namespace Pu
open PySem PySem.Spec PyProof.Rows L2 My Prf
end Pu
namespace L2
open PySem PySem.Spec PyProof.Rows
theorem us0 : ∀ {us : List Value}, us.length = 0 -> us = []
  | [], _ => rfl
theorem usS {n : Nat} : ∀ {us : List Value}, us.length = n + 1 -> ∃ a r, us = a :: r /\ r.length = n
  | a :: r, h => ⟨a, r, rfl, Nat.succ.inj h⟩
theorem us1 {us : List Value} (h : us.length = 1) : ∃ a, us = [a] := by
  obtain ⟨a, r, e, k⟩ := usS h
  exact ⟨a, by rw [e, us0 k]⟩
theorem us2 {us : List Value} (h : us.length = 2) : ∃ a b, us = [a, b] := by
  obtain ⟨a, r, e, k⟩ := usS h; obtain ⟨b, z⟩ := us1 k; exact ⟨a, b, by rw [e, z]⟩
theorem us3 {us : List Value} (h : us.length = 3) : ∃ a b c, us = [a, b, c] := by
  obtain ⟨a, r, e, k⟩ := usS h; obtain ⟨b, c, z⟩ := us2 k; exact ⟨a, b, c, by rw [e, z]⟩
theorem us4 {us : List Value} (h : us.length = 4) : ∃ a b c d, us = [a, b, c, d] := by
  obtain ⟨a, r, e, k⟩ := usS h; obtain ⟨b, c, d, z⟩ := us3 k; exact ⟨a, b, c, d, by rw [e, z]⟩
end L2
namespace L2
open PySem PySem.Spec PyProof.Rows
section
variable {X : Cx}
end
end L2
namespace Pu
open PySem L2 My Prf
def pRep (pe : PX) (pb : PDt) (env : PEnv) (Q : SV -> PEnv -> Prop) : Prop := pe env fun s e => ∃ xs, s = .own xs /\ pb e fun y e2 => ∃ n : Int, y = .int n /\ 0 <= n /\ n <= 1000 /\ xs.length <= 1000 /\ Q (.own (List.replicate n.toNat xs).flatten) e2
theorem B7k {k len : Nat} (h : k < len) : PySem.seqIndex? (k : Int) len = some k := by
  unfold PySem.seqIndex?
  have h1 : ¬ ((k : Int) < 0) := by omega
  have h2 : (decide ((0 : Int) <= (k : Int)) && decide ((k : Int) < (len : Int))) = true := by simp; omega
  simp only [h1, if_false, h2, if_true, Int.toNat_natCast]
def A7e (i j : Nat) (pd : PDt) (D : PEnds) (env : PEnv) : Prop := i ≠ j /\ J8 env[i]? fun _ => J8 env[j]? fun _ => pd env fun x e => J8 e[i]? fun xs => J8 e[j]? fun ys => ∃ (k : Nat) (y : PyData), x = .int k /\ ys[k]? = some y /\ xs.length < 1000000 /\ ys.length < 1000000 /\ D.nx ((e.set j (some (.own (ys.eraseIdx k)))).set i (some (.own (xs ++ [y]))))
end Pu
namespace L2
open PySem PySem.Spec PyProof.Rows
section
variable {prog : Program} {w : World} {A : Around} {E : Value -> Shared -> Prop} {s : Shared}
end
section
variable {prog : Program} {w : World} {A : Around} {E : Value -> Shared -> Prop} {s : Shared} {R : Result -> Shared -> Prop} {us vs : Array Value}
end
section
variable {prog : Program} {w : World} {A : Around} {E : Value -> Shared -> Prop} {s : Shared} {us vs : Array Value}
end
end L2
namespace L2
open PySem PySem.Spec PyProof.Rows
section
variable {X : Cx} {pins : List (Addr × Obj)} {σ : St} {H : Hp} {s : Shared}
end
end L2
namespace L2
open PySem PySem.Spec PyProof.Rows
section
variable {X : Cx}
end
end L2
namespace Pu
open PySem L2 My Prf
def A6s (pa : PEnv -> (List (List PyData) -> PEnv -> Prop) -> Prop) (env : PEnv) (Q : SV -> PEnv -> Prop) : Prop := pa env fun xss e => ∃ xs ys, xss = [xs, ys] /\ xs.length <= 1000 /\ Q (.own (zipD xs ys)) e
end Pu
namespace L2
open PySem PySem.Spec PyProof.Rows
section
variable {X : Cx}
end
end L2
namespace Pu
open PySem L2 My Prf
def pIdx (po pa : PDt) (env : PEnv) (Q : SV -> PEnv -> Prop) : Prop := po env fun x e => asL x fun xs => pa e fun d e2 => PyData.canLayAll0 xs = true /\ d.canLay0 = true /\ d.depth <= 60 /\ xs.length <= 1000 /\ ∃ j : Nat, xs.findIdx? (fun z => z.eqv d) = some j /\ Q (.d (.int (j : Int))) e2
end Pu
namespace L2
open PySem PySem.Spec PyProof.Rows
def B46 (d : PyData) : Prop := (d.canLay0 = true /\ d.showable = true /\ d.hasDict = false \/ d = .dict []) /\ d.depth <= 60 /\ d.shown.length <= sizeLine
section
variable {X : Cx}
end
end L2
namespace Pu
open PySem L2 My Prf
def B8n (pa : PDt) (env : PEnv) (Q : SV -> PEnv -> Prop) : Prop := pa env fun d e => B46 d /\ Q (.d (.str d.shown)) e
end Pu
namespace L2
open PySem PySem.Spec PyProof.Rows
def B67 (n : Nat) (i j : Int) : List Nat := sliceRange (sliceBounds (some i) none (some j) n).1 (sliceBounds (some i) none (some j) n).2.1 (sliceBounds (some i) none (some j) n).2.2
section
variable {X : Cx}
end
end L2
namespace Pu
open PySem L2 My Prf
def C0r (xs : List PyData) (i j : Int) : List PyData := (B67 xs.length i j).filterMap (xs[·]?)
def B8g (pe pl ps : PDt) (env : PEnv) (Q : SV -> PEnv -> Prop) : Prop := pe env fun x e1 => asL x fun xs => pl e1 fun y e2 => asI y fun i => ps e2 fun z e3 => asI z fun j => j ≠ 0 /\ Q (.own (C0r xs i j)) e3
end Pu
namespace L2
open PySem PySem.Spec PyProof.Rows
end L2
namespace Pu
open PySem L2 My Prf
def B2h (pa : PEnv -> (List (List PyData) -> PEnv -> Prop) -> Prop) (env : PEnv) (Q : SV -> PEnv -> Prop) : Prop := pa env fun xss e => ∃ xs, xss = [xs] /\ Q (.d (.tuple xs)) e
end Pu
namespace L2
open PySem PySem.Spec PyProof.Rows
def told : PyData -> Str
  | .str z => z
  | d => d.shown
section
variable {X : Cx}
end
end L2
namespace Pu
open PySem L2 My Prf
def pStr (pa : PDt) (env : PEnv) (Q : SV -> PEnv -> Prop) : Prop := pa env fun d e => B46 d /\ Q (.d (.str (told d))) e
end Pu
namespace L2
open PySem PySem.Spec PyProof.Rows
mutual
def lay1 : PyData -> Bool
  | .list xs => B6j xs
  | .tuple xs => B6j xs
  | .dict kvs => kvs.isEmpty
  | .str x => PyData.strOk x
  | _ => true
def B6j : List PyData -> Bool
  | [] => true
  | x :: r => lay1 x && B6j r
end
section
variable {X : Cx} {pins : List (Addr × Obj)} {σ : St} {H : Hp} {s : Shared}
end
end L2
namespace L2
open PySem PySem.Spec PyProof.Rows
def B7e (d : PyData) : Prop := (lay1 d = true /\ d.showable = true) /\ d.depth <= 60 /\ d.shown.length <= sizeLine
section
variable {X : Cx}
end
end L2
namespace Pu
open PySem L2 My Prf
def B8f (pa : PDt) (env : PEnv) (Q : SV -> PEnv -> Prop) : Prop := pa env fun d e => B7e d /\ Q (.d (.str (told d))) e
end Pu
namespace L2
open PySem PySem.Spec PyProof.Rows
end L2
namespace Pu
open PySem L2 My Prf
def C07 (x y : PyData) (Q : SV -> Prop) : Prop := match x, y with
  | .tuple (x :: xs), .tuple (y :: ys) => xs.length + ys.length <= 1000 /\ Q (.d (.tuple (x :: xs ++ y :: ys)))
  | _, _ => False
theorem A7b {x y : PyData} {xs ys : List PyData} {Q : SV -> Prop} : C07 (.tuple (x :: xs)) (.tuple (y :: ys)) Q = (xs.length + ys.length <= 1000 /\ Q (.d (.tuple (x :: xs ++ y :: ys)))) := rfl
end Pu
namespace L2
open PySem PySem.Spec PyProof.Rows
section
variable {prog : Program} {w : World} {A : Around} {E : Value -> Shared -> Prop}
end
end L2
namespace Pu
open PySem L2 My Prf
def qLsU (n : Nat) (pr : List PyData -> PEnv -> (PEnv -> Prop) -> Prop) (x : PyData) (env : PEnv) (Q : PEnv -> Prop) : Prop := match x with
  | .list xs => xs.length = n /\ pr xs env Q
  | _ => False
theorem B2a {n : Nat} {pr : List PyData -> PEnv -> (PEnv -> Prop) -> Prop} {xs : List PyData} {env : PEnv} {Q : PEnv -> Prop} : qLsU n pr (.list xs) env Q = (xs.length = n /\ pr xs env Q) := rfl
def B85 (pd : PDt) (n : Nat) (pr : List PyData -> PEnv -> (PEnv -> Prop) -> Prop) (D : PEnds) (env : PEnv) : Prop := pd env fun x e => qLsU n pr x e D.nx
end Pu
namespace L2
open PySem PySem.Spec PyProof.Rows
section
variable {M : Model} {A : Around} {E : Value -> Shared -> Prop} {s : Shared}
end
section
variable {P : Program} {w : World} {K : PySem.W.Frag} {mg : Str -> Option Value} {base : Heap} {N : List Str} {qual : Str} {scope : Scope} {f : Addr} {cd : Value} {A : Around} {outer : List Env} {s0 : Shared} {H0 : Hp} {E : XK}
end
end L2
namespace L2
open PySem PySem.Spec PyProof.Rows
def bx (X : Cx) (scope : Scope) (cl : List (Str × Addr)) (N' : List Str) (s3 : Shared) (H3 : Hp) (fp : List Addr) (E0 : XK) : Value -> Shared -> Prop := fun e s' => ∃ pl σ H s, Inv (X.block scope cl N' s3 H3 fp) pl σ H s /\ CX1 X.prog X.w X.stack H s E0 e s'
section
variable {X : Cx} {scope : Scope} {cl : List (Str × Addr)} {N' : List Str} {cap : List (Option Nat)} {elt tg iter : Expr} {ifs : List Expr} {wi : TI} {g : TG} {tt : TT} {te : TE} {pos : Pos}
end
section
variable {P : Program} {w : World} {K : PySem.W.Frag} {mg : Str -> Option Value} {base : Heap} {N : List Str} {qual : Str} {dsc : Scope} {f : Addr} {cd : Value} {A : Around} {outer : List Env} {s0 : Shared} {H0 : Hp} {E : XK}
variable {scope : Scope} {cl : List (Str × Addr)} {N' : List Str} {cap : List (Option Nat)} {elt tg iter : Expr} {ifs : List Expr} {wi : TI} {g : TG} {tt : TT} {te : TE} {pos : Pos}
end
end L2
namespace L2
open PySem PySem.Spec PyProof.Rows
section
variable {X : Cx} {e : Expr} {t u : TE}
end
section
variable {P : Program} {w : World} {K : PySem.W.Frag} {mg : Str -> Option Value} {base : Heap} {N : List Str} {qual : Str} {dsc : Scope} {f : Addr} {cd : Value} {A : Around} {outer : List Env} {s0 : Shared} {H0 : Hp} {E : XK}
variable {scope : Scope} {cl : List (Str × Addr)} {N' : List Str} {cap : List (Option Nat)} {elt tg iter : Expr} {ifs : List Expr} {wi : TI} {g : TG} {tt : TT} {te : TE} {pos : Pos}
end
end L2
namespace Pu
open PySem PySem.Spec PyProof.Rows L2 My Prf
end Pu
namespace L2
open PySem PySem.Spec PyProof.Rows
end L2
namespace Pu
open PySem L2 My Prf
def C04 (x y : PyData) (Q : SV -> Prop) : Prop := asS x fun i => asI y fun n => (0 <= n /\ n <= 100) /\ i.length <= 100 /\ Q (.d (.str (Txt.mul i n)))
theorem A6r {i : Str} {n : Int} {Q : SV -> Prop} : C04 (.str i) (.int n) Q = ((0 <= n /\ n <= 100) /\ i.length <= 100 /\ Q (.d (.str (Txt.mul i n)))) := rfl
end Pu
namespace L2
open PySem PySem.Spec PyProof.Rows
section
variable {pg : Program} {wo : World} {ar : Around} {xe : Value -> Shared -> Prop} {st : Shared}
end
end L2
namespace Pu
open PySem L2 My Prf
def pSlT (pa : PDt) (pl ph : PEnv -> (Option Int -> PEnv -> Prop) -> Prop) (env : PEnv) (Q : SV -> PEnv -> Prop) : Prop := pa env fun x e => pl e fun lo e1 => ph e1 fun hi e2 => ∃ (xs : List PyData) (b : Nat), x = .tuple xs /\ lo = none /\ hi = some (b : Int) /\ Q (.d (.tuple (xs.take b))) e2
end Pu
namespace Pu
open PySem L2 My Prf
def OT.part : OT -> Int -> Option OT
  | .leaf (.tuple xs), i => (L2.atI xs i).map .leaf
  | .leaf (.list xs), i => (L2.atI xs i).map .leaf
  | .nd _ _ k, i => (ixN k.len i).bind k.kid
  | _, _ => none
def B6f (o : Option (Option SV)) (env : PEnv) (Q : OT -> PEnv -> Prop) : Prop := match o with
  | some (some (.bt t)) => Q t env
  | some (some (.d x)) => Q (.leaf x) env
  | _ => False
def B8p (i : Nat) (env : PEnv) (Q : OT -> PEnv -> Prop) : Prop := B6f env[i]? env Q
theorem A8b {t : OT} {env : PEnv} {Q : OT -> PEnv -> Prop} : B6f (some (some (.bt t))) env Q = Q t env := rfl
theorem A8a {x : PyData} {env : PEnv} {Q : OT -> PEnv -> Prop} : B6f (some (some (.d x))) env Q = Q (.leaf x) env := rfl
def pPth (pb : PEnv -> (OT -> PEnv -> Prop) -> Prop) (pi : PDt) (env : PEnv) (Q : OT -> PEnv -> Prop) : Prop := pb env fun t e1 => pi e1 fun y e2 => asI y fun n => ∃ u, t.part n = some u /\ Q u e2
def OT.vw (t : OT) (k : PyData -> Prop) : Prop := match t with
  | .leaf x => k x
  | t => ∃ xs, t.sv = .bor xs /\ k (.list xs)
theorem A5e {x : PyData} {k : PyData -> Prop} : OT.vw (.leaf x) k = k x := rfl
def pVw (pb : PEnv -> (OT -> PEnv -> Prop) -> Prop) (env : PEnv) (Q : PyData -> PEnv -> Prop) : Prop := pb env fun t e => t.vw fun x => Q x e
def OT.lf (t : OT) (k : PyData -> Prop) : Prop := match t with
  | .leaf x => k x
  | _ => False
theorem A8i {x : PyData} {k : PyData -> Prop} : OT.lf (.leaf x) k = k x := rfl
def pLf (pb : PEnv -> (OT -> PEnv -> Prop) -> Prop) (env : PEnv) (Q : SV -> PEnv -> Prop) : Prop := pb env fun t e => t.lf fun x => Q (.d x) e
def pBr (pb : PEnv -> (OT -> PEnv -> Prop) -> Prop) (env : PEnv) (Q : List PyData -> PEnv -> Prop) : Prop := pb env fun t e => ∃ xs, t.sv = .bor xs /\ Q xs e
end Pu
namespace L2
open PySem PySem.Spec PyProof.Rows
end L2
namespace Pu
open PySem L2 My Prf
def Wd.less (w : Wd) (p q : Addr) : Wd := ⟨w.M, fun a => if a = p \/ a = q then none else w.H a, w.F⟩
def Mut (K : Frag) (w : Wd) (l : Addr) (xs : List PyData) : Prop := ∃ vs, w.H l = some (.lst vs) /\ w.F l = none /\ ¬ w.M l /\ DenAll K w.F vs xs
abbrev PMu := List PyData -> List PyData -> List PyData -> (PyData -> List PyData -> List PyData -> Prop) -> Prop
def B98 (nd : Nat) (p q : Addr) (Qp : PyData -> List PyData -> List PyData -> Prop) (x : PyData) (e : PEnv) : Prop := ∃ ys zs, e[nd]? = some (some (.tr (.nd true p (C6 ys)))) /\ e[nd + 1]? = some (some (.tr (.nd true q (C6 zs)))) /\ Qp x ys zs
def rtMu (nd : Nat) (p q : Addr) (Qp : PyData -> List PyData -> List PyData -> Prop) (s : SV) (e : PEnv) : Prop := match s with
  | .d x => B98 nd p q Qp x e
  | _ => False
theorem B16 {nd : Nat} {p q : Addr} {Qp : PyData -> List PyData -> List PyData -> Prop} {x : PyData} {e : PEnv} : rtMu nd p q Qp (.d x) e = B98 nd p q Qp x e := rfl
def oMu (o : Option (Option SV)) (k : Addr -> List PyData -> Prop) : Prop := match o with
  | some (some (.tr t)) => ∃ a xs, t = .nd true a (C6 xs) /\ k a xs
  | _ => False
theorem C1a {a : Addr} {xs : List PyData} {k : Addr -> List PyData -> Prop} (h : k a xs) : oMu (some (some (.tr (.nd true a (C6 xs))))) k := ⟨a, xs, rfl, h⟩
theorem W9 {xs ys : List PyData} (h : C6 xs = C6 ys) : xs = ys := by
  have := congrArg OT.dat h
  rwa [Q7, Q7] at this
theorem B9e {a : Addr} {xs : List PyData} {k : Addr -> List PyData -> Prop} : oMu (some (some (.tr (.nd true a (C6 xs))))) k = k a xs :=
  propext ⟨fun ⟨_, _, e, h⟩ => by
    have e1 := (OT.nd.inj e).2.1
    have e2 := W9 (OT.nd.inj e).2.2
    subst e1; subst e2; exact h, C1a⟩
def pMuV (i : Nat) (env : PEnv) (Q : PyData -> PEnv -> Prop) : Prop := oMu env[i]? fun _ xs => Q (.list xs) env
def B2j (pd : PDt) (i : Nat) (pi : PDt) (D : PEnds) (env : PEnv) : Prop := pd env fun x e => oMu e[i]? fun _ _ => pi e fun y e2 => asI y fun n => oMu e2[i]? fun a xs => ∃ j, ixN xs.length n = some j /\ D.nx (e2.set i (some (.tr (.nd true a (C6 (xs.set j x))))))
def is2 (o o' : Option (Option SV)) (k : Prop) : Prop := match o, o' with
  | some (some (.own _)), some (some (.own _)) => k
  | _, _ => False
theorem B9z {xs ys : List PyData} {k : Prop} : is2 (some (some (.own xs))) (some (some (.own ys))) k = k := rfl
def pA2 (i j : Nat) (env : PEnv) (Q : List PyData -> Nat -> Nat -> PEnv -> Prop) : Prop := is2 env[i]? env[j]? (Q [] i j env)
def pC2 (pd : PDt) (pr : PEnv -> (List PyData -> Nat -> Nat -> PEnv -> Prop) -> Prop) (env : PEnv) (Q : List PyData -> Nat -> Nat -> PEnv -> Prop) : Prop := pd env fun x e1 => pr e1 fun xs i j e2 => Q (x :: xs) i j e2
def own2 (o o' : Option (Option SV)) (k : List PyData -> List PyData -> Prop) : Prop := match o, o' with
  | some (some (.own xs)), some (some (.own ys)) => k xs ys
  | _, _ => False
theorem B3c {xs ys : List PyData} {k : List PyData -> List PyData -> Prop} : own2 (some (some (.own xs))) (some (some (.own ys))) k = k xs ys := rfl
def pMu (psp : PMu) (pa : PEnv -> (List PyData -> Nat -> Nat -> PEnv -> Prop) -> Prop) (env : PEnv) (Q : PyData -> PEnv -> Prop) : Prop := pa env fun xs i j e => i ≠ j /\ own2 e[i]? e[j]? fun ys zs => psp xs ys zs fun x ys' zs' => Q x ((e.set i (some (.own ys'))).set j (some (.own zs')))
def B28 (psp : PMu) (pa : PEnv -> (List PyData -> Nat -> Nat -> PEnv -> Prop) -> Prop) (m : Nat) (D : PEnds) (env : PEnv) : Prop := pMu psp pa env fun x e => D.nx (e.set m (some (.d x)))
def A65 (psp : PMu) (pa : PEnv -> (List PyData -> Nat -> Nat -> PEnv -> Prop) -> Prop) (D : PEnds) (env : PEnv) : Prop := pMu psp pa env fun _ e => D.nx e
end Pu
namespace L2
open PySem PySem.Spec PyProof.Rows
end L2
namespace Pu
open PySem L2 My Prf
def tKp (i : Nat) : TE := tVar i
theorem B1a {c : Ct} {w : Wd} {env : PEnv} {σ : St} {i : Nat} {xs : List PyData} (E : EnvOk c w env σ) (e : env[i]? = some (some (.own xs))) : ∃ a vs, σ[i]? = some (some (.ref a)) /\ SqL c.K w.H a vs /\ Walk ⟨c.K, w, c.Z⟩ w (Itl c.K a) xs := by
  obtain ⟨v, h1, l, vs, rfl, g1, g2, g3, g4, g5⟩ := E.at' i _ e
  exact ⟨l, vs, h1, SqL.of g1, J5 (c := ⟨c.K, w, c.Z⟩) g5 fun w' ok l' s => SqL.of (l'.h _ _ g1 g3)⟩
def B23 (i : Nat) (pg : PyData -> PEnv -> (PEnv -> Prop) -> Prop) (pt : PTt) (pd : PDt) (cap : List (Option Nat)) (env : PEnv) (Q : SV -> PEnv -> Prop) : Prop := J8 env[i]? fun xs => xs.length < 1000000 /\ K7 xs pg pt pd (F9 cap env) fun ys => Q (.own ys) env
def O8 (i : Nat) (pg : PyData -> PEnv -> (PEnv -> Prop) -> Prop) (pt : PTt) (pd : PDt) (cap : List (Option Nat)) (j : Nat) (D : PEnds) (env : PEnv) : Prop := J8 env[i]? fun xs => xs.length < 1000000 /\ K7 xs pg pt pd (F9 cap env) fun ys => D.nx (env.set j (some (.own ys)))
instance (priority := high) rs_setCompK {K : Frag} {i j : Nat} {g : TG} {tt : TT} {te : TE} {cap : List (Option Nat)} {pg : PyData -> PEnv -> (PEnv -> Prop) -> Prop} {pt : PTt} {pd : PDt} [hg : RG K g pg] [ht : RT K tt pt] [he : RD K te pd] : RS K (S2 (iSq K (tKp i)) g tt te cap j) (O8 i pg pt pd cap j) where
  ok := by
    rintro c w env σ Dp D rfl E h p
    unfold O8 J8 at p
    split at p
    · rename_i xs e
      obtain ⟨a, vs, h1, h2, wk⟩ := B1a E e
      refine ⟨_, h1, .inl ⟨a, rfl, ⟨vs, h2⟩, fun D' hD => ?_⟩⟩
      exact A2e (pg := pg) (pt := pt) (pd := pd) rfl E wk p.1 p.2 hD fun w' ys R q' => h.nx _ _ w' (R.ev.set R.val R.new) R.lw.f q'
    · exact p.elim
end Pu
namespace L2
open PySem PySem.Spec PyProof.Rows
theorem qKp {X : Cx} {e : Expr} {i : Nat} (h : QE X e (tVar i)) : QE X e (Pu.tKp i) := h
end L2
namespace Pu
open PySem L2 My Prf
def pDa (pb : PEnv -> (OT -> PEnv -> Prop) -> Prop) (env : PEnv) (Q : PyData -> PEnv -> Prop) : Prop := pb env fun t e => ∃ x, t.dat = [x] /\ Q x e
def OT.setK : OT -> Nat -> OT -> OT
  | .cons _ t, 0, x => .cons x t
  | .cons h t, n + 1, x => .cons h (t.setK n x)
  | t, _, _ => t
structure Sub (K : Frag) (w : Wd) (T u : OT) (r : OT -> OT) (v0 v : V) : Prop where
  tre : Tre K w u [v]
  re : ∀ (w' : Wd) x, (∀ a o, w.H a = some o -> a ∉ u.fp -> w'.H a = some o) -> Same w.F w'.F -> Tre K w' x [v] -> Tre K w' (r x) [v0]
  fp : ∃ A B, T.fp = A ++ u.fp ++ B /\ ∀ x, (r x).fp = A ++ x.fp ++ B
def B9k (T : OT) (k : OT -> (OT -> OT) -> Prop) : Prop := k T fun x => x
def mIx (pm : OT -> (OT -> (OT -> OT) -> Prop) -> Prop) (n : Int) (T : OT) (k : OT -> (OT -> OT) -> Prop) : Prop := pm T fun t r => ∃ b a ks j u, t = .nd b a ks /\ ixN ks.len n = some j /\ ks.kid j = some u /\ k u fun x => r (.nd b a (ks.setK j x))
def isLs (u : OT) (k : Addr -> List PyData -> Prop) : Prop := ∃ a xs, u = .nd true a (C6 xs) /\ k a xs
theorem B4a {a : Addr} {xs : List PyData} {k : Addr -> List PyData -> Prop} : isLs (.nd true a (C6 xs)) k = k a xs :=
  propext ⟨fun ⟨_, _, e, h⟩ => by
    have e1 := (OT.nd.inj e).2.1
    have e2 := W9 (OT.nd.inj e).2.2
    subst e1; subst e2; exact h, fun h => ⟨a, xs, rfl, h⟩⟩
def B80 (i : Nat) (pm : OT -> (OT -> (OT -> OT) -> Prop) -> Prop) (D : PEnds) (env : PEnv) : Prop := asTr env[i]? fun T => pm T fun u r => isLs u fun a _ => D.nx (env.set i (some (.tr (r (.nd true a .nil)))))
def B86 (i : Nat) (pm : OT -> (OT -> (OT -> OT) -> Prop) -> Prop) (x : PyData) (D : PEnds) (env : PEnv) : Prop := asTr env[i]? fun T => pm T fun u r => isLs u fun a xs => xs.length < 1000000 /\ D.nx (env.set i (some (.tr (r (.nd true a (C6 (xs ++ [x])))))))
def oInt (o : Option (Option SV)) (k : Int -> Prop) : Prop := match o with
  | some (some (.d (.int n))) => k n
  | _ => False
def B8h (pd : PDt) (i : Nat) (pm : OT -> (OT -> (OT -> OT) -> Prop) -> Prop) (j : Nat) (D : PEnds) (env : PEnv) : Prop := pd env fun x e => asTr e[i]? fun T => pm T fun u r => isLs u fun a xs => oInt e[j]? fun n => ∃ m, ixN xs.length n = some m /\ D.nx (e.set i (some (.tr (r (.nd true a (C6 (xs.set m x)))))))
theorem B3q {n : Int} {k : Int -> Prop} : oInt (some (some (.d (.int n)))) k = k n := rfl
def OT.slot : OT -> SV
  | .leaf x => .d x
  | .nd true a k => match k.lvs with
    | some xs => .own xs
    | none => .tr (.nd true a k)
  | t => .tr t
theorem A0h {x : PyData} : OT.slot (.leaf x) = .d x := rfl
theorem A5u {a : Addr} {xs : List PyData} : OT.slot (.nd true a (C6 xs)) = .own xs := by show (match (C6 xs).lvs with | some xs => SV.own xs | none => _) = _; rw [Q6]
def tUn (te : TE) : TE := te
def unT (s : SV) (a b : Nat) (e : PEnv) (k : PEnv -> Prop) : Prop := match s with
  | .d x => ∃ y z, x = .tuple [y, z] /\ k ((e.set a (some (.d y))).set b (some (.d z)))
  | .tr t => ∃ p u v, t = .nd false p (.cons u (.cons v .nil)) /\ k ((e.set a (some u.slot)).set b (some v.slot))
  | _ => False
theorem B60 {p : Addr} {u v : OT} {a b : Nat} {e : PEnv} {k : PEnv -> Prop} : unT (.tr (.nd false p (.cons u (.cons v .nil)))) a b e k = k ((e.set a (some u.slot)).set b (some v.slot)) :=
  propext ⟨fun ⟨_, _, _, e, h⟩ => by
    obtain ⟨_, _, e3⟩ := OT.nd.inj e
    obtain ⟨e4, e5⟩ := OT.cons.inj e3
    obtain ⟨e6, _⟩ := OT.cons.inj e5
    subst e4; subst e6; exact h, fun h => ⟨p, u, v, rfl, h⟩⟩
def pUnT (pe : PX) (a b : Nat) (D : PEnds) (env : PEnv) : Prop := pe env fun s e => unT s a b e D.nx
def B26 (psp : PSp) (pa : PAr) (env : PEnv) (Q : SV -> PEnv -> Prop) : Prop := pa env fun xs e => psp (xs.map .d) fun s => ∃ b, s = .d (.bool b) /\ Q (.d (.bool b)) e
def kids : List OT -> OT
  | [] => .nil
  | t :: r => .cons t (kids r)
def B09 (xs : List PyData) (pg : PyData -> PEnv -> (PEnv -> Prop) -> Prop) (pt : PTt) (pe : PX) (e0 : PEnv) (Fin : List OT -> Prop) : Prop :=
  ∃ Pv : Nat -> PEnv -> List OT -> Prop, Pv 0 e0 [] /\ (∀ i x e ys, xs[i]? = some x -> Pv i e ys -> pg x e fun e2 => pt e2 fun b e3 => if b = true then pe e3 fun s e4 => s.ot fun t => Pv (i + 1) e4 (ys ++ [t]) else Pv (i + 1) e3 ys) /\ ∀ e ys, Pv xs.length e ys -> Fin ys
def pCmT (pi : PAr) (pg : PyData -> PEnv -> (PEnv -> Prop) -> Prop) (pt : PTt) (pe : PX) (cap : List (Option Nat)) (env : PEnv) (Q : SV -> PEnv -> Prop) : Prop := pi env fun xs e => xs.length < 1000000 /\ B09 xs pg pt pe (F9 cap e) fun ts => ∀ a, Q (.tr (.nd true a (kids ts))) e
def OT.tup (a : Addr) (k : OT) : SV := match k.lvs with
  | some xs => .d (.tuple xs)
  | none => .tr (.nd false a k)
def B8e (pe : PX) (env : PEnv) (Q : SV -> PEnv -> Prop) : Prop := pe env fun s e => ∃ a k, s = .tr (.nd true a k) /\ ∀ p, Q (OT.tup p k) e
end Pu
namespace L2
open PySem PySem.Spec PyProof.Rows
section
variable {X : Cx} {e : Expr}
end
end L2
namespace Pu
open PySem L2 My Prf
end Pu
namespace L2
open PySem PySem.Spec PyProof.Rows
section
variable {X : Cx} {e : Expr}
end
end L2
namespace L2
open PySem PySem.Spec PyProof.Rows
section
variable {X : Cx} {tg : Expr}
def ItrS (lo st : Int) (n : Nat) : It := ⟨fun i _ => i < n, fun i H x H' => H' = H /\ x = .int (lo + (i : Nat) * st), fun i _ => n <= i⟩
theorem A5k {P : Program} {w : World} {K : PySem.W.Frag} {tg : Expr} (it : Addr) (lo st : Int) (n : Nat) : Turn P w K tg (ItrS lo st n) [it] it (fun i h => IsRangeIter h it (lo + (i : Nat) * st) ((n : Int) - (i : Nat)) st) where
  mem := List.mem_singleton.mpr rfl
  obj := fun i h st b hb => by
    cases List.mem_singleton.mp hb
    refine ⟨_, st, fun v z => ?_⟩
    have z' : Data.fields _ = Data.cell v := z
    cases z'
  keep := fun i h h' st k => k it (List.mem_singleton.mpr rfl) _ st
  item := by
    intro X hP hw hK hc i pins s σ H E I hf hst hg
    subst hP hw hK
    have f := hf it (List.mem_singleton.mpr rfl)
    have W := Walks.range (prog := X.prog) (w := X.w) (I.ok.hd hc) it lo st n
    refine W.item i s _ _ hg hst fun v h' tk hv st' kk => ?_
    obtain ⟨t, rfl⟩ := hv
    have I1 : Inv X pins σ H { s with heap := h', toks := tk } := I.turned (fun b o hb e => kk b o (fun z => hb (List.mem_singleton.mp z)) e) f.1 f.2.1 f.2.2.2.1 f.2.2.2.2.1 f.2.2.2.2.2
    exact ⟨_, rfl, A9o (s := { s with heap := h', toks := tk }) (n := "range_iterator") st' rfl rfl (by decide) ⟨.int (lo + (i : Nat) * st), H, I1, ⟨t, rfl⟩, ⟨rfl, rfl⟩, st', fun b hb => (hf b hb).1⟩⟩
  done := by
    intro X hP hw hK hc i pins s σ H E I hf st hg
    subst hP hw hK
    have f := hf it (List.mem_singleton.mpr rfl)
    have hn : n <= i := hg
    exact wpAny_pyNext_range_end (I.ok.hd hc) st (by omega) fun h' eb => ⟨rfl, I.turned (t' := s.toks) (fun b o hb e => eb b o hb e) f.1 f.2.1 f.2.2.2.1 f.2.2.2.2.1 f.2.2.2.2.2⟩
  self := fun _ _ _ _ _ st h => wpAny_pyIter_rangeiter st h
def stepN (i j k : Int) : Nat := if i < j then ((j - i - 1) / k + 1).toNat else 0
theorem A0j {a b c : Int} (hc : 0 < c) : Builtin.Range.rangeSize a b c = (stepN a b c : Nat) := by
  unfold Builtin.Range.rangeSize stepN
  rw [if_pos hc]
  by_cases h : a < b
  · rw [if_pos h, if_pos h]
    have := Int.ediv_nonneg (show (0 : Int) <= b - a - 1 by omega) (Int.le_of_lt hc)
    omega
  · rw [if_neg h, if_neg h]; rfl
theorem A4v {a b c : Int} (h : (0 <= a /\ a <= 1000) /\ (0 <= b /\ b <= 1000) /\ 0 < c /\ c <= 1000) : Builtin.Range.small a b c = true := by
  obtain ⟨⟨h1, h2⟩, ⟨h3, h4⟩, h5, h6⟩ := h
  unfold Builtin.Range.small
  rw [A0j h5]
  have hn : stepN a b c <= 1000 := by
    unfold stepN
    split
    · have := Int.ediv_le_self c (show (0 : Int) <= b - a - 1 by omega)
      omega
    · omega
  have hm : 0 <= (stepN a b c : Int) * c /\ (stepN a b c : Int) * c <= 1000 * 1000 := ⟨Int.mul_nonneg (by omega) (by omega), Int.mul_le_mul (by omega) h6 (by omega) (by omega)⟩
  generalize hq : stepN a b c = q at hn hm
  simp only [Builtin.Range.rangeFitsLong, Bool.and_eq_true, Bool.or_eq_true, decide_eq_true_eq, beq_iff_eq, h5, if_true]
  omega
def B6k (ta : TA) : TI := fun σ H R => ta σ H fun vs H1 => ∃ i j k : Int, vs = [.int i, .int j, .int k] /\ ((0 <= i /\ i <= 1000) /\ (0 <= j /\ j <= 1000) /\ 0 < k /\ k <= 1000) /\ R (ItrS i k (stepN i j k)) H1
theorem A6f {a b c : Expr} {ta : TA} {p pos : Pos} (hg : Gl X "range") (hm : X.mg "range" = none) (ha : PA X [a, b, c] ta) (hs : starEach [a, b, c] X.env = [(false, eval a X.env), (false, eval b X.env), (false, eval c X.env)])
    (hs2 : starEach [b, c] X.env = [(false, eval b X.env), (false, eval c X.env)]) : PI X tg (.Call (.Name "range" p) [a, b, c] [] pos) (B6k ta) := by
  intro pins s σ H R I h
  refine Call_ (U1 I hg hm boot_range (PyProof.Rows.callWith_type1 (thn (ha pos pins s σ H _ I h) fun us s1 ⟨vs, H1, I1, r1, q1⟩ => ?_) (hs.trans (by rw [hs2])) (by rw [hs2]; rfl)))
  obtain ⟨i, j, k, e, hb, q⟩ := q1
  subst e
  cases r1 with
  | cons r rr => cases rr with
    | cons r' rr => cases rr with
      | cons r2 rr =>
        cases rr
        obtain ⟨t, rfl⟩ := r
        obtain ⟨t', rfl⟩ := r'
        obtain ⟨t2, rfl⟩ := r2
        refine call_range_3 (by omega) ?_ (.inl (PyProof.noPylong_small (by omega)))
        refine wpAny_pyIter_range (IsRange.new ..) (A4v hb) ?_
        have I2 : Inv X pins σ H1 { s1 with heap := s1.heap.push { cls := .type "range", data := .fields #[.int i t, .int j t', .int k t2] }, toks := s1.toks } := I1.kept fun b o e => Heap.get?_push_of_some _ e
        refine ⟨(s1.heap.push { cls := .type "range", data := .fields #[.int i t, .int j t', .int k t2] }).objs.size, [(s1.heap.push { cls := .type "range", data := .fields #[.int i t, .int j t', .int k t2] }).objs.size], _, _, H1, rfl,
          I2.kept (t' := s1.toks) fun b o e => Heap.get?_push_of_some _ e, A5k _ i k (stepN i j k), ?_, fun b hb => ?_, q⟩
        · have e1 : i + ((0 : Nat) : Int) * k = i := by simp
          have e2 : ((stepN i j k : Nat) : Int) - ((0 : Nat) : Int) = Builtin.Range.rangeSize i j k := by rw [A0j hb.2.2.1]; omega
          show IsRangeIter _ _ (i + ((0 : Nat) : Int) * k) (((stepN i j k : Nat) : Int) - ((0 : Nat) : Int)) k
          rw [e1, e2]
          exact Heap.get?_push_size _ rfl
        · cases List.mem_singleton.mp hb
          exact I2.fpOk (Nat.le_refl _) (I2.hok.fresh (Nat.le_refl _))
theorem A4x {a b c : Expr} {ta : TA} {p pos : Pos} (hg: Gl X "range") (hm: X.mg "range" = none) (ha: QA X [a, b, c] ta) (hs: starEach [a, b, c] X.env = [(false, eval a X.env), (false, eval b X.env), (false, eval c X.env)] := by rfl) (hs2: starEach [b, c] X.env = [(false, eval b X.env), (false, eval c X.env)] := by rfl) : QI X tg (.Call (.Name "range" p) [a, b, c] [] pos) (B6k ta) := ⟨A6f hg hm ha.out hs hs2⟩
def B63 (i j : Nat) (ta : TA) : TS := tPar i j ta
theorem C0w {i j : Nat} {s : Stmt} {t : TA} (h : QS X s (tPar i j t)) : QS X s (B63 i j t) := h
end
end L2
namespace Pu
open PySem L2 My Prf
def stpD (lo st : Int) (n : Nat) : List PyData := (List.range n).map fun k : Nat => PyData.int (lo + (k : Nat) * st)
theorem S3 (lo st : Int) (n : Nat) : (stpD lo st n).length = n := by simp [stpD]
theorem B0s {lo st : Int} {n i : Nat} {x : PyData} (h : (stpD lo st n)[i]? = some x) : i < n /\ x = .int (lo + (i : Nat) * st) := by
  unfold stpD at h
  rw [List.getElem?_map] at h
  by_cases hi : i < n
  · rw [List.getElem?_range hi] at h; cases h; exact ⟨hi, rfl⟩
  · rw [List.getElem?_eq_none (by simpa using hi)] at h; cases h
def B6e (xs : List PyData) (Q : List PyData -> Prop) : Prop := match xs with
  | [.int i, .int j, .int k] => ((0 <= i /\ i <= 1000) /\ (0 <= j /\ j <= 1000) /\ 0 < k /\ k <= 1000) /\ Q (stpD i k (stepN i j k))
  | _ => False
theorem A7v {i j k : Int} {Q : List PyData -> Prop} : B6e [.int i, .int j, .int k] Q = (((0 <= i /\ i <= 1000) /\ (0 <= j /\ j <= 1000) /\ 0 < k /\ k <= 1000) /\ Q (stpD i k (stepN i j k))) := rfl
def B5x (pa : PAr) (env : PEnv) (Q : List PyData -> PEnv -> Prop) : Prop := pa env fun xs e => B6e xs fun ys => Q ys e
instance ri_rngS {K : Frag} {ta : TA} {pa : PAr} [ha : RAv K ta pa] : RI K (B6k ta) (B5x pa) where
  ok := by
    rintro c w env σ Qp R rfl E p k
    refine ha.ok c w env σ _ _ rfl E p fun vs xs e1 w1 E1 l1 v1 q1 => ?_
    unfold B6e at q1
    split at q1
    · rename_i i j k'
      obtain ⟨hb, q1⟩ := q1
      cases v1 with | cons h t => cases t with | cons h' t => cases t with | cons h2 t =>
        cases t
        refine ⟨i, j, k', by rw [h.intE, h'.intE, h2.intE], hb, k _ _ e1 w1 E1 l1 ?_ q1⟩
        intro w' ok l s
        refine ⟨fun m hm => by rw [S3] at hm; exact hm, by rw [S3]; exact Nat.le_refl _, fun m v H' y hm => ?_⟩
        obtain ⟨e, y⟩ := y
        subst y
        rw [S3] at hm
        refine ⟨w', .int (i + (m : Nat) * k'), e.symm, ok, Le.refl w', ?_, .int _⟩
        unfold stpD
        rw [List.getElem?_map, List.getElem?_range hm]; rfl
    · exact q1.elim
theorem B6o {lo st : Int} {n : Nat} {pg : PyData -> PEnv -> (PEnv -> Prop) -> Prop} {pb : PSt} {D : PEnds} {env : PEnv} (Iv : Nat -> PEnv -> Prop) (h0 : Iv 0 env)
    (hs : ∀ (i : Nat) e, i < n -> Iv i e -> pg (.int (lo + (i : Nat) * st)) e fun e2 => pb ⟨Iv (i + 1), D.rt, D.nx, Iv (i + 1)⟩ e2) (hd : ∀ e, Iv n e -> D.nx e) : W3 (stpD lo st n) pg pb D env :=
  ⟨Iv, h0, fun i x e hx hi => by obtain ⟨h1, rfl⟩ := B0s hx; exact hs i e h1 hi, fun e h => hd e (by rwa [S3] at h)⟩
def C0q (K : Frag) (j : Nat) : TE := tBM K "list" A5x (tVar j) (L9 (tC (.int 0)) tNil)
theorem B72 {K : Frag} {c : Ct} {w : Wd} {env : PEnv} {σ : St} {j : Nat} {y : PyData} {r : List PyData} {Q : VK} (hK : c.K = K) (E : EnvOk c w env σ) (e : env[j]? = some (some (.own (y :: r)))) (k : ∀ v w', EnvOk c w' (env.set j (some (.own r))) σ -> w'.F = w.F -> Den K w'.F v y -> Q v w'.H) : C0q K j σ w.H Q := by
  subst hK
  obtain ⟨v, g0, l, vs, ev, h1, h2, h3, h4, h5⟩ := E.at' j _ e
  subst ev
  cases h5 with
  | cons hd tl =>
    rename_i u us
    refine ⟨_, g0, .inl ⟨rfl, _, SqL.of h1⟩, l, u :: us, 0, 0, u, rfl, rfl, h1, by decide, by decide, ?_, rfl, ?_⟩
    · exact B7k (k := 0) (len := (u :: us).length) (by simp)
    · exact k u ⟨w.M, upd w.H l (.lst us), w.F⟩ (E.write e g0 h1 h2 h3 h4 tl) rfl hd
def B07 (i j : Nat) (D : PEnds) (env : PEnv) : Prop := J8 env[j]? fun ys => ∃ y r, ys = y :: r /\ D.nx ((env.set j (some (.own r))).set i (some (.d y)))
instance rs_pop0 {K : Frag} {i j : Nat} : RS K (tAsg (tBM K "list" A5x (tVar j) (L9 (tC (.int 0)) tNil)) (U5 i)) (B07 i j) where
  ok := by
    rintro c w env σ Dp D rfl E h p
    unfold B07 J8 at p
    split at p
    · rename_i ys e
      obtain ⟨y, r, rfl, p⟩ := p
      refine B72 (c := c) rfl E e fun v w' E' f d => ?_
      exact h.nx _ _ w' (E'.set (s := .d y) d (fun _ z => nomatch z)) (by rw [f]; exact Same.refl _) p
    · exact p.elim
def A6p (i j a b : Nat) (D : PEnds) (env : PEnv) : Prop := a ≠ b /\ J8 env[a]? fun xs => J8 env[b]? fun ys => ∃ x r y t, xs = x :: r /\ ys = y :: t /\ D.nx ((((env.set a (some (.own r))).set b (some (.own t))).set i (some (.d x))).set j (some (.d y)))
def B50 (i j : Nat) (pa : PEnv -> (OT -> PEnv -> Prop) -> Prop) (D : PEnds) (env : PEnv) : Prop := pa env fun t e => ∃ a b xs ys, t = .cons (.nd true a (C6 xs)) (.cons (.nd true b (C6 ys)) .nil) /\ i ≠ j /\ D.nx ((e.set i (some (.own xs))).set j (some (.own ys)))
instance rs_parO {K : Frag} {i j : Nat} {ta : TA} {pa : PEnv -> (OT -> PEnv -> Prop) -> Prop} [ha : RAt K ta pa] : RS K (B63 i j ta) (B50 i j pa) where
  ok := by
    rintro c w env σ Dp D rfl E h p
    refine ha.ok c w env σ _ _ rfl E p fun vs t e1 w1 E1 l1 ht ho hn ⟨a, b, xs, ys, et, hij, q⟩ => ?_
    subst et
    obtain ⟨v, r, rfl, ⟨ev, us, h1, d1⟩, v2, r2, e2, ⟨ev2, us2, h2, d2⟩, e3⟩ := ht
    cases (show r2 = [] from e3)
    subst e2
    cases ev
    cases ev2
    have fpe : (OT.cons (.nd true a (C6 xs)) (.cons (.nd true b (C6 ys)) .nil)).fp = [a, b] := by
      show (a :: (C6 xs).fp) ++ ((b :: (C6 ys).fp) ++ []) = [a, b]
      rw [M3, M3]; rfl
    unfold Own at ho
    unfold NewT at hn
    rw [fpe] at ho hn
    obtain ⟨ha1, hb1⟩ := And.intro (ho.1 a (by simp)) (ho.1 b (by simp))
    have hab : a ≠ b := by have := ho.2; simp at this; exact this
    have na := hn a (by simp)
    have nb := hn b (by simp)
    refine ⟨.ref a, .ref b, rfl, ?_⟩
    have E2 := E1.set (i := i) (v := .ref a) (s := .own xs) ⟨a, us, rfl, h1, ha1.2.1, ha1.2.2.1, ha1.2.2.2, J9 d1⟩ (fun z f => by
      cases (show V.ref a = .ref z from f); exact na)
    have hl := E1.len
    have E3 := E2.set (i := j) (v := .ref b) (s := .own ys) ⟨b, us2, rfl, h2, hb1.2.1, hb1.2.2.1, hb1.2.2.2, J9 d2⟩ (fun z f => by
      cases (show V.ref b = .ref z from f)
      refine ⟨fun k s u q1 q2 f => ?_, nb.2⟩
      rw [List.getElem?_set] at q1 q2
      split at q1
      · rename_i z
        subst z
        rw [if_pos rfl] at q2
        split at q1
        · split at q2
          · cases q1; cases q2
            exact hab (V.ref.inj (show V.ref a = .ref b from f))
          · cases q2
        · cases q1
      · rename_i z
        rw [if_neg z] at q2
        exact nb.1 k s u q1 q2 f)
    exact h.nx _ _ w1 E3 l1.f q
def OT.lks : OT -> Bool
  | .nil => true
  | .cons (.nd true _ _) t => t.lks
  | _ => false
def A63 (i j : Nat) (D : PEnds) (env : PEnv) : Prop := asTr env[i]? fun t => i ≠ j /\ j < env.length /\ ∃ a ks, t = .nd true a ks /\ ks.lks = true /\ D.nx ((env.set i none).set j none)
def A10 (pe : PX) (pr : PAs) (env : PEnv) (Q : List SV -> PEnv -> Prop) : Prop := pe env fun s e1 => isSt (some (some s)) (pr e1 fun as e2 => Q (.st :: as) e2)
instance (priority := low) ram_stE {K : Frag} {md : List Md} {te : TE} {tr : TA} {pe : PX} {pr : PAs} [he : RE K te pe] [hr : RAm K md tr pr] : RAm K (.st :: md) (L9 te tr) (A10 pe pr) where
  ok := by
    rintro c w env σ Qp Q rfl E p k
    refine he.ok c w env σ _ _ rfl E p fun v s e1 w1 R q1 => ?_
    unfold isSt at q1
    split at q1
    · rename_i e
      cases e
      refine hr.ok c w1 e1 σ _ _ rfl R.ev q1 fun vs xs e2 w2 E2 l2 v2 q2 => ?_
      obtain ⟨q, e', hm⟩ := R.val
      exact k _ _ e2 w2 E2 (R.lw.trans l2) (.st ⟨q, e', l2.m _ hm⟩ v2) q2
    · exact q1.elim
def B2k (pa : PDt) (env : PEnv) (Q : SV -> PEnv -> Prop) : Prop := pa env fun d e => B46 d /\ Q (.d (.str d.shown)) e
end Pu
namespace L2
open PySem
end L2
namespace L2
open PySem PySem.Spec PyProof.Rows
def A15 : List (Key × V) -> Key -> Option V
  | [], _ => none
  | p :: r, k => if p.1 = k then some p.2 else A15 r k
theorem KV.look {kvs : List (Key × V)} {vs : List (Key × Value)} (r : KV kvs vs) (k : Key) : RelO (A15 kvs k) (valueAt vs k) := by
  unfold KV at r
  induction r with
  | nil => exact True.intro
  | @cons p q ps qs h t ih =>
    obtain ⟨h1, h2⟩ := h
    unfold A15
    by_cases e : p.1 = k
    · rw [if_pos e, show valueAt (q :: qs) k = some q.2 by simp [valueAt, List.find?_cons, h1.symm.trans e]]
      exact h2
    · have hq : ¬ q.1 = k := fun z => e (h1.trans z)
      rw [if_neg e, show valueAt (q :: qs) k = valueAt qs k by simp [valueAt, List.find?_cons, hq]]
      exact ih
section
variable {X : Cx} {pos : Pos}
def tDk (td ty : TE) : TE := fun σ H Q => td σ H fun x H1 => ty σ H1 fun y H2 => ∃ a kvs k v, x = .ref a /\ y = kV k /\ H2 a = some (.dK kvs) /\ A15 kvs k = some v /\ Q v H2
theorem B19 {o i : Expr} {td ty : TE} (ho : QE X o td) (hi : QE X i ty) (hs : ∀ ov iv, subscripted i false ov iv = operate [ov, iv] (getItem ov iv)) : QE X (.Subscript o i pos) (tDk td ty) := by
  refine ⟨fun pins s σ H Q I h => ?_⟩
  refine Subscript_ (thn (ho.out pins s σ H _ I h) fun u s1 ⟨x, H1, I1, rx, q1⟩ => thn (hi.out pins s1 σ H1 _ I1 q1) fun iv s2 ⟨y, H2, I2, ry, a, kvs, k, v, ex, ey, e, l, q2⟩ => ?_)
  subst ex ey
  obtain rfl : u = Value.ref a := rx
  obtain ⟨z, hd, vs, rel, dd⟩ : kvs.length <= sizeLine /\ (a == sysModules) = false /\ ∃ vs, KV kvs vs /\ s2.heap.DictOf (K9 X.prog X.w) a vs := I2.hok a _ e
  have hT := dd.typeIs
  unfold subscriptTail
  refine wpAny_bind ?_
  rw [getitemInPython_of_ne hT.not_modules]
  refine wpAny_bind (wpAny_specialOf hT PySem.F.slot_dict_getitem.lookup ?_)
  have fin : wpAny (model X.prog X.w) X.A (subscripted i false (.ref a) iv) (fun r s₃ => wpAny (model X.prog X.w) X.A (letTemporaryGo o (.ref a) r >>= fun _ => pure r) (EP X pins σ Q) X.xe s₃) X.xe s2 := by
    rw [hs (.ref a) iv]
    obtain ⟨w', hw, rw'⟩ := RelO.some_of (v := v) (o := valueAt vs k) (by rw [<- l]; exact rel.look k)
    exact wpAny_operating (wpAny_getItem_of (B37 ry) dd.mapOf hw (wpAny_bind (wpAny_letTemporaryGo (wpAny_pure ⟨v, H2, I2.tok _, rw', q2⟩))))
  first
    | exact wpAny_pure (wpAny_bind fin)
    | exact wpAny_bind (wpAny_pure (wpAny_bind fin))
    | exact wpAny_bind fin
def tDN (kvs : List (Key × V)) : TE := fun _ H Q => ∀ p, H p = none -> Q (.ref p) (upd H p (.dK kvs))
inductive QKs (X : Cx) : List (Option Expr) -> List Expr -> List (Key × V) -> Prop
  | nil : QKs X [] [] []
  | cons {k v : Expr} {ks : List (Option Expr)} {vs : List Expr} {key : Key} {y : V} {kvs : List (Key × V)} : QE X k (tC (kV key)) -> QE X v (tC y) -> QKs X ks vs kvs -> QKs X (some k :: ks) (v :: vs) ((key, y) :: kvs)
theorem QKs.len {ks : List (Option Expr)} {vs : List Expr} {kvs : List (Key × V)} (h : QKs X ks vs kvs) : ks.length = kvs.length /\ vs.length = kvs.length /\ ks.all (·.isSome) = true := by
  induction h with
  | nil => exact ⟨rfl, rfl, rfl⟩
  | cons _ _ _ ih => exact ⟨by simp [ih.1], by simp [ih.2.1], by simpa using ih.2.2⟩
theorem QKs.walk {ks : List (Option Expr)} {vs : List Expr} {kvs : List (Key × V)} {pins : List (Addr × Obj)} {σ : St} {H : Hp} (h : QKs X ks vs kvs) : ∀ {s : Shared}, Inv X pins σ H s ->
    wpAny (model X.prog X.w) X.A (evalPairs (pairTrees ks vs X.env pos)) (fun r s3 => ∃ ws, Carries (K9 X.prog X.w) r ws /\ KV kvs ws /\ Inv X pins σ H s3) X.xe s := by
  induction h with
  | nil => intro s I; exact pairTrees_nil_walk ⟨[], True.intro, .nil, I⟩
  | @cons k v ks vs key y kvs hk hv _ ih =>
    intro s I
    refine pairTrees_cons_walk (thn (hk.out pins s σ H (fun x H1 => x = kV key /\ H1 = H) I ⟨rfl, rfl⟩) fun u s1 ⟨x, H1, I1, rx, ex, eH⟩ => ?_)
    subst ex eH
    refine thn (hv.out pins s1 σ _ (fun x H2 => x = y /\ H2 = H1) I1 ⟨rfl, rfl⟩) fun u2 s2 ⟨x2, H2, I2, rx2, ex2, eH2⟩ => ?_
    subst ex2 eH2
    exact thn (ih I2) fun r s3 ⟨ws, c, kv, I3⟩ => ⟨(key, u2) :: ws, ⟨B37 rx, rfl, c⟩, .cons ⟨rfl, rx2⟩ kv, I3⟩
theorem KV.keys {kvs : List (Key × V)} {ws : List (Key × Value)} (r : KV kvs ws) : ws.map (·.1) = kvs.map (·.1) := by
  unfold KV at r
  induction r with
  | nil => rfl
  | cons h _ ih => rw [List.map_cons, List.map_cons, ih, h.1]
theorem B7r {ks : List (Option Expr)} {vs : List Expr} {kvs : List (Key × V)} (h : QKs X ks vs kvs) (nd : (kvs.map (·.1)).Nodup) (h0 : 1 <= kvs.length) (h15 : kvs.length <= 15) : QE X (.Dict ks vs pos) (tDN kvs) := by
  refine ⟨fun pins s σ H Q I q => ?_⟩
  obtain ⟨l1, l2, al⟩ := h.len
  have hn := I.hok.fresh (Nat.le_refl s.heap.objs.size)
  have I1 := I.laid (a := s.heap.objs.size) (o := .dK []) (h' := s.heap.push { cls := .type "dict", data := .dict #[] }) (t' := s.toks) (fun _ _ q => Heap.get?_push_of_some _ q) (Nat.le_refl _) (B6s s.heap (B64 I))
  refine wpAny_Dict_walk (knd := K9 X.prog X.w) (keys := ks) (values := vs) al (by omega) (fun z => by rw [z] at l1; simp at l1; omega) (by omega) ?_
  refine thn (h.walk I1) fun r s2 ⟨ws, c, kv, I3⟩ => ?_
  have e : upd H s.heap.objs.size (.dK []) s.heap.objs.size = some (.dK []) := C9
  obtain ⟨z, hd, vs0, r0, dd⟩ : ([] : List (Key × V)).length <= sizeLine /\ (s.heap.objs.size == sysModules) = false /\ ∃ vs, KV ([] : List (Key × V)) vs /\ s2.heap.DictOf (K9 X.prog X.w) s.heap.objs.size vs := I3.hok _ _ e
  cases r0
  refine ⟨ws, c, dd, fun h' dd' hs => ⟨.ref s.heap.objs.size, upd H s.heap.objs.size (.dK kvs), ?_, rfl, q _ hn⟩⟩
  rw [merged_nil_of_nodup ws (by rw [kv.keys]; exact nd)] at dd'
  have he : ∃ q, h'.get? s.heap.objs.size = some q := let ⟨q, _, _, hq, _⟩ := dd'; ⟨q, hq⟩
  rw [<- B4r (a := .dK [])]
  exact I3.write (x := s.heap.objs.size) (e := s.heap.objs.size) (o := .dK kvs) (by rw [e]; exact True.intro) (.inl rfl) (fun b q hb z => (hs.2 b hb).trans z) he ⟨Nat.le_trans h15 (by decide), hd, _, kv, dd'⟩
end
end L2
namespace Pu
open PySem L2 My Prf
def pDN (kvs : List (Key × V)) (env : PEnv) (Q : SV -> PEnv -> Prop) : Prop := Q (.d (.dict (kvs.map A2b))) env
instance re_dN {K : Frag} {kvs : List (Key × V)} : RE K (tDN kvs) (pDN kvs) where
  ok := by
    rintro c w env σ Qp Q rfl E p k
    intro a ha
    exact k _ _ env _ (Res.dct E ha) p
def A16 : List (PyData × PyData) -> Str -> Option PyData
  | [], _ => none
  | (.str x, z) :: r, s => if x = s then some z else A16 r s
  | _ :: r, s => A16 r s
theorem Z4 {s t : Str} : ∀ {kvs : List (Key × V)}, A16 (kvs.map A2b) s = some (.str t) -> A15 kvs (.inr s) = some (.str t)
  | [], h => by cases h
  | (.inl i, v) :: r, h => by
    have h' : A16 (r.map A2b) s = some (.str t) := h
    show (if (Sum.inl i : Key) = .inr s then some v else A15 r (.inr s)) = _
    rw [if_neg (fun z => by cases z)]
    exact Z4 h'
  | (.inr x, v) :: r, h => by
    have h' : (if x = s then some (encV v) else A16 (r.map A2b) s) = some (.str t) := h
    show (if (Sum.inr x : Key) = .inr s then some v else A15 r (.inr s)) = _
    by_cases e : x = s
    · rw [if_pos e] at h'
      rw [if_pos (by rw [e])]
      have h2 := Option.some.inj h'
      cases v <;> simp [encV] at h2
      rw [h2]
    · rw [if_neg e] at h'
      rw [if_neg (fun z => e (Sum.inr.inj z))]
      exact Z4 h'
def pDk (pa pb : PDt) (env : PEnv) (Q : SV -> PEnv -> Prop) : Prop := pa env fun x e => pb e fun y e2 => ∃ ds s t, x = .dict ds /\ y = .str s /\ A16 ds s = some (.str t) /\ Q (.d (.str t)) e2
instance re_dk {K : Frag} {td ty : TE} {pa pb : PDt} [ha : RW K td pa] [hb : RW K ty pb] : RE K (tDk td ty) (pDk pa pb) where
  ok := by
    rintro c w env σ Qp Q rfl E p k
    refine ha.ok c w env σ _ _ rfl E p fun x dx e1 w1 E1 l1 v1 q1 => ?_
    refine hb.ok c w1 e1 σ _ _ rfl E1 q1 fun y dy e2 w2 E2 l2 v2 q2 => ?_
    obtain ⟨ds, s, t, rfl, rfl, l, q⟩ := q2
    have hy : y = .str s := by
      rcases v2 with h | ⟨_, _, _, _, e', _⟩
      · exact Den.strE h
      · cases e'
    rcases (v1.mono l2) with h | ⟨_, _, _, _, e', _⟩
    · cases h with
      | dct h => exact ⟨_, _, .inr s, .str t, rfl, hy, E2.wok.sub _ _ h, Z4 l, k _ _ e2 w2 ((Res.data E2 (.str t)).pre (l1.trans l2)) q⟩
    · cases e'
end Pu
set_option synthInstance.maxHeartbeats 0
set_option synthInstance.maxSize 100000
set_option maxHeartbeats 4000000
namespace Prf
open PySem L2 My Pu
local macro_rules | `(tactic| trivial) => `(tactic| try simp only [pSeq, B55, B27, B8y, A6q, B8w, pRet, A6o, A72, A71, A70, A7z, B8m, pIf, pAsg, B84, B2l, B3n, pApp, B0k, A3d, B8o, B06, C0n, pYes, pNot, pAnd, pOr, B51, B6b, pOrV, pIfE, pOp, pI_i, B8s, pEqD, pNeD, pIsN, B52, A01, A32, A03, A31, A02, A30, B2p, B2o, pU_i, pUn, pNil, B08, pTup, pLst, pCB, A6u, A0t, A28, B3b, B2n, B2m, B2y, B2z, A26, A25, B2x, B3o, A5h, A2m, A5g, A2j, A2k, A5f, A5i, B2f, B3h, B3g, B3f, A6j, A7o, A7n, A7p, pC, pdat, C0m, C0l, A7c, B54, A68, A66, A3c, C0g, B39, A51, A2y, Y7, O6, A2x, A23, B58, A3b, A3j, A3i, A3k, A4p, X6, A1q, A1r, A6n, A7y, A6m, A7x, pFor, A69, W2, F9, SV.lent, A1y, B5z, C0h, pSlL, pRev, A6l, A7w, B25, B3a, B29, A62, List.map_cons, List.map_nil, List.replicate_succ, List.replicate_zero, List.cons_append, List.nil_append, List.getElem?_cons_zero, List.getElem?_cons_succ, List.set_cons_zero, List.set_cons_succ, List.length_cons, List.length_nil, B6a, B59, B8v, B8u, Option.bind_some, Option.bind_none, Option.map_some, Option.map_none, Option.join_some, A60, A6z, A8l, A3t, A3s, A90, A4c, A9y, A4b, B3r, B4m, Z7, B4h, A07, A06, A9h, B12, decide_eq_true_eq, Bool.not_eq_true', decide_eq_false_iff_not, ite_not, true_and, and_true, reduceIte, Nat.zero_le, Nat.reduceAdd, Nat.reduceLeDiff, Nat.reduceSub, Int.zero_add, A3a, A29, List.length_map, A5d, B3d, A5j, A9n, A9u, A8k, A9z, B3t, B33, B36, B32, B35, B3w, B30, B3z, B3u, B3v, B3x, Bool.true_eq_false, Bool.false_eq_true, reduceCtorEq, Bool.not_true, Bool.not_false, decide_true, decide_false, B2e, B3e, A64, A8c, pLsN, pLsC, B57, A6t, A78, A77, A79, A17, A91, A9v, A33, eq_self, B8d, X5, A1p, A39, A9s, A3z, A3w, A3y, A3v, A3x, A3u, B31, B34, B3y, B8j, A67, B53, ot_d, ot_o, ot_t, A3e, A6k, A7s, A7r, A7t, A7q, pKid, A7a, B4p, B5u, C0k, C0j, C0i, pTr, B2i, B3l, B3k, B3m, B22, B2g, B3j, B3i, A7d, A8d, A0c, A50, A35, B2w, A3m, B21, A76, A75, A74, B8q, pIn, A84, A85, A82, A83, A9c, A9d, A9a, A9b, A8w, A8x, A8u, A8v, A8s, A8t, A8q, A8r, A80, A81, A8y, A8z, A8o, A8p, A8m, A8n, A88, A89, A86, A87, A2l, C0f, B2v, pS, B81, B2t, B2q, B2s, B2u, B2r, A6y, A6v, A6x, A6w, B8r, B8i, B8x, B24, pRep, A6s, B20, pIdx, B8n, B8g, B2h, pStr, B8f, A7b, B85, B2a, A6r, pSlT, B8p, A8b, A8a, pPth, pVw, A5e, pLf, A8i, pBr, pMuV, B9e, B2j, pA2, B9z, pC2, pMu, B3c, B28, A65, B16, B23, O8, pDa, B80, B86, B8h, B9k, mIx, B4a, B3q, pUnT, B60, A0h, A5u, B26, pCmT, B8e, B5x, A7v, B07, A6p, B50, A63, B2k, A7e, A10, pDN, pDk])
local macro_rules | `(tactic| nofun) => `(tactic| try simp -implicitDefEqProofs only [pSeq, B55, B27, B8y, A6q, B8w, pRet, A6o, A72, A71, A70, A7z, B8m, pIf, pAsg, B84, B2l, B3n, pApp, B0k, A3d, B8o, B06, C0n, pYes, pNot, pAnd, pOr, B51, B6b, pOrV, pIfE, pOp, pI_i, B8s, pEqD, pNeD, pIsN, B52, A01, A32, A03, A31, A02, A30, B2p, B2o, pU_i, pUn, pNil, B08, pTup, pLst, pCB, A6u, A0t, A28, B3b, B2n, B2m, B2y, B2z, A26, A25, B2x, B3o, A5h, A2m, A5g, A2j, A2k, A5f, A5i, B2f, B3h, B3g, B3f, A6j, A7o, A7n, A7p, pC, pdat, C0m, C0l, A7c, B54, A68, A66, A3c, C0g, B39, A51, A2y, Y7, O6, A2x, A23, B58, A3b, A3j, A3i, A3k, A4p, X6, A1q, A1r, A6n, A7y, A6m, A7x, pFor, A69, W2, F9, SV.lent, A1y, B5z, C0h, pSlL, pRev, A6l, A7w, B25, B3a, B29, A62, List.map_cons, List.map_nil, List.replicate_succ, List.replicate_zero, List.cons_append, List.nil_append, List.getElem?_cons_zero, List.getElem?_cons_succ, List.set_cons_zero, List.set_cons_succ, List.length_cons, List.length_nil, B6a, B59, B8v, B8u, Option.bind_some, Option.bind_none, Option.map_some, Option.map_none, Option.join_some, A60, A6z, A8l, A3t, A3s, A90, A4c, A9y, A4b, B3r, B4m, Z7, B4h, A07, A06, A9h, B12, decide_eq_true_eq, Bool.not_eq_true', decide_eq_false_iff_not, ite_not, true_and, and_true, reduceIte, Nat.zero_le, Nat.reduceAdd, Nat.reduceLeDiff, Nat.reduceSub, Int.zero_add, A3a, A29, List.length_map, A5d, B3d, A5j, A9n, A9u, A8k, A9z, B3t, B33, B36, B32, B35, B3w, B30, B3z, B3u, B3v, B3x, Bool.true_eq_false, Bool.false_eq_true, reduceCtorEq, Bool.not_true, Bool.not_false, decide_true, decide_false, B2e, B3e, A64, A8c, pLsN, pLsC, B57, A6t, A78, A77, A79, A17, A91, A9v, A33, eq_self, B8d, X5, A1p, A39, A9s, A3z, A3w, A3y, A3v, A3x, A3u, B31, B34, B3y, B8j, A67, B53, ot_d, ot_o, ot_t, A3e, A6k, A7s, A7r, A7t, A7q, pKid, A7a, B4p, B5u, C0k, C0j, C0i, pTr, B2i, B3l, B3k, B3m, B22, B2g, B3j, B3i, A7d, A8d, A0c, A50, A35, B2w, A3m, B21, A76, A75, A74, B8q, pIn, A84, A85, A82, A83, A9c, A9d, A9a, A9b, A8w, A8x, A8u, A8v, A8s, A8t, A8q, A8r, A80, A81, A8y, A8z, A8o, A8p, A8m, A8n, A88, A89, A86, A87, A2l, C0f, B2v, pS, B81, B2t, B2q, B2s, B2u, B2r, A6y, A6v, A6x, A6w, B8r, B8i, B8x, B24, pRep, A6s, B20, pIdx, B8n, B8g, B2h, pStr, B8f, A7b, B85, B2a, A6r, pSlT, B8p, A8b, A8a, pPth, pVw, A5e, pLf, A8i, pBr, pMuV, B9e, B2j, pA2, B9z, pC2, pMu, B3c, B28, A65, B16, B23, O8, pDa, B80, B86, B8h, B9k, mIx, B4a, B3q, pUnT, B60, A0h, A5u, B26, pCmT, B8e, B5x, A7v, B07, A6p, B50, A63, B2k, A7e, A10, pDN, pDk])
set_option genInjectivity false
set_option genSizeOfSpec false
structure Adr where
  a_commonpart : Addr
  d_commonpart : FuncData
  a_plus : Addr
  d_plus : FuncData
  a_minus : Addr
  d_minus : FuncData
  a_product : Addr
  d_product : FuncData
  a_parted : Addr
  d_parted : FuncData
  a_isless : Addr
  d_isless : FuncData
  a_between : Addr
  d_between : FuncData
  a_sharebetween : Addr
  d_sharebetween : FuncData
  a_pieceat : Addr
  d_pieceat : FuncData
  a_priceat : Addr
  d_priceat : FuncData
  a_mergedwholes : Addr
  d_mergedwholes : FuncData
  a_wordat : Addr
  d_wordat : FuncData
  a_crossingbetween : Addr
  d_crossingbetween : FuncData
  a_turningwholes : Addr
  d_turningwholes : FuncData
  a_sidebyside : Addr
  d_sidebyside : FuncData
  a_Lbegun : Addr
  d_Lbegun : FuncData
  a_Ltake : Addr
  d_Ltake : FuncData
  a_Llow : Addr
  d_Llow : FuncData
  a_Lplus : Addr
  d_Lplus : FuncData
  a_Lminus : Addr
  d_Lminus : FuncData
  a_Ltimes : Addr
  d_Ltimes : FuncData
  a_Lunder : Addr
  d_Lunder : FuncData
  a_Lamount : Addr
  d_Lamount : FuncData
  a_Lshape : Addr
  d_Lshape : FuncData
  a_Lparted : Addr
  d_Lparted : FuncData
  a_Lfall : Addr
  d_Lfall : FuncData
  a_Lprice : Addr
  d_Lprice : FuncData
  a_Lword : Addr
  d_Lword : FuncData
  a_Ltoldword : Addr
  d_Ltoldword : FuncData
  a_Lahead : Addr
  d_Lahead : FuncData
  a_Lline : Addr
  d_Lline : FuncData
  a_Lcrossings : Addr
  d_Lcrossings : FuncData
  a_Lspots : Addr
  d_Lspots : FuncData
  a_Linform : Addr
  d_Linform : FuncData
  a_Lright : Addr
  d_Lright : FuncData
  a_law : Addr
  d_law : FuncData
  k_NOUGHT : Addr
  k_HALF : Addr
  k_ONE : Addr
structure Txt (K : PySem.W.Frag) (mg : Str -> Option Value) (D : Adr) : Prop where
  F_commonpart : Fun K "common_part" "common_part" s_commonpart D.a_commonpart D.d_commonpart
  m_commonpart : mg "common_part" = some (.ref D.a_commonpart)
  F_plus : Fun K "plus" "plus" s_plus D.a_plus D.d_plus
  m_plus : mg "plus" = some (.ref D.a_plus)
  F_minus : Fun K "minus" "minus" s_minus D.a_minus D.d_minus
  m_minus : mg "minus" = some (.ref D.a_minus)
  F_product : Fun K "product" "product" s_product D.a_product D.d_product
  m_product : mg "product" = some (.ref D.a_product)
  F_parted : Fun K "parted" "parted" s_parted D.a_parted D.d_parted
  m_parted : mg "parted" = some (.ref D.a_parted)
  F_isless : Fun K "is_less" "is_less" s_isless D.a_isless D.d_isless
  m_isless : mg "is_less" = some (.ref D.a_isless)
  F_between : Fun K "between" "between" s_between D.a_between D.d_between
  m_between : mg "between" = some (.ref D.a_between)
  F_sharebetween : Fun K "share_between" "share_between" s_sharebetween D.a_sharebetween D.d_sharebetween
  m_sharebetween : mg "share_between" = some (.ref D.a_sharebetween)
  F_pieceat : Fun K "piece_at" "piece_at" s_pieceat D.a_pieceat D.d_pieceat
  m_pieceat : mg "piece_at" = some (.ref D.a_pieceat)
  F_priceat : Fun K "price_at" "price_at" s_priceat D.a_priceat D.d_priceat
  m_priceat : mg "price_at" = some (.ref D.a_priceat)
  F_mergedwholes : Fun K "merged_wholes" "merged_wholes" s_mergedwholes D.a_mergedwholes D.d_mergedwholes
  m_mergedwholes : mg "merged_wholes" = some (.ref D.a_mergedwholes)
  F_wordat : Fun K "word_at" "word_at" s_wordat D.a_wordat D.d_wordat
  m_wordat : mg "word_at" = some (.ref D.a_wordat)
  F_crossingbetween : Fun K "crossing_between" "crossing_between" s_crossingbetween D.a_crossingbetween D.d_crossingbetween
  m_crossingbetween : mg "crossing_between" = some (.ref D.a_crossingbetween)
  F_turningwholes : Fun K "turning_wholes" "turning_wholes" s_turningwholes D.a_turningwholes D.d_turningwholes
  m_turningwholes : mg "turning_wholes" = some (.ref D.a_turningwholes)
  F_sidebyside : Fun K "side_by_side" "side_by_side" s_sidebyside D.a_sidebyside D.d_sidebyside
  m_sidebyside : mg "side_by_side" = some (.ref D.a_sidebyside)
  F_Lbegun : Fun K "_law_begun" "_law_begun" s_Lbegun D.a_Lbegun D.d_Lbegun
  m_Lbegun : mg "_law_begun" = some (.ref D.a_Lbegun)
  F_Ltake : Fun K "_law_take" "_law_take" s_Ltake D.a_Ltake D.d_Ltake
  m_Ltake : mg "_law_take" = some (.ref D.a_Ltake)
  F_Llow : Fun K "_law_low" "_law_low" s_Llow D.a_Llow D.d_Llow
  m_Llow : mg "_law_low" = some (.ref D.a_Llow)
  F_Lplus : Fun K "_law_plus" "_law_plus" s_Lplus D.a_Lplus D.d_Lplus
  m_Lplus : mg "_law_plus" = some (.ref D.a_Lplus)
  F_Lminus : Fun K "_law_minus" "_law_minus" s_Lminus D.a_Lminus D.d_Lminus
  m_Lminus : mg "_law_minus" = some (.ref D.a_Lminus)
  F_Ltimes : Fun K "_law_times" "_law_times" s_Ltimes D.a_Ltimes D.d_Ltimes
  m_Ltimes : mg "_law_times" = some (.ref D.a_Ltimes)
  F_Lunder : Fun K "_law_under" "_law_under" s_Lunder D.a_Lunder D.d_Lunder
  m_Lunder : mg "_law_under" = some (.ref D.a_Lunder)
  F_Lamount : Fun K "_law_amount" "_law_amount" s_Lamount D.a_Lamount D.d_Lamount
  m_Lamount : mg "_law_amount" = some (.ref D.a_Lamount)
  F_Lshape : Fun K "_law_shape" "_law_shape" s_Lshape D.a_Lshape D.d_Lshape
  m_Lshape : mg "_law_shape" = some (.ref D.a_Lshape)
  F_Lparted : Fun K "_law_parted" "_law_parted" s_Lparted D.a_Lparted D.d_Lparted
  m_Lparted : mg "_law_parted" = some (.ref D.a_Lparted)
  F_Lfall : Fun K "_law_fall" "_law_fall" s_Lfall D.a_Lfall D.d_Lfall
  m_Lfall : mg "_law_fall" = some (.ref D.a_Lfall)
  F_Lprice : Fun K "_law_price" "_law_price" s_Lprice D.a_Lprice D.d_Lprice
  m_Lprice : mg "_law_price" = some (.ref D.a_Lprice)
  F_Lword : Fun K "_law_word" "_law_word" s_Lword D.a_Lword D.d_Lword
  m_Lword : mg "_law_word" = some (.ref D.a_Lword)
  F_Ltoldword : Fun K "_law_told_word" "_law_told_word" s_Ltoldword D.a_Ltoldword D.d_Ltoldword
  m_Ltoldword : mg "_law_told_word" = some (.ref D.a_Ltoldword)
  F_Lahead : Fun K "_law_ahead" "_law_ahead" s_Lahead D.a_Lahead D.d_Lahead
  m_Lahead : mg "_law_ahead" = some (.ref D.a_Lahead)
  F_Lline : Fun K "_law_line" "_law_line" s_Lline D.a_Lline D.d_Lline
  m_Lline : mg "_law_line" = some (.ref D.a_Lline)
  F_Lcrossings : Fun K "_law_crossings" "_law_crossings" s_Lcrossings D.a_Lcrossings D.d_Lcrossings
  m_Lcrossings : mg "_law_crossings" = some (.ref D.a_Lcrossings)
  F_Lspots : Fun K "_law_spots" "_law_spots" s_Lspots D.a_Lspots D.d_Lspots
  m_Lspots : mg "_law_spots" = some (.ref D.a_Lspots)
  F_Linform : Fun K "_law_in_form" "_law_in_form" s_Linform D.a_Linform D.d_Linform
  m_Linform : mg "_law_in_form" = some (.ref D.a_Linform)
  F_Lright : Fun K "_law_right" "_law_right" s_Lright D.a_Lright D.d_Lright
  m_Lright : mg "_law_right" = some (.ref D.a_Lright)
  F_law : Fun K "law" "law" s_law D.a_law D.d_law
  m_law : mg "law" = some (.ref D.a_law)
  c_NOUGHT : mg "NOUGHT" = some (.ref D.k_NOUGHT)
  c_HALF : mg "HALF" = some (.ref D.k_HALF)
  c_ONE : mg "ONE" = some (.ref D.k_ONE)
  z_abs : mg "abs" = none
  z_int : mg "int" = none
  z_isinstance : mg "isinstance" = none
  z_len : mg "len" = none
  z_list : mg "list" = none
  z_max : mg "max" = none
  z_min : mg "min" = none
  z_range : mg "range" = none
  z_tuple : mg "tuple" = none
  z_zip : mg "zip" = none
  c2_NOUGHT : Pu.GD K D.k_NOUGHT (dq 0)
  c2_HALF : Pu.GD K D.k_HALF (dq (Rat.divInt 1 2))
  c2_ONE : Pu.GD K D.k_ONE (dq 1)
abbrev sp_law := B43
section
variable {K : PySem.W.Frag} {mg : Str -> Option Value} {D : Adr}
theorem sc_commonpart : FnScope ["one", "other"] ["one", "other"] (A3 s_commonpart) := ⟨rfl, rfl, rfl, by decide +kernel, rfl, by decide +kernel, by decide +kernel⟩
theorem J1 (T : Txt K mg D) : Binds K D.d_commonpart ["one", "other"] [] := T.F_commonpart.binds (ps := ["one", "other"]) fun _ _ _ _ _ _ us hl => by obtain ⟨_, _, rfl⟩ := us2 hl; rfl
theorem sc_plus : FnScope ["one", "other", "shared", "mine", "theirs", "top", "rest"] ["one", "other"] (A3 s_plus) := ⟨rfl, rfl, rfl, by decide +kernel, rfl, by decide +kernel, by decide +kernel⟩
theorem B0f (T : Txt K mg D) : Binds K D.d_plus ["one", "other"] [] := T.F_plus.binds (ps := ["one", "other"]) fun _ _ _ _ _ _ us hl => by obtain ⟨_, _, rfl⟩ := us2 hl; rfl
theorem sc_minus : FnScope ["one", "other"] ["one", "other"] (A3 s_minus) := ⟨rfl, rfl, rfl, by decide +kernel, rfl, by decide +kernel, by decide +kernel⟩
theorem Z9 (T : Txt K mg D) : Binds K D.d_minus ["one", "other"] [] := T.F_minus.binds (ps := ["one", "other"]) fun _ _ _ _ _ _ us hl => by obtain ⟨_, _, rfl⟩ := us2 hl; rfl
theorem sc_product : FnScope ["one", "other", "mine", "theirs"] ["one", "other"] (A3 s_product) := ⟨rfl, rfl, rfl, by decide +kernel, rfl, by decide +kernel, by decide +kernel⟩
theorem A1m (T : Txt K mg D) : Binds K D.d_product ["one", "other"] [] := T.F_product.binds (ps := ["one", "other"]) fun _ _ _ _ _ _ us hl => by obtain ⟨_, _, rfl⟩ := us2 hl; rfl
theorem sc_parted : FnScope ["one", "other", "top", "bottom"] ["one", "other"] (A3 s_parted) := ⟨rfl, rfl, rfl, by decide +kernel, rfl, by decide +kernel, by decide +kernel⟩
theorem B1v (T : Txt K mg D) : Binds K D.d_parted ["one", "other"] [] := T.F_parted.binds (ps := ["one", "other"]) fun _ _ _ _ _ _ us hl => by obtain ⟨_, _, rfl⟩ := us2 hl; rfl
theorem sc_isless : FnScope ["one", "other"] ["one", "other"] (A3 s_isless) := ⟨rfl, rfl, rfl, by decide +kernel, rfl, by decide +kernel, by decide +kernel⟩
theorem A0a (T : Txt K mg D) : Binds K D.d_isless ["one", "other"] [] := T.F_isless.binds (ps := ["one", "other"]) fun _ _ _ _ _ _ us hl => by obtain ⟨_, _, rfl⟩ := us2 hl; rfl
theorem sc_between : FnScope ["one", "other", "share"] ["one", "other", "share"] (A3 s_between) := ⟨rfl, rfl, rfl, by decide +kernel, rfl, by decide +kernel, by decide +kernel⟩
theorem V2 (T : Txt K mg D) : Binds K D.d_between ["one", "other", "share"] [] := T.F_between.binds (ps := ["one", "other", "share"]) fun _ _ _ _ _ _ us hl => by obtain ⟨_, _, _, rfl⟩ := us3 hl; rfl
theorem sc_sharebetween : FnScope ["one", "other", "at"] ["one", "other", "at"] (A3 s_sharebetween) := ⟨rfl, rfl, rfl, by decide +kernel, rfl, by decide +kernel, by decide +kernel⟩
theorem N7 (T : Txt K mg D) : Binds K D.d_sharebetween ["one", "other", "at"] [] := T.F_sharebetween.binds (ps := ["one", "other", "at"]) fun _ _ _ _ _ _ us hl => by obtain ⟨_, _, _, rfl⟩ := us3 hl; rfl
theorem sc_pieceat : FnScope ["shape", "whole", "many"] ["shape", "whole"] (A3 s_pieceat) := ⟨rfl, rfl, rfl, by decide +kernel, rfl, by decide +kernel, by decide +kernel⟩
theorem B0g (T : Txt K mg D) : Binds K D.d_pieceat ["shape", "whole"] [] := T.F_pieceat.binds (ps := ["shape", "whole"]) fun _ _ _ _ _ _ us hl => by obtain ⟨_, _, rfl⟩ := us2 hl; rfl
theorem sc_priceat : FnScope ["shape", "whole", "at"] ["shape", "whole"] (A3 s_priceat) := ⟨rfl, rfl, rfl, by decide +kernel, rfl, by decide +kernel, by decide +kernel⟩
theorem P5 (T : Txt K mg D) : Binds K D.d_priceat ["shape", "whole"] [] := T.F_priceat.binds (ps := ["shape", "whole"]) fun _ _ _ _ _ _ us hl => by obtain ⟨_, _, rfl⟩ := us2 hl; rfl
theorem sc_mergedwholes : FnScope ["one", "other", "wholes", "left", "right", "whole"] ["one", "other"] (A3 s_mergedwholes) := ⟨rfl, rfl, rfl, by decide +kernel, rfl, by decide +kernel, by decide +kernel⟩
theorem V4 (T : Txt K mg D) : Binds K D.d_mergedwholes ["one", "other"] [] := T.F_mergedwholes.binds (ps := ["one", "other"]) fun _ _ _ _ _ _ us hl => by obtain ⟨_, _, rfl⟩ := us2 hl; rfl
theorem sc_wordat : FnScope ["one", "other", "whole", "mine", "theirs"] ["one", "other", "whole"] (A3 s_wordat) := ⟨rfl, rfl, rfl, by decide +kernel, rfl, by decide +kernel, by decide +kernel⟩
theorem T1 (T : Txt K mg D) : Binds K D.d_wordat ["one", "other", "whole"] [] := T.F_wordat.binds (ps := ["one", "other", "whole"]) fun _ _ _ _ _ _ us hl => by obtain ⟨_, _, _, rfl⟩ := us3 hl; rfl
theorem sc_crossingbetween : FnScope ["one", "other", "sooner", "later", "words", "gaps"] ["one", "other", "sooner", "later"] (A3 s_crossingbetween) := ⟨rfl, rfl, rfl, by decide +kernel, rfl, by decide +kernel, by decide +kernel⟩
theorem R1 (T : Txt K mg D) : Binds K D.d_crossingbetween ["one", "other", "sooner", "later"] [] := T.F_crossingbetween.binds (ps := ["one", "other", "sooner", "later"]) fun _ _ _ _ _ _ us hl => by obtain ⟨_, _, _, _, rfl⟩ := us4 hl; rfl
theorem sc_turningwholes : FnScope ["one", "other", "bent", "wholes", "sooner", "later", "crossing"] ["one", "other"] (A3 s_turningwholes) := ⟨rfl, rfl, rfl, by decide +kernel, rfl, by decide +kernel, by decide +kernel⟩
theorem V1 (T : Txt K mg D) : Binds K D.d_turningwholes ["one", "other"] [] := T.F_turningwholes.binds (ps := ["one", "other"]) fun _ _ _ _ _ _ us hl => by obtain ⟨_, _, rfl⟩ := us2 hl; rfl
theorem sc_sidebyside : FnScope ["one", "other", "wholes", "inner", "rows", "whole", "further", "there", "behind"] ["one", "other"] (A3 s_sidebyside) := ⟨rfl, rfl, rfl, by decide +kernel, rfl, by decide +kernel, by decide +kernel⟩
theorem M6 (T : Txt K mg D) : Binds K D.d_sidebyside ["one", "other"] [] := T.F_sidebyside.binds (ps := ["one", "other"]) fun _ _ _ _ _ _ us hl => by obtain ⟨_, _, rfl⟩ := us2 hl; rfl
theorem sc_Lbegun : FnScope ["_law_script", "_law_k", "_law_cell"] ["_law_script", "_law_k"] (A3 s_Lbegun) := ⟨rfl, rfl, rfl, by decide +kernel, rfl, by decide +kernel, by decide +kernel⟩
theorem A4n (T : Txt K mg D) : Binds K D.d_Lbegun ["_law_script", "_law_k"] [] := T.F_Lbegun.binds (ps := ["_law_script", "_law_k"]) fun _ _ _ _ _ _ us hl => by obtain ⟨_, _, rfl⟩ := us2 hl; rfl
theorem sc_Ltake : FnScope ["_law_state", "_law_many", "_law_digit", "_law_made", "_law_turn"] ["_law_state", "_law_many"] (A3 s_Ltake) := ⟨rfl, rfl, rfl, by decide +kernel, rfl, by decide +kernel, by decide +kernel⟩
theorem L4 (T : Txt K mg D) : Binds K D.d_Ltake ["_law_state", "_law_many"] [] := T.F_Ltake.binds (ps := ["_law_state", "_law_many"]) fun _ _ _ _ _ _ us hl => by obtain ⟨_, _, rfl⟩ := us2 hl; rfl
theorem sc_Llow : FnScope ["_law_top", "_law_bottom", "_law_one", "_law_other"] ["_law_top", "_law_bottom"] (A3 s_Llow) := ⟨rfl, rfl, rfl, by decide +kernel, rfl, by decide +kernel, by decide +kernel⟩
theorem X4 (T : Txt K mg D) : Binds K D.d_Llow ["_law_top", "_law_bottom"] [] := T.F_Llow.binds (ps := ["_law_top", "_law_bottom"]) fun _ _ _ _ _ _ us hl => by obtain ⟨_, _, rfl⟩ := us2 hl; rfl
theorem sc_Lplus : FnScope ["_law_one", "_law_other"] ["_law_one", "_law_other"] (A3 s_Lplus) := ⟨rfl, rfl, rfl, by decide +kernel, rfl, by decide +kernel, by decide +kernel⟩
theorem R3 (T : Txt K mg D) : Binds K D.d_Lplus ["_law_one", "_law_other"] [] := T.F_Lplus.binds (ps := ["_law_one", "_law_other"]) fun _ _ _ _ _ _ us hl => by obtain ⟨_, _, rfl⟩ := us2 hl; rfl
theorem sc_Lminus : FnScope ["_law_one", "_law_other"] ["_law_one", "_law_other"] (A3 s_Lminus) := ⟨rfl, rfl, rfl, by decide +kernel, rfl, by decide +kernel, by decide +kernel⟩
theorem L6 (T : Txt K mg D) : Binds K D.d_Lminus ["_law_one", "_law_other"] [] := T.F_Lminus.binds (ps := ["_law_one", "_law_other"]) fun _ _ _ _ _ _ us hl => by obtain ⟨_, _, rfl⟩ := us2 hl; rfl
theorem sc_Ltimes : FnScope ["_law_one", "_law_other"] ["_law_one", "_law_other"] (A3 s_Ltimes) := ⟨rfl, rfl, rfl, by decide +kernel, rfl, by decide +kernel, by decide +kernel⟩
theorem L3 (T : Txt K mg D) : Binds K D.d_Ltimes ["_law_one", "_law_other"] [] := T.F_Ltimes.binds (ps := ["_law_one", "_law_other"]) fun _ _ _ _ _ _ us hl => by obtain ⟨_, _, rfl⟩ := us2 hl; rfl
theorem sc_Lunder : FnScope ["_law_one", "_law_other"] ["_law_one", "_law_other"] (A3 s_Lunder) := ⟨rfl, rfl, rfl, by decide +kernel, rfl, by decide +kernel, by decide +kernel⟩
theorem F6 (T : Txt K mg D) : Binds K D.d_Lunder ["_law_one", "_law_other"] [] := T.F_Lunder.binds (ps := ["_law_one", "_law_other"]) fun _ _ _ _ _ _ us hl => by obtain ⟨_, _, rfl⟩ := us2 hl; rfl
theorem sc_Lamount : FnScope ["_law_state", "_law_plain", "_law_least", "_law_way", "_law_bottom"] ["_law_state", "_law_plain", "_law_least"] (A3 s_Lamount) := ⟨rfl, rfl, rfl, by decide +kernel, rfl, by decide +kernel, by decide +kernel⟩
theorem P6 (T : Txt K mg D) : Binds K D.d_Lamount ["_law_state", "_law_plain", "_law_least"] [] := T.F_Lamount.binds (ps := ["_law_state", "_law_plain", "_law_least"]) fun _ _ _ _ _ _ us hl => by obtain ⟨_, _, _, rfl⟩ := us3 hl; rfl
theorem sc_Lshape : FnScope ["_law_state", "_law_most", "_law_plain", "_law_gaps", "_law_whole", "_law_price_here", "_law_rate", "_law_falls", "_law_gap", "_law_bends", "_law_k"] ["_law_state", "_law_most", "_law_plain"] (A3 s_Lshape) := ⟨rfl, rfl, rfl, by decide +kernel, rfl, by decide +kernel, by decide +kernel⟩
theorem A4l (T : Txt K mg D) : Binds K D.d_Lshape ["_law_state", "_law_most", "_law_plain"] [] := T.F_Lshape.binds (ps := ["_law_state", "_law_most", "_law_plain"]) fun _ _ _ _ _ _ us hl => by obtain ⟨_, _, _, rfl⟩ := us3 hl; rfl
theorem sc_Lparted : FnScope ["_law_one", "_law_other"] ["_law_one", "_law_other"] (A3 s_Lparted) := ⟨rfl, rfl, rfl, by decide +kernel, rfl, by decide +kernel, by decide +kernel⟩
theorem A1n (T : Txt K mg D) : Binds K D.d_Lparted ["_law_one", "_law_other"] [] := T.F_Lparted.binds (ps := ["_law_one", "_law_other"]) fun _ _ _ _ _ _ us hl => by obtain ⟨_, _, rfl⟩ := us2 hl; rfl
theorem sc_Lfall : FnScope ["_law_one", "_law_other"] ["_law_one", "_law_other"] (A3 s_Lfall) := ⟨rfl, rfl, rfl, by decide +kernel, rfl, by decide +kernel, by decide +kernel⟩
theorem B0j (T : Txt K mg D) : Binds K D.d_Lfall ["_law_one", "_law_other"] [] := T.F_Lfall.binds (ps := ["_law_one", "_law_other"]) fun _ _ _ _ _ _ us hl => by obtain ⟨_, _, rfl⟩ := us2 hl; rfl
theorem sc_Lprice : FnScope ["_law_shape_here", "_law_whole", "_law_told", "_law_k", "_law_down"] ["_law_shape_here", "_law_whole"] (A3 s_Lprice) := ⟨rfl, rfl, rfl, by decide +kernel, rfl, by decide +kernel, by decide +kernel⟩
theorem A4m (T : Txt K mg D) : Binds K D.d_Lprice ["_law_shape_here", "_law_whole"] [] := T.F_Lprice.binds (ps := ["_law_shape_here", "_law_whole"]) fun _ _ _ _ _ _ us hl => by obtain ⟨_, _, rfl⟩ := us2 hl; rfl
theorem sc_Lword : FnScope ["_law_one", "_law_other", "_law_whole", "_law_mine", "_law_yours"] ["_law_one", "_law_other", "_law_whole"] (A3 s_Lword) := ⟨rfl, rfl, rfl, by decide +kernel, rfl, by decide +kernel, by decide +kernel⟩
theorem B6u (T : Txt K mg D) : Binds K D.d_Lword ["_law_one", "_law_other", "_law_whole"] [] := T.F_Lword.binds (ps := ["_law_one", "_law_other", "_law_whole"]) fun _ _ _ _ _ _ us hl => by obtain ⟨_, _, _, rfl⟩ := us3 hl; rfl
theorem sc_Ltoldword : FnScope ["_law_told", "_law_whole", "_law_word_here", "_law_begin", "_law_there", "_law_behind"] ["_law_told", "_law_whole"] (A3 s_Ltoldword) := ⟨rfl, rfl, rfl, by decide +kernel, rfl, by decide +kernel, by decide +kernel⟩
theorem A2g (T : Txt K mg D) : Binds K D.d_Ltoldword ["_law_told", "_law_whole"] [] := T.F_Ltoldword.binds (ps := ["_law_told", "_law_whole"]) fun _ _ _ _ _ _ us hl => by obtain ⟨_, _, rfl⟩ := us2 hl; rfl
theorem sc_Lahead : FnScope ["_law_shape_here", "_law_k", "_law_whole"] ["_law_shape_here", "_law_k", "_law_whole"] (A3 s_Lahead) := ⟨rfl, rfl, rfl, by decide +kernel, rfl, by decide +kernel, by decide +kernel⟩
theorem A4o (T : Txt K mg D) : Binds K D.d_Lahead ["_law_shape_here", "_law_k", "_law_whole"] [] := T.F_Lahead.binds (ps := ["_law_shape_here", "_law_k", "_law_whole"]) fun _ _ _ _ _ _ us hl => by obtain ⟨_, _, _, rfl⟩ := us3 hl; rfl
theorem sc_Lline : FnScope ["_law_shape_here", "_law_k", "_law_rate"] ["_law_shape_here", "_law_k"] (A3 s_Lline) := ⟨rfl, rfl, rfl, by decide +kernel, rfl, by decide +kernel, by decide +kernel⟩
theorem B0h (T : Txt K mg D) : Binds K D.d_Lline ["_law_shape_here", "_law_k"] [] := T.F_Lline.binds (ps := ["_law_shape_here", "_law_k"]) fun _ _ _ _ _ _ us hl => by obtain ⟨_, _, rfl⟩ := us2 hl; rfl
theorem sc_Lcrossings : FnScope ["_law_one", "_law_other", "_law_spots_here", "_law_k", "_law_j", "_law_mine", "_law_yours"] ["_law_one", "_law_other"] (A3 s_Lcrossings) := ⟨rfl, rfl, rfl, by decide +kernel, rfl, by decide +kernel, by decide +kernel⟩
theorem A1o (T : Txt K mg D) : Binds K D.d_Lcrossings ["_law_one", "_law_other"] [] := T.F_Lcrossings.binds (ps := ["_law_one", "_law_other"]) fun _ _ _ _ _ _ us hl => by obtain ⟨_, _, rfl⟩ := us2 hl; rfl
theorem sc_Lspots : FnScope ["_law_told", "_law_one", "_law_other", "_law_marks", "_law_spots_here", "_law_k"] ["_law_told", "_law_one", "_law_other"] (A3 s_Lspots) := ⟨rfl, rfl, rfl, by decide +kernel, rfl, by decide +kernel, by decide +kernel⟩
theorem B1w (T : Txt K mg D) : Binds K D.d_Lspots ["_law_told", "_law_one", "_law_other"] [] := T.F_Lspots.binds (ps := ["_law_told", "_law_one", "_law_other"]) fun _ _ _ _ _ _ us hl => by obtain ⟨_, _, _, rfl⟩ := us3 hl; rfl
theorem sc_Linform : FnScope ["_law_told", "_law_one", "_law_other", "_law_words", "_law_k", "_law_entry", "_law_first"] ["_law_told", "_law_one", "_law_other"] (A3 s_Linform) := ⟨rfl, rfl, rfl, by decide +kernel, rfl, by decide +kernel, by decide +kernel⟩
theorem B0i (T : Txt K mg D) : Binds K D.d_Linform ["_law_told", "_law_one", "_law_other"] [] := T.F_Linform.binds (ps := ["_law_told", "_law_one", "_law_other"]) fun _ _ _ _ _ _ us hl => by obtain ⟨_, _, _, rfl⟩ := us3 hl; rfl
theorem sc_Lright : FnScope ["_law_one", "_law_other", "_law_told", "_law_whole", "_law_other_way", "_law_due", "_law_held"] ["_law_one", "_law_other"] (A3 s_Lright) := ⟨rfl, rfl, rfl, by decide +kernel, rfl, by decide +kernel, by decide +kernel⟩
theorem B1x (T : Txt K mg D) : Binds K D.d_Lright ["_law_one", "_law_other"] [] := T.F_Lright.binds (ps := ["_law_one", "_law_other"]) fun _ _ _ _ _ _ us hl => by obtain ⟨_, _, rfl⟩ := us2 hl; rfl
theorem sc_law : FnScope ["_law_script", "_law_k", "_law_state", "_law_wide", "_law_plain", "_law_one", "_law_way", "_law_other", "_law_part", "_law_kept"] ["_law_script"] (A3 s_law) := ⟨rfl, rfl, rfl, by decide +kernel, rfl, by decide +kernel, by decide +kernel⟩
end
theorem smr0 : SmR 1 1 0 := ⟨by unfold Sm; decide, by unfold Sm; decide⟩
def On (B k : Nat) (q : Rat) : Prop := ∃ z : Int, q = Rat.divInt z (B : Int) /\ z.natAbs <= k * B
theorem On.mono {B k l : Nat} {q : Rat} (h : On B k q) (g : k <= l) : On B l q := let ⟨z, e, b⟩ := h; ⟨z, e, Nat.le_trans b (Nat.mul_le_mul_right _ g)⟩
theorem On.add {B k l : Nat} {p q : Rat} (hB : 0 < B) (h : On B k p) (g : On B l q) : On B (k + l) (p + q) := by
  obtain ⟨z, rfl, b⟩ := h
  obtain ⟨y, rfl, c⟩ := g
  have hn : (B : Int) ≠ 0 := by omega
  refine ⟨z + y, ?_, Nat.le_trans (Int.natAbs_add_le _ _) (by rw [Nat.add_mul]; omega)⟩
  rw [Rat.divInt_add_divInt _ _ hn hn, <- Int.add_mul, Rat.divInt_mul_right hn]
theorem On.neg {B k : Nat} {p : Rat} (h : On B k p) : On B k (-p) := by
  obtain ⟨z, rfl, b⟩ := h
  exact ⟨-z, by rw [Rat.neg_divInt], by rw [Int.natAbs_neg]; exact b⟩
theorem On.sub {B k l : Nat} {p q : Rat} (hB : 0 < B) (h : On B k p) (g : On B l q) : On B (k + l) (p - q) := by
  rw [Rat.sub_eq_add_neg]; exact h.add hB g.neg
theorem On.of {B a b : Nat} {q : Rat} (hB : 0 < B) (h : SmR a b q) (d : q.den ∣ B) : On B (2 ^ a) q := by
  obtain ⟨c, rfl⟩ := d
  have hd := q.den_pos
  by_cases hc : c = 0
  · subst hc; rw [Nat.mul_zero] at hB; exact absurd hB (Nat.lt_irrefl _)
  · refine ⟨q.num * c, ?_, ?_⟩
    · rw [Int.natCast_mul, Rat.divInt_mul_right (by omega), Rat.num_divInt_den]
    · rw [Int.natAbs_mul, Int.natAbs_natCast]
      have h1 : q.num.natAbs <= 2 ^ a := Nat.le_of_lt h.1
      exact Nat.mul_le_mul h1 (Nat.le_mul_of_pos_left _ hd)
theorem On.zero {B : Nat} : On B 0 0 := ⟨0, by rw [Rat.zero_divInt], by simp⟩
theorem On.up {B C k : Nat} {q : Rat} (hC : 0 < C) (h : On B k q) : On (B * C) k q := by
  obtain ⟨z, rfl, b⟩ := h
  refine ⟨z * C, by rw [Int.natCast_mul, Rat.divInt_mul_right (by omega)], ?_⟩
  rw [Int.natAbs_mul, Int.natAbs_natCast, <- Nat.mul_assoc]
  exact Nat.mul_le_mul_right _ b
theorem On.mul {B C k l : Nat} {p q : Rat} (hB : 0 < B) (hC : 0 < C) (h : On B k p) (g : On C l q) : On (B * C) (k * l) (p * q) := by
  obtain ⟨z, rfl, b⟩ := h
  obtain ⟨y, rfl, c⟩ := g
  refine ⟨z * y, by rw [Rat.divInt_mul_divInt, Int.natCast_mul], ?_⟩
  rw [Int.natAbs_mul]
  refine Nat.le_trans (Nat.mul_le_mul b c) (Nat.le_of_eq ?_)
  rw [Nat.mul_assoc, Nat.mul_left_comm B l C, <- Nat.mul_assoc]
theorem On.sm {B k n d : Nat} {q : Rat} (hB : 0 < B) (h : On B k q) (g : k * B < 2 ^ n) (g2 : B < 2 ^ d) : SmR n d q := by
  obtain ⟨z, rfl, b⟩ := h
  exact SmR.low (Nat.lt_of_le_of_lt b g) (by unfold Sm; rw [Int.natAbs_natCast]; exact g2) (by omega)
def LL : Nat := 591133442051411133755680800
theorem F0 : 0 < LL := by decide
theorem B9n {d : Nat} (h0 : 0 < d) (h : d < 64) : d ∣ LL := by
  have k : ∀ d : Fin 64, d.val = 0 \/ LL % d.val = 0 := by decide +kernel
  rcases k ⟨d, h⟩ with z | z
  · exact absurd z (Nat.ne_of_gt h0)
  · exact Nat.dvd_of_mod_eq_zero z
theorem A3f {q : Rat} (h : SmR 41 6 q) : On LL (2 ^ 41) q := by
  refine On.of F0 h (B9n q.den_pos ?_)
  have := h.2; unfold Sm at this; rw [Int.natAbs_natCast] at this; exact this
theorem On.p2 {B a b : Nat} {q : Rat} (h : On B (2 ^ a) q) (g : a <= b) : On B (2 ^ b) q := h.mono (Nat.pow_le_pow_right (by decide) g)
theorem On.add2 {B a b : Nat} {p q : Rat} (hB : 0 < B) (h : On B (2 ^ a) p) (g : On B (2 ^ a) q) (hb : a + 1 <= b) : On B (2 ^ b) (p + q) := by
  refine (h.add hB g).mono (Nat.le_trans ?_ (Nat.pow_le_pow_right (by decide) hb))
  rw [Nat.pow_succ]; omega
theorem On.sub2 {B a b : Nat} {p q : Rat} (hB : 0 < B) (h : On B (2 ^ a) p) (g : On B (2 ^ a) q) (hb : a + 1 <= b) : On B (2 ^ b) (p - q) := by
  refine (h.sub hB g).mono (Nat.le_trans ?_ (Nat.pow_le_pow_right (by decide) hb))
  rw [Nat.pow_succ]; omega
theorem C0d {α : Type} {f : α -> PyData} {xs : List α} {n : Nat} (h : n <= xs.length) : cutD (xs.map f) (some (n : Int)) none = (xs.drop n).map f := by
  unfold cutD
  rw [HT.sIx_none, show HT.sIx (xs.map f).length 0 (some (n : Int)) = min n xs.length by rw [List.length_map]; exact HT.sIx_nat _ _ n, List.map_drop, Nat.min_eq_left h, List.length_map]
  rw [List.take_of_length_le (by simp)]
def sl (p : Rat × Rat) : Rat := p.2 / p.1
def Dw : List (Rat × Rat) -> Rat -> Rat
  | [], _ => 0
  | p :: r, x => if x < p.1 then sl p * x else p.2 + Dw r (x - p.1)
def Srt : List (Rat × Rat) -> Prop
  | [] => True
  | p :: r => 0 < p.1 /\ 0 < p.2 /\ (∀ q ∈ r, sl q < sl p) /\ Srt r
theorem W0 {p : Rat × Rat} (h : 0 < p.1) : sl p * p.1 = p.2 := Rat.div_mul_cancel (by grind)
theorem V9 {p : Rat × Rat} (h : 0 < p.1) (g : 0 < p.2) : 0 < sl p := by
  have e := W0 h
  by_cases z : sl p <= 0
  · have := Rat.mul_le_mul_of_nonneg_right z (Rat.le_of_lt h); grind
  · grind
theorem S9 {a b c : Rat} (h : a <= b) (g : 0 <= c) : a * c <= b * c := Rat.mul_le_mul_of_nonneg_right h g
theorem M4 : ∀ {ps : List (Rat × Rat)}, Srt ps -> Dw ps 0 = 0
  | [], _ => rfl
  | p :: r, h => by
    unfold Dw
    rw [if_pos h.1, Rat.mul_zero]
theorem R0 {p : Rat × Rat} {r : List (Rat × Rat)} {x : Rat} (h : x < p.1) : Dw (p :: r) x = sl p * x := by unfold Dw; rw [if_pos h]
theorem J7 {p : Rat × Rat} {r : List (Rat × Rat)} {x : Rat} (h : ¬ x < p.1) : Dw (p :: r) x = p.2 + Dw r (x - p.1) := by
  show (if x < p.1 then sl p * x else p.2 + Dw r (x - p.1)) = _
  rw [if_neg h]
theorem B1n {p : Rat × Rat} {r : List (Rat × Rat)} {x : Rat} (s : Srt (p :: r)) (h : x <= p.1) : Dw (p :: r) x = sl p * x := by
  by_cases z : x < p.1
  · exact R0 z
  · have e : x = p.1 := by grind
    rw [J7 z, e, Rat.sub_self, M4 s.2.2.2, W0 s.1, Rat.add_zero]
theorem A4a {p : Rat × Rat} {r : List (Rat × Rat)} {x : Rat} (h : 0 <= x) : Dw (p :: r) (p.1 + x) = p.2 + Dw r x := by
  rw [J7 (by grind), show p.1 + x - p.1 = x by grind]
theorem A9w {s : Rat} (hs : 0 <= s) : ∀ {ps : List (Rat × Rat)}, Srt ps -> (∀ q ∈ ps, sl q <= s) -> ∀ {y t : Rat}, 0 <= y -> 0 <= t -> Dw ps (y + t) <= Dw ps y + s * t
  | [], _, _, y, t, _, ht => by
    have := Rat.mul_nonneg hs ht
    unfold Dw; grind
  | p :: r, h, b, y, t, hy, ht => by
    have b1 := b p List.mem_cons_self
    have b2 : ∀ q ∈ r, sl q <= s := fun q hq => b q (List.mem_cons_of_mem _ hq)
    have e := W0 h.1
    by_cases h1 : y + t < p.1
    · rw [R0 h1, R0 (by grind)]
      have := S9 b1 ht
      grind
    · rw [J7 h1]
      by_cases h2 : y < p.1
      · rw [R0 h2]
        have ih := A9w hs (ps := r) h.2.2.2 b2 (y := 0) (t := y + t - p.1) (by grind) (by grind)
        rw [M4 h.2.2.2, Rat.zero_add] at ih
        have := S9 b1 (show 0 <= p.1 - y by grind)
        grind
      · rw [J7 h2]
        have ih := A9w hs (ps := r) h.2.2.2 b2 (y := y - p.1) (t := t) (by grind) ht
        rw [show y - p.1 + t = y + t - p.1 by grind] at ih
        grind
theorem B4i {s : Rat} (hs : 0 <= s) {ps : List (Rat × Rat)} (h : Srt ps) (b : ∀ q ∈ ps, sl q <= s) {x : Rat} (hx : 0 <= x) : Dw ps x <= s * x := by
  have := A9w hs h b (y := 0) (t := x) (by grind) hx
  rw [M4 h] at this
  grind
def offs : List (Rat × Rat) -> List Rat
  | [] => [0]
  | p :: r => 0 :: (offs r).map fun x => p.1 + x
theorem M2 (ps : List (Rat × Rat)) : (0 : Rat) ∈ offs ps := by cases ps <;> simp [offs]
theorem Q3 {p : Rat × Rat} {r : List (Rat × Rat)} {x : Rat} (h : x ∈ offs r) : p.1 + x ∈ offs (p :: r) := List.mem_cons_of_mem _ (List.mem_map.mpr ⟨x, h, rfl⟩)
def Cv (ps qs ms : List (Rat × Rat)) : Prop := (∀ x y : Rat, 0 <= x -> 0 <= y -> Dw ps x + Dw qs y <= Dw ms (x + y)) /\ ∀ x : Rat, 0 <= x -> ∃ a b : Rat, 0 <= a /\ 0 <= b /\ a + b = x /\ Dw ps a + Dw qs b = Dw ms x /\ (a ∈ offs ps \/ b ∈ offs qs)
theorem Cv.step {p : Rat × Rat} {r qs m : List (Rat × Rat)} (h1 : Srt (p :: r)) (h2 : Srt qs) (b : ∀ q ∈ qs, sl q <= sl p) (ih : Cv r qs m) : Cv (p :: r) qs (p :: m) := by
  have e := W0 h1.1
  have s0 := Rat.le_of_lt (V9 h1.1 h1.2.1)
  refine ⟨fun x y hx hy => ?_, fun x hx => ?_⟩
  · by_cases g1 : x < p.1
    · rw [R0 g1]
      by_cases g2 : x + y < p.1
      · rw [R0 g2]
        have := B4i s0 h2 b hy
        grind
      · rw [J7 g2]
        have u := A9w s0 h2 b (y := y - (p.1 - x)) (t := p.1 - x) (by grind) (by grind)
        rw [show y - (p.1 - x) + (p.1 - x) = y by grind] at u
        have i := ih.1 0 (y - (p.1 - x)) (by grind) (by grind)
        rw [M4 h1.2.2.2, show 0 + (y - (p.1 - x)) = x + y - p.1 by grind] at i
        grind
    · rw [J7 g1, J7 (by grind)]
      have i := ih.1 (x - p.1) y (by grind) hy
      rw [show x - p.1 + y = x + y - p.1 by grind] at i
      grind
  · by_cases g1 : x < p.1
    · exact ⟨x, 0, hx, by grind, by grind, by rw [R0 g1, R0 g1, M4 h2]; grind, .inr (M2 _)⟩
    · obtain ⟨a, b, ha, hb, e1, f, o⟩ := ih.2 (x - p.1) (by grind)
      refine ⟨p.1 + a, b, by have := h1.1; grind, hb, by grind, ?_, o.imp Q3 id⟩
      rw [A4a ha, J7 g1, <- f]; grind
theorem Srt.top {p : Rat × Rat} {r : List (Rat × Rat)} (h : Srt (p :: r)) {s : Rat} (g : sl p <= s) : ∀ q ∈ p :: r, sl q <= s := fun q hq => by
  rcases List.mem_cons.mp hq with rfl | z
  · exact g
  · have := h.2.2.1 q z; grind
theorem Q4 : ∀ {ps : List (Rat × Rat)}, Srt ps -> ∀ x ∈ offs ps, 0 <= x
  | [], _, x, h => by simp [offs] at h; grind
  | p :: r, s, x, h => by
    rcases List.mem_cons.mp (show x ∈ 0 :: (offs r).map fun x => p.1 + x from h) with z | z
    · grind
    · obtain ⟨y, hy, rfl⟩ := List.mem_map.mp z
      have := Q4 s.2.2.2 y hy
      have := s.1
      grind
theorem B4j {s : Rat} : ∀ {ps : List (Rat × Rat)}, Srt ps -> 0 <= s -> (∀ q ∈ ps, sl q <= s) -> ∀ {b : Rat}, 0 <= b -> ∃ u, 0 <= u /\ u <= s /\ (∀ a, 0 <= a -> a <= b -> u * (b - a) <= Dw ps b - Dw ps a) /\ ∀ c, b <= c -> Dw ps c - Dw ps b <= u * (c - b)
  | [], _, hs, _, b, _ => ⟨0, by grind, hs, fun a _ _ => by unfold Dw; grind, fun c _ => by unfold Dw; grind⟩
  | p :: r, h, hs, bd, b, hb => by
    have e := W0 h.1
    have s0 := Rat.le_of_lt (V9 h.1 h.2.1)
    by_cases g : b < p.1
    · refine ⟨sl p, s0, bd p List.mem_cons_self, fun a ha hab => ?_, fun c hc => ?_⟩
      · rw [R0 g, R0 (by grind)]; grind
      · have := A9w s0 h (h.top Rat.le_refl) (y := b) (t := c - b) hb (by grind)
        rw [show b + (c - b) = c by grind] at this
        grind
    · obtain ⟨u, u0, us, h1, h2⟩ := B4j (ps := r) (s := sl p) h.2.2.2 s0 (fun q hq => Rat.le_of_lt (h.2.2.1 q hq)) (b := b - p.1) (by grind)
      refine ⟨u, u0, Rat.le_trans us (bd p List.mem_cons_self), fun a ha hab => ?_, fun c hc => ?_⟩
      · rw [J7 g]
        by_cases g2 : a < p.1
        · rw [R0 g2]
          have i := h1 0 (by grind) (by grind)
          rw [M4 h.2.2.2] at i
          have := S9 us (show 0 <= p.1 - a by grind)
          grind
        · rw [J7 g2]
          have i := h1 (a - p.1) (by grind) (by grind)
          grind
      · rw [J7 g, J7 (by grind)]
        have i := h2 (c - p.1) (by grind)
        grind
theorem A9x {s : Rat} : ∀ {ps : List (Rat × Rat)}, Srt ps -> 0 <= s -> (∀ q ∈ ps, sl q <= s) -> ∀ {b : Rat}, b ∈ offs ps -> 0 < b -> ∃ u v, 0 <= v /\ v < u /\ u <= s /\ (∀ a, 0 <= a -> a <= b -> u * (b - a) <= Dw ps b - Dw ps a) /\ ∀ c, b <= c -> Dw ps c - Dw ps b <= v * (c - b)
  | [], _, hs, _, b, hb, b0 => by simp [offs] at hb; grind
  | p :: r, h, hs, bd, b, hb, b0 => by
    have e := W0 h.1
    have s1 := V9 h.1 h.2.1
    have s0 := Rat.le_of_lt s1
    have hb' : ∃ x ∈ offs r, p.1 + x = b := by
      rcases List.mem_cons.mp (show b ∈ 0 :: (offs r).map fun x => p.1 + x from hb) with z | z
      · grind
      · exact List.mem_map.mp z
    obtain ⟨x, hx, rfl⟩ := hb'
    have x0 : 0 <= x := Q4 h.2.2.2 x hx
    by_cases g : x = 0
    · subst g
      have tl : ∃ v, 0 <= v /\ v < sl p /\ ∀ q ∈ r, sl q <= v := by
        cases r with
        | nil => exact ⟨0, by grind, s1, fun q z => nomatch z⟩
        | cons t r => exact ⟨sl t, Rat.le_of_lt (V9 h.2.2.2.1 h.2.2.2.2.1), h.2.2.1 t List.mem_cons_self, h.2.2.2.top Rat.le_refl⟩
      obtain ⟨v, v0, v1, v2⟩ := tl
      refine ⟨sl p, v, v0, v1, bd p List.mem_cons_self, fun a ha hab => ?_, fun c hc => ?_⟩
      · rw [B1n h (by grind), B1n h (by grind)]; grind
      · rw [A4a (by grind), M4 h.2.2.2, J7 (by grind)]
        have := B4i v0 h.2.2.2 v2 (x := c - p.1) (by grind)
        grind
    · obtain ⟨u, v, v0, v1, us, h1, h2⟩ := A9x (ps := r) (s := sl p) h.2.2.2 s0 (fun q hq => Rat.le_of_lt (h.2.2.1 q hq)) hx (by grind)
      refine ⟨u, v, v0, v1, Rat.le_trans us (bd p List.mem_cons_self), fun a ha hab => ?_, fun c hc => ?_⟩
      · rw [A4a x0]
        by_cases g2 : a < p.1
        · rw [R0 g2]
          have i := h1 0 (by grind) (by grind)
          rw [M4 h.2.2.2] at i
          have := S9 us (show 0 <= p.1 - a by grind)
          grind
        · rw [J7 g2]
          have i := h1 (a - p.1) (by grind) (by grind)
          grind
      · rw [A4a x0, J7 (by grind)]
        have i := h2 (c - p.1) (by grind)
        grind
theorem B4k : ∀ {ps : List (Rat × Rat)}, Srt ps -> ∀ {a b : Rat}, 0 <= a -> a <= b -> (∀ x ∈ offs ps, ¬ (a < x /\ x < b)) -> ∃ u, 0 <= u /\ ∀ w, a <= w -> w <= b -> Dw ps w = Dw ps a + u * (w - a)
  | [], _, a, b, _, _, _ => ⟨0, by grind, fun w _ _ => by unfold Dw; grind⟩
  | p :: r, h, a, b, ha, hab, nb => by
    have s0 := Rat.le_of_lt (V9 h.1 h.2.1)
    by_cases g : a < p.1
    · have hb : b <= p.1 := by
        have := nb p.1 (by have := Q3 (p := p) (M2 r); rwa [Rat.add_zero] at this)
        grind
      exact ⟨sl p, s0, fun w h1 h2 => by rw [B1n h (by grind), B1n h (by grind)]; grind⟩
    · obtain ⟨u, u0, hu⟩ := B4k (ps := r) h.2.2.2 (a := a - p.1) (b := b - p.1) (by grind) (by grind) fun x hx => by
        have := nb _ (Q3 (p := p) hx); grind
      refine ⟨u, u0, fun w h1 h2 => ?_⟩
      rw [J7 g, J7 (by grind), hu (w - p.1) (by grind) (by grind)]; grind
theorem B4l : ∀ {ps : List (Rat × Rat)}, Srt ps -> ∀ {a w : Rat}, 0 <= a -> a <= w -> (∀ x ∈ offs ps, x <= a) -> Dw ps w = Dw ps a
  | [], _, a, w, _, _, _ => rfl
  | p :: r, h, a, w, ha, haw, nb => by
    have g : p.1 <= a := nb p.1 (by have := Q3 (p := p) (M2 r); rwa [Rat.add_zero] at this)
    rw [J7 (by grind), J7 (by grind), B4l (ps := r) h.2.2.2 (a := a - p.1) (w := w - p.1) (by grind) (by grind) fun x hx => by
      have := nb _ (Q3 (p := p) hx); grind]
def fl (c d : Rat × Rat) : Rat := (c.2 - d.2) / (d.1 - c.1)
def RiseI (cs : List (Rat × Rat)) : Prop := ∀ (i : Nat) c d, cs[i]? = some c -> cs[i + 1]? = some d -> c.1 < d.1 /\ d.2 < c.2
theorem RiseI.tail {c : Rat × Rat} {r : List (Rat × Rat)} (h : RiseI (c :: r)) : RiseI r := fun i a b ha hb => h (i + 1) a b (by simpa using ha) (by simpa using hb)
theorem RiseI.lt {cs : List (Rat × Rat)} (h : RiseI cs) : ∀ {j i : Nat} {c d : Rat × Rat}, i < j -> cs[i]? = some c -> cs[j]? = some d -> c.1 < d.1
  | 0, _, _, _, hij, _, _ => absurd hij (Nat.not_lt_zero _)
  | j + 1, i, c, d, hij, hc, hd => by
    have hj : j < cs.length := by have := (List.getElem?_eq_some_iff.mp hd).1; omega
    have e := List.getElem?_eq_getElem hj
    have h1 := (h j _ d e hd).1
    rcases Nat.lt_succ_iff_lt_or_eq.mp hij with z | z
    · have := RiseI.lt h (j := j) z hc e; grind
    · subst z; rw [e] at hc; cases hc; exact h1
theorem T7 (w : Rat) : ∀ {cs : List (Rat × Rat)}, RiseI cs -> ∃ m, (cs.filter fun c => !decide (w < c.1)).length = m /\ m <= cs.length /\ (∀ (j : Nat) c, j < m -> cs[j]? = some c -> ¬ w < c.1) /\ ∀ (j : Nat) c, m <= j -> cs[j]? = some c -> w < c.1
  | [], _ => ⟨0, rfl, Nat.le_refl _, fun j c h => absurd h (Nat.not_lt_zero _), fun j c _ h => by simp at h⟩
  | c :: r, h => by
    by_cases hc : w < c.1
    · have hn : (c :: r).filter (fun c => !decide (w < c.1)) = [] := List.filter_eq_nil_iff.mpr fun d hd => by
        rcases List.mem_cons.mp hd with rfl | hd
        · simp [hc]
        · obtain ⟨j, hj⟩ := List.mem_iff_getElem?.mp hd
          have := h.lt (i := 0) (j := j + 1) (c := c) (d := d) (by omega) rfl (by simpa using hj)
          have : w < d.1 := by grind
          simp [this]
      refine ⟨0, by rw [hn]; rfl, Nat.zero_le _, fun j d hj => absurd hj (Nat.not_lt_zero _), fun j d _ hd => ?_⟩
      cases j with
      | zero => have : c = d := by simpa using hd
                subst this; exact hc
      | succ j => have := h.lt (i := 0) (j := j + 1) (c := c) (d := d) (by omega) rfl hd; grind
    · obtain ⟨m, e, hm, h1, h2⟩ := T7 w h.tail
      refine ⟨m + 1, by rw [List.filter_cons, if_pos (by simp [hc]), List.length_cons, e], by rw [List.length_cons]; omega, fun j d hj hd => ?_, fun j d hj hd => ?_⟩
      · cases j with
        | zero => have : c = d := by simpa using hd
                  subst this; exact hc
        | succ j => exact h1 j d (by omega) (by simpa using hd)
      · cases j with
        | zero => omega
        | succ j => exact h2 j d (by omega) (by simpa using hd)
def bnd (c : Rat × Rat) : List (Rat × Rat) -> List (Rat × Rat)
  | [] => [c]
  | p :: r => c :: bnd (c.1 + p.1, c.2 - p.2) r
theorem J4 : ∀ (ps : List (Rat × Rat)) (c : Rat × Rat), (bnd c ps).length = ps.length + 1
  | [], _ => rfl
  | p :: r, c => by show (bnd _ r).length + 1 = _; rw [J4 r]; rfl
theorem L1 (ps : List (Rat × Rat)) (c : Rat × Rat) : (bnd c ps)[0]? = some c := by cases ps <;> rfl
theorem A4i (ps : List (Rat × Rat)) (p c : Rat × Rat) (i : Nat) : (bnd c (p :: ps))[i + 1]? = (bnd (c.1 + p.1, c.2 - p.2) ps)[i]? := by
  show (c :: bnd _ ps)[i + 1]? = _
  rw [List.getElem?_cons_succ]
theorem B97 {c p : Rat × Rat} : fl c (c.1 + p.1, c.2 - p.2) = sl p := by
  show (c.2 - (c.2 - p.2)) / (c.1 + p.1 - c.1) = p.2 / p.1
  congr 1 <;> grind
theorem N5 : ∀ {ps : List (Rat × Rat)} {c : Rat × Rat}, Srt ps -> RiseI (bnd c ps)
  | [], c, _, i, a, b, ha, hb => by simp [bnd] at hb
  | p :: r, c, s, 0, a, b, ha, hb => by
    rw [L1] at ha; rw [A4i, L1] at hb
    cases ha; cases hb
    have := s.1; have := s.2.1
    constructor
    · show c.1 < c.1 + p.1; grind
    · show c.2 - p.2 < c.2; grind
  | p :: r, c, s, i + 1, a, b, ha, hb => by
    rw [A4i] at ha hb
    exact N5 s.2.2.2 i a b ha hb
def ev : List (Rat × Rat) -> Rat -> Rat
  | [], _ => 0
  | [c], _ => c.2
  | c :: d :: r, w => if w < d.1 then c.2 - fl c d * (w - c.1) else ev (d :: r) w
theorem J6 : ∀ (ps : List (Rat × Rat)) (c : Rat × Rat) (w : Rat), ev (bnd c ps) w = c.2 - Dw ps (w - c.1)
  | [], c, w => by show c.2 = c.2 - 0; grind
  | p :: r, c, w => by
    have h := J6 r (c.1 + p.1, c.2 - p.2) w
    have e : bnd c (p :: r) = c :: bnd (c.1 + p.1, c.2 - p.2) r := rfl
    obtain ⟨t, et⟩ : ∃ t, bnd (c.1 + p.1, c.2 - p.2) r = (c.1 + p.1, c.2 - p.2) :: t := by cases r <;> exact ⟨_, rfl⟩
    rw [e, et]
    show (if w < c.1 + p.1 then c.2 - fl c (c.1 + p.1, c.2 - p.2) * (w - c.1) else ev ((c.1 + p.1, c.2 - p.2) :: t) w) = _
    rw [<- et, h, B97]
    by_cases g : w < c.1 + p.1
    · rw [if_pos g, R0 (by grind)]
    · rw [if_neg g, J7 (by grind)]
      show c.2 - p.2 - Dw r (w - (c.1 + p.1)) = c.2 - (p.2 + Dw r (w - c.1 - p.1))
      rw [show w - (c.1 + p.1) = w - c.1 - p.1 by grind]; grind
theorem X1 : ∀ {cs : List (Rat × Rat)} {i : Nat} {c d : Rat × Rat} {w : Rat}, RiseI cs -> cs[i]? = some c -> cs[i + 1]? = some d -> ¬ w < c.1 -> w < d.1 -> ev cs w = c.2 - fl c d * (w - c.1)
  | [], i, c, d, w, _, h, _, _, _ => by simp at h
  | [a], i, c, d, w, _, _, h, _, _ => by simp at h
  | a :: b :: r, 0, c, d, w, _, h1, h2, h3, h4 => by
    have e1 : a = c := by simpa using h1
    have e2 : b = d := by simpa using h2
    subst e1 e2
    show (if w < b.1 then _ else _) = _
    rw [if_pos h4]
  | a :: b :: r, i + 1, c, d, w, R, h1, h2, h3, h4 => by
    show (if w < b.1 then _ else ev (b :: r) w) = _
    have h1' : (b :: r)[i]? = some c := by simpa using h1
    have h2' : (b :: r)[i + 1]? = some d := by simpa using h2
    have hb : ¬ w < b.1 := by
      rcases Nat.eq_zero_or_pos i with z | z
      · subst z; have : b = c := by simpa using h1'
        subst this; exact h3
      · have := R.tail.lt (i := 0) (j := i) z (c := b) rfl h1'; grind
    rw [if_neg hb]
    exact X1 R.tail h1' h2' h3 h4
theorem Q9 : ∀ {cs : List (Rat × Rat)} {c : Rat × Rat} {w : Rat}, RiseI cs -> cs[cs.length - 1]? = some c -> ¬ w < c.1 -> ev cs w = c.2
  | [], c, w, _, h, _ => by simp at h
  | [a], c, w, _, h, _ => by have : a = c := by simpa using h
                             subst this; rfl
  | a :: b :: r, c, w, R, h, hw => by
    show (if w < b.1 then _ else ev (b :: r) w) = _
    have h' : (b :: r)[(b :: r).length - 1]? = some c := by simpa using h
    have hb : ¬ w < b.1 := by
      rcases Nat.eq_zero_or_pos ((b :: r).length - 1) with z | z
      · rw [z] at h'; have : b = c := by simpa using h'
        subst this; exact hw
      · have := R.tail.lt (i := 0) z (c := b) rfl h'; grind
    rw [if_neg hb]
    exact Q9 R.tail h' hw
theorem Q5 : ∀ {ps : List (Rat × Rat)} {c d : Rat × Rat}, d ∈ bnd c ps -> d.1 - c.1 ∈ offs ps
  | [], c, d, h => by
    have : d = c := by simpa [bnd] using h
    subst this; rw [Rat.sub_self]; exact M2 _
  | p :: r, c, d, h => by
    rcases List.mem_cons.mp (show d ∈ c :: bnd _ r from h) with z | z
    · subst z; rw [Rat.sub_self]; exact M2 _
    · have := Q5 z
      have e : d.1 - c.1 = p.1 + (d.1 - (c.1 + p.1)) := by grind
      rw [e]; exact Q3 this
theorem A12 : ∀ {ps : List (Rat × Rat)} {c : Rat × Rat} {x : Rat}, x ∈ offs ps -> ∃ d ∈ bnd c ps, d.1 = c.1 + x
  | [], c, x, h => by
    have : x = 0 := by simpa [offs] using h
    subst this; exact ⟨c, by simp [bnd], by grind⟩
  | p :: r, c, x, h => by
    rcases List.mem_cons.mp (show x ∈ 0 :: (offs r).map fun x => p.1 + x from h) with z | z
    · subst z; exact ⟨c, List.mem_cons_self, by grind⟩
    · obtain ⟨y, hy, rfl⟩ := List.mem_map.mp z
      obtain ⟨d, hd, e⟩ := A12 (c := (c.1 + p.1, c.2 - p.2)) hy
      exact ⟨d, List.mem_cons_of_mem _ hd, by rw [e]; show c.1 + p.1 + y = _; grind⟩
theorem B0b : ∀ {ps : List (Rat × Rat)} {c d : Rat × Rat}, Srt ps -> d ∈ bnd c ps -> d.2 = ev (bnd c ps) d.1 := by
  intro ps c d s h
  obtain ⟨i, hi⟩ := List.mem_iff_getElem?.mp h
  have hl := (List.getElem?_eq_some_iff.mp hi).1
  rcases Nat.lt_or_ge (i + 1) (bnd c ps).length with z | z
  · obtain ⟨e, he⟩ : ∃ e, (bnd c ps)[i + 1]? = some e := ⟨_, List.getElem?_eq_getElem z⟩
    have := (N5 s i d e hi he).1
    rw [X1 (N5 s) hi he (by grind) this]; grind
  · rw [Q9 (N5 s) (c := d) (by rw [show (bnd c ps).length - 1 = i by omega]; exact hi) (by grind)]
theorem side {ps : List (Rat × Rat)} {c : Rat × Rat} (s : Srt ps) {b : Rat} (hb : c.1 <= b) : ∃ u v, 0 <= v /\ v <= u /\ (∀ d ∈ bnd c ps, d.1 = b -> c.1 < b -> v < u) /\ (∀ a, c.1 <= a -> a <= b -> u * (b - a) <= ev (bnd c ps) a - ev (bnd c ps) b) /\ ∀ a, b <= a -> ev (bnd c ps) b - ev (bnd c ps) a <= v * (a - b) := by
  obtain ⟨S, S0, hS⟩ : ∃ S, 0 <= S /\ ∀ q ∈ ps, sl q <= S := by
    cases ps with
    | nil => exact ⟨0, by grind, fun q z => nomatch z⟩
    | cons p r => exact ⟨sl p, Rat.le_of_lt (V9 s.1 s.2.1), s.top Rat.le_refl⟩
  by_cases h : b - c.1 ∈ offs ps /\ 0 < b - c.1
  · obtain ⟨u, v, v0, v1, _, h1, h2⟩ := A9x s S0 hS h.1 h.2
    refine ⟨u, v, v0, Rat.le_of_lt v1, fun _ _ _ _ => v1, fun a ha hab => ?_, fun a ha => ?_⟩
    · have := h1 (a - c.1) (by grind) (by grind)
      rw [J6, J6, show b - a = b - c.1 - (a - c.1) by grind]; grind
    · have := h2 (a - c.1) (by grind)
      rw [J6, J6, show a - b = a - c.1 - (b - c.1) by grind]; grind
  · obtain ⟨u, u0, _, h1, h2⟩ := B4j s S0 hS (b := b - c.1) (by grind)
    refine ⟨u, u, u0, Rat.le_refl, fun d hd e hc => absurd ⟨e ▸ Q5 hd, by grind⟩ h, fun a ha hab => ?_, fun a ha => ?_⟩
    · have := h1 (a - c.1) (by grind) (by grind)
      rw [J6, J6, show b - a = b - c.1 - (a - c.1) by grind]; grind
    · have := h2 (a - c.1) (by grind)
      rw [J6, J6, show a - b = a - c.1 - (b - c.1) by grind]; grind
theorem lin {ps : List (Rat × Rat)} {c : Rat × Rat} (s : Srt ps) {a b : Rat} (ha : c.1 <= a) (hab : a <= b) (nb : ∀ d ∈ bnd c ps, ¬ (a < d.1 /\ d.1 < b)) : ∃ u, ∀ w, a <= w -> w <= b -> ev (bnd c ps) w = ev (bnd c ps) a - u * (w - a) := by
  obtain ⟨u, _, h⟩ := B4k s (a := a - c.1) (b := b - c.1) (by grind) (by grind) fun x hx z => by
    obtain ⟨d, hd, e⟩ := A12 (c := c) hx
    exact nb d hd (by grind)
  refine ⟨u, fun w h1 h2 => ?_⟩
  rw [J6, J6, h (w - c.1) (by grind) (by grind)]; grind
theorem flat {ps : List (Rat × Rat)} {c : Rat × Rat} (s : Srt ps) {a w : Rat} (ha : c.1 <= a) (haw : a <= w) (nb : ∀ d ∈ bnd c ps, d.1 <= a) : ev (bnd c ps) w = ev (bnd c ps) a := by
  rw [J6, J6, B4l s (a := a - c.1) (w := w - c.1) (by grind) (by grind) fun x hx => by
    obtain ⟨d, hd, e⟩ := A12 (c := c) hx
    have := nb d hd; grind]
theorem C1m {t U X : Rat} (h : 0 < t) (g : U * t <= X) : U <= X / t := by
  have e := Rat.div_mul_cancel (a := X) (b := t) (by grind)
  by_cases z : U <= X / t
  · exact z
  · have := Rat.mul_lt_mul_of_pos_right (show X / t < U by grind) h
    grind
structure Bs (c1 c2 : Rat × Rat) (ps qs : List (Rat × Rat)) (f : Rat) (vs : List Rat) : Prop where
  s1 : Srt ps
  s2 : Srt qs
  f1 : c1.1 <= f
  f2 : c2.1 <= f
  inc : vs.Pairwise (· < ·)
  ge : ∀ v ∈ vs, f <= v
  of : ∀ v ∈ vs, (∃ d ∈ bnd c1 ps, d.1 = v) \/ ∃ d ∈ bnd c2 qs, d.1 = v
  to : ∀ d, d ∈ bnd c1 ps \/ d ∈ bnd c2 qs -> f <= d.1 -> d.1 ∈ vs
  h0 : vs[0]? = some f
def bsE (c1 c2 : Rat × Rat) (ps qs : List (Rat × Rat)) (w : Rat) : Rat := ev (bnd c1 ps) w + ev (bnd c2 qs) w
def bsL (c1 c2 : Rat × Rat) (ps qs : List (Rat × Rat)) (vs : List Rat) : List (Rat × Rat) := vs.map fun v => (v, bsE c1 c2 ps qs v)
theorem U9 {c1 c2 : Rat × Rat} {ps qs : List (Rat × Rat)} {vs : List Rat} {i : Nat} {d : Rat × Rat} (h : (bsL c1 c2 ps qs vs)[i]? = some d) : vs[i]? = some d.1 /\ d.2 = bsE c1 c2 ps qs d.1 := by
  unfold bsL at h
  rw [List.getElem?_map] at h
  obtain ⟨v, hv, rfl⟩ := Option.map_eq_some_iff.mp h
  exact ⟨hv, rfl⟩
theorem A04 {vs : List Rat} (h : vs.Pairwise (· < ·)) {i j : Nat} {a b : Rat} (hij : i < j) (ha : vs[i]? = some a) (hb : vs[j]? = some b) : a < b := by
  obtain ⟨h1, rfl⟩ := List.getElem?_eq_some_iff.mp ha
  obtain ⟨h2, rfl⟩ := List.getElem?_eq_some_iff.mp hb
  exact List.pairwise_iff_getElem.mp h i j h1 h2 hij
theorem Bs.side2 {c1 c2 : Rat × Rat} {ps qs : List (Rat × Rat)} {f : Rat} {vs : List Rat} (B : Bs c1 c2 ps qs f vs) {b : Rat} (hb : b ∈ vs) (hf : f < b) : ∃ U V, 0 <= V /\ V < U /\ (∀ a, f <= a -> a <= b -> U * (b - a) <= bsE c1 c2 ps qs a - bsE c1 c2 ps qs b) /\ ∀ a, b <= a -> bsE c1 c2 ps qs b - bsE c1 c2 ps qs a <= V * (a - b) := by
  have f1 := B.f1
  have f2 := B.f2
  obtain ⟨u1, v1, a0, a1, a2, a3, a4⟩ := side B.s1 (c := c1) (b := b) (by grind)
  obtain ⟨u2, v2, b0, b1, b2, b3, b4⟩ := side B.s2 (c := c2) (b := b) (by grind)
  refine ⟨u1 + u2, v1 + v2, by grind, ?_, fun a h1 h2 => ?_, fun a h1 => ?_⟩
  · rcases B.of b hb with ⟨d, hd, e⟩ | ⟨d, hd, e⟩
    · have := a2 d hd e (by grind); grind
    · have := b2 d hd e (by grind); grind
  · have := a3 a (by grind) h2
    have := b3 a (by grind) h2
    unfold bsE; grind
  · have := a4 a h1
    have := b4 a h1
    unfold bsE; grind
theorem Bs.rise {c1 c2 : Rat × Rat} {ps qs : List (Rat × Rat)} {f : Rat} {vs : List Rat} (B : Bs c1 c2 ps qs f vs) : RiseI (bsL c1 c2 ps qs vs) := by
  intro i c d hc hd
  obtain ⟨h1, e1⟩ := U9 hc
  obtain ⟨h2, e2⟩ := U9 hd
  have lt := A04 B.inc (Nat.lt_succ_self i) h1 h2
  have g1 := B.ge _ (List.mem_of_getElem? h1)
  obtain ⟨U, V, V0, VU, hl, _⟩ := B.side2 (List.mem_of_getElem? h2) (by grind)
  have := hl c.1 g1 (by grind)
  have := Rat.mul_pos (show 0 < U by grind) (show 0 < d.1 - c.1 by grind)
  exact ⟨lt, by rw [e1, e2]; grind⟩
theorem Bs.ev {c1 c2 : Rat × Rat} {ps qs : List (Rat × Rat)} {f : Rat} {vs : List Rat} (B : Bs c1 c2 ps qs f vs) {w : Rat} (hw : f <= w) : Prf.ev (bsL c1 c2 ps qs vs) w = bsE c1 c2 ps qs w := by
  have f1 := B.f1
  have f2 := B.f2
  have R := B.rise
  obtain ⟨m, _, hm, h1, h2⟩ := T7 w R
  have hl : (bsL c1 c2 ps qs vs).length = vs.length := by unfold bsL; rw [List.length_map]
  have hv0 := (List.getElem?_eq_some_iff.mp B.h0).1
  have m0 : 1 <= m := by
    rcases Nat.eq_zero_or_pos m with z | z
    · obtain ⟨d, hd⟩ : ∃ d, (bsL c1 c2 ps qs vs)[0]? = some d := ⟨_, List.getElem?_eq_getElem (by omega)⟩
      have g := h2 0 d (by omega) hd
      have e := (U9 hd).1
      rw [B.h0] at e; cases e; grind
    · exact z
  obtain ⟨c, hc⟩ : ∃ d, (bsL c1 c2 ps qs vs)[m - 1]? = some d := ⟨_, List.getElem?_eq_getElem (by omega)⟩
  have cw := h1 (m - 1) c (by omega) hc
  obtain ⟨vc, ec⟩ := U9 hc
  have gc := B.ge _ (List.mem_of_getElem? vc)
  have pos : ∀ d : Rat × Rat, d ∈ bnd c1 ps \/ d ∈ bnd c2 qs -> c.1 < d.1 -> ∃ j, m <= j /\ vs[j]? = some d.1 := fun d hd g => by
    obtain ⟨j, hj⟩ := List.mem_iff_getElem?.mp (B.to d hd (by grind))
    refine ⟨j, ?_, hj⟩
    rcases Nat.lt_or_ge j m with z | z
    · exfalso
      rcases Nat.lt_or_ge j (m - 1) with y | y
      · have := A04 B.inc y hj vc; grind
      · have : j = m - 1 := by omega
        rw [this, vc] at hj; have := Option.some.inj hj; grind
    · exact z
  by_cases hlast : m = vs.length
  · rw [Q9 R (c := c) (by rw [hl, <- hlast]; exact hc) cw, ec]
    have no : ∀ d : Rat × Rat, d ∈ bnd c1 ps \/ d ∈ bnd c2 qs -> d.1 <= c.1 := fun d hd => by
      by_cases z : c.1 < d.1
      · obtain ⟨j, hj, e⟩ := pos d hd z
        have := (List.getElem?_eq_some_iff.mp e).1
        omega
      · grind
    unfold bsE
    rw [flat B.s1 (a := c.1) (w := w) (by grind) (by grind) fun d hd => no d (.inl hd), flat B.s2 (a := c.1) (w := w) (by grind) (by grind) fun d hd => no d (.inr hd)]
  · obtain ⟨d, hd⟩ : ∃ d, (bsL c1 c2 ps qs vs)[m - 1 + 1]? = some d := ⟨_, List.getElem?_eq_getElem (by omega)⟩
    have dw := h2 (m - 1 + 1) d (by omega) hd
    obtain ⟨vd, ed⟩ := U9 hd
    rw [X1 R hc hd cw dw]
    have no : ∀ e : Rat × Rat, e ∈ bnd c1 ps \/ e ∈ bnd c2 qs -> ¬ (c.1 < e.1 /\ e.1 < d.1) := fun e he z => by
      obtain ⟨j, hj, q⟩ := pos e he z.1
      rcases Nat.lt_or_ge (m - 1 + 1) j with y | y
      · have := A04 B.inc y vd q; grind
      · have : j = m - 1 + 1 := by omega
        rw [this, vd] at q; have := Option.some.inj q; grind
    obtain ⟨u1, l1⟩ := lin B.s1 (a := c.1) (b := d.1) (by grind) (by grind) fun e he => no e (.inl he)
    obtain ⟨u2, l2⟩ := lin B.s2 (a := c.1) (b := d.1) (by grind) (by grind) fun e he => no e (.inr he)
    have x1 := l1 d.1 (by grind) (by grind)
    have x2 := l2 d.1 (by grind) (by grind)
    have y1 := l1 w (by grind) (by grind)
    have y2 := l2 w (by grind) (by grind)
    have ef : fl c d = u1 + u2 := by
      unfold fl
      rw [ec, ed]
      have : bsE c1 c2 ps qs c.1 - bsE c1 c2 ps qs d.1 = (u1 + u2) * (d.1 - c.1) := by unfold bsE; grind
      rw [this]; exact Rat.mul_div_cancel (by grind)
    rw [ef, ec]
    unfold bsE; grind
def L5 : Nat := LL * LL * 5
theorem V3 : 0 < L5 := by decide
theorem A4r : 0 < LL * LL := by decide
theorem on_w {w : Rat} {a : Nat} (h : On LL (2 ^ a) w) (g : a <= 60) : SmR 150 90 w := On.sm F0 (h.p2 g) (Nat.le_of_ble_eq_true rfl) (Nat.le_of_ble_eq_true rfl)
theorem on_p {w : Rat} {a : Nat} (h : On (LL * LL) (2 ^ a) w) (g : a <= 110) : SmR 290 180 w := On.sm A4r (h.p2 g) (Nat.le_of_ble_eq_true rfl) (Nat.le_of_ble_eq_true rfl)
theorem on_5 {w : Rat} {a : Nat} (h : On L5 (2 ^ a) w) (g : a <= 110) : SmR 295 182 w := On.sm V3 (h.p2 g) (Nat.le_of_ble_eq_true rfl) (Nat.le_of_ble_eq_true rfl)
theorem A7h {C M k l n d : Nat} {p q : Rat} (hC : 0 < C) (hM : 0 < M) (h : On (C * M) k p) (g : On C l q) (q0 : 0 < q) (hn : k * (C * M) < 2 ^ n) (hd : M * (l * C) < 2 ^ d) : SmR n d (p / q) := by
  obtain ⟨x, rfl, bx⟩ := h
  obtain ⟨y, rfl, bn⟩ := g
  have C0 : (0 : Int) < (C : Int) := by omega
  have y0 : 0 < y := by
    rcases Int.lt_trichotomy y 0 with z | z | z
    · exfalso
      have := (Rat.divInt_nonneg_iff_of_pos_right C0 (a := y)).mp (Rat.le_of_lt q0)
      omega
    · subst z; rw [Rat.zero_divInt] at q0; exact absurd q0 (by decide)
    · exact z
  have e : Rat.divInt x ((C * M : Nat) : Int) / Rat.divInt y (C : Int) = Rat.divInt x ((M : Int) * y) := by
    have m : Rat.divInt x ((C * M : Nat) : Int) = Rat.divInt x ((M : Int) * y) * Rat.divInt y (C : Int) := by
      rw [Rat.divInt_mul_divInt, Rat.divInt_eq_divInt_iff]
      · rw [Int.natCast_mul]; grind
      · exact Int.ne_of_gt (by have := Nat.mul_pos hC hM; omega)
      · exact Int.ne_of_gt (Int.mul_pos (Int.mul_pos (by omega) y0) C0)
    rw [m]
    exact Rat.mul_div_cancel (by grind)
  rw [e]
  refine SmR.low ?_ ?_ (Int.ne_of_gt (Int.mul_pos (by omega) y0))
  · unfold Sm; omega
  · unfold Sm
    rw [Int.natAbs_mul, Int.natAbs_natCast]
    exact Nat.lt_of_le_of_lt (Nat.mul_le_mul_left _ bn) hd
structure Gs (cs : List (Rat × Rat)) : Prop where
  ne : 1 <= cs.length
  le : cs.length <= 60
  ri : RiseI cs
  sm : ∀ c ∈ cs, SmR 150 90 c.1 /\ SmR 295 182 c.2
structure Sh (c : Rat × Rat) (ps : List (Rat × Rat)) : Prop where
  srt : Srt ps
  le : ps.length <= 20
  c0 : 0 <= c.1
  nn : ∀ d ∈ bnd c ps, 0 <= d.2
  on : ∀ d ∈ bnd c ps, On LL (2 ^ 46) d.1 /\ On L5 (2 ^ 93) d.2
structure Sh0 (c : Rat × Rat) (ps : List (Rat × Rat)) : Prop where
  srt : Srt ps
  le : ps.length <= 20
  c0 : 0 <= c.1
  nn : ∀ d ∈ bnd c ps, 0 <= d.2
  on : ∀ d ∈ bnd c ps, On LL (2 ^ 46) d.1 /\ On (LL * LL) (2 ^ 93) d.2
theorem Sh0.sh {c : Rat × Rat} {ps : List (Rat × Rat)} (h : Sh0 c ps) : Sh c ps := ⟨h.srt, h.le, h.c0, h.nn, fun d hd => ⟨(h.on d hd).1, (h.on d hd).2.up (by decide)⟩⟩
theorem P4 {l : Rat} : ∀ (ps : List (Rat × Rat)) (c : Rat × Rat), bnd (c.1, c.2 * l) (ps.map fun p => (p.1, p.2 * l)) = (bnd c ps).map fun d => (d.1, d.2 * l)
  | [], c => rfl
  | p :: r, c => by
    show (c.1, c.2 * l) :: bnd (c.1 + p.1, c.2 * l - p.2 * l) (r.map _) = (c.1, c.2 * l) :: (bnd (c.1 + p.1, c.2 - p.2) r).map _
    rw [<- P4 r (c.1 + p.1, c.2 - p.2), show c.2 * l - p.2 * l = (c.2 - p.2) * l by grind]
theorem A0e {l : Rat} (h : 0 < l) : ∀ {ps : List (Rat × Rat)}, Srt ps -> Srt (ps.map fun p => (p.1, p.2 * l))
  | [], _ => True.intro
  | p :: r, s => by
    have e : ∀ q : Rat × Rat, sl (q.1, q.2 * l) = sl q * l := fun q => by show q.2 * l / q.1 = q.2 / q.1 * l; rw [Rat.div_def, Rat.div_def]; grind
    refine ⟨s.1, Rat.mul_pos s.2.1 h, fun q hq => ?_, A0e h s.2.2.2⟩
    obtain ⟨q', hq', rfl⟩ := List.mem_map.mp hq
    rw [e, e]
    exact Rat.mul_lt_mul_of_pos_right (s.2.2.1 q' hq') h
theorem Sh0.scale {c : Rat × Rat} {ps : List (Rat × Rat)} (h : Sh0 c ps) {n : Int} (n0 : 1 <= n) (n5 : n <= 5) : Sh (c.1, c.2 * Rat.divInt n 5) (ps.map fun p => (p.1, p.2 * Rat.divInt n 5)) := by
  have l0 : 0 < Rat.divInt n 5 := B7t (by omega) (by decide)
  have ol : On 5 1 (Rat.divInt n 5) := ⟨n, rfl, by omega⟩
  refine ⟨A0e l0 h.srt, by rw [List.length_map]; exact h.le, h.c0, fun d hd => ?_, fun d hd => ?_⟩
  · rw [P4 ps c] at hd
    obtain ⟨e, he, rfl⟩ := List.mem_map.mp hd
    exact Rat.mul_nonneg (h.nn e he) (Rat.le_of_lt l0)
  · rw [P4 ps c] at hd
    obtain ⟨e, he, rfl⟩ := List.mem_map.mp hd
    exact ⟨(h.on e he).1, (On.mul A4r (by decide) (h.on e he).2 ol).mono (Nat.le_of_ble_eq_true rfl)⟩
theorem Sh.gs {c : Rat × Rat} {ps : List (Rat × Rat)} (h : Sh c ps) : Gs (bnd c ps) :=
  ⟨by rw [J4]; omega, by rw [J4]; have := h.le; omega, N5 h.srt, fun d hd => ⟨on_w (h.on d hd).1 (by decide), on_5 (h.on d hd).2 (by decide)⟩⟩
theorem A4k (c : Rat × Rat) (ps : List (Rat × Rat)) : (bnd c ps).headD (0, 0) = c := by cases ps <;> rfl
theorem F5 (c : Rat × Rat) (ps : List (Rat × Rat)) : c ∈ bnd c ps := List.mem_of_getElem? (L1 ps c)
def evD (cs : List (Rat × Rat)) (w : Rat) : PyData := if w < (cs.headD (0, 0)).1 then .none else dq (ev cs w)
theorem Z6 {cs : List (Rat × Rat)} {c : Rat × Rat} (h : cs[0]? = some c) : cs.headD (0, 0) = c := by
  cases cs with
  | nil => simp at h
  | cons a r => simpa using h
theorem Sh.seg {c : Rat × Rat} {ps : List (Rat × Rat)} (h : Sh c ps) {w : Rat} (hc : c.1 <= w) : ∃ a, a ∈ bnd c ps /\ a.1 <= w /\ (((∀ d ∈ bnd c ps, d.1 <= w) /\ ∀ x, a.1 <= x -> ev (bnd c ps) x = a.2) \/ ∃ b, b ∈ bnd c ps /\ w < b.1 /\ a.1 < b.1 /\ ∀ x, a.1 <= x -> x <= b.1 -> ev (bnd c ps) x = a.2 - fl a b * (x - a.1)) := by
  have R := N5 (c := c) h.srt
  obtain ⟨m, _, hm, h1, h2⟩ := T7 w R
  have m0 : 1 <= m := by
    rcases Nat.eq_zero_or_pos m with z | z
    · have := h2 0 c (by omega) (L1 _ _); grind
    · exact z
  obtain ⟨a, ha⟩ : ∃ d, (bnd c ps)[m - 1]? = some d := ⟨_, List.getElem?_eq_getElem (by omega)⟩
  have aw := h1 _ a (by omega) ha
  refine ⟨a, List.mem_of_getElem? ha, by grind, ?_⟩
  by_cases hl : m = (bnd c ps).length
  · refine .inl ⟨fun d hd => ?_, fun x hx => Q9 R (c := a) (by rw [<- hl]; exact ha) (by grind)⟩
    obtain ⟨j, hj⟩ := List.mem_iff_getElem?.mp hd
    have := h1 j d (by have := (List.getElem?_eq_some_iff.mp hj).1; omega) hj
    grind
  · obtain ⟨b, hb⟩ : ∃ d, (bnd c ps)[m - 1 + 1]? = some d := ⟨_, List.getElem?_eq_getElem (by omega)⟩
    have lt := (R _ a b ha hb).1
    refine .inr ⟨b, List.mem_of_getElem? hb, h2 _ b (by omega) hb, lt, fun x x1 x2 => ?_⟩
    by_cases z : x < b.1
    · exact X1 R ha hb (by grind) z
    · have e : x = b.1 := by grind
      rw [e, <- B0b h.srt (List.mem_of_getElem? hb)]
      have := Rat.div_mul_cancel (a := a.2 - b.2) (b := b.1 - a.1) (by grind)
      unfold fl; grind
theorem B6q {a b : Rat × Rat} (oa : On LL (2 ^ 46) a.1 /\ On L5 (2 ^ 93) a.2) (ob : On LL (2 ^ 46) b.1 /\ On L5 (2 ^ 93) b.2) (lt : a.1 < b.1) : SmR 280 235 (fl a b) := by
  have h1 : On (LL * (LL * 5)) (2 ^ 94) (a.2 - b.2) := by
    have := On.sub2 V3 oa.2 ob.2 (Nat.le_refl _)
    rwa [show L5 = LL * (LL * 5) from Nat.mul_assoc ..] at this
  exact A7h F0 (by decide) h1 (On.sub2 F0 ob.1 oa.1 (Nat.le_refl _)) (by grind) (Nat.le_of_ble_eq_true rfl) (Nat.le_of_ble_eq_true rfl)
theorem Sh.smu {c : Rat × Rat} {ps : List (Rat × Rat)} (h : Sh c ps) {w : Rat} (hw : On LL (2 ^ 46) w) (hc : c.1 <= w) : SmR 620 500 (ev (bnd c ps) w) := by
  obtain ⟨a, ha, aw, ⟨_, e⟩ | ⟨b, hb, wb, lt, e⟩⟩ := h.seg hc
  · rw [e w aw]; exact (on_5 (h.on a ha).2 (by decide)).mono (by decide) (by decide)
  · rw [e w aw (by grind)]
    have oa := h.on a ha
    have ob := h.on b hb
    have h1 : On (LL * (LL * 5 * LL)) (2 ^ 141) ((a.2 - b.2) * (w - a.1)) := by
      have : On (L5 * LL) (2 ^ 141) ((a.2 - b.2) * (w - a.1)) := (On.mul V3 F0 (On.sub2 V3 oa.2 ob.2 (Nat.le_refl _)) (On.sub2 F0 hw oa.1 (Nat.le_refl _))).mono (Nat.le_of_ble_eq_true rfl)
      rw [show L5 * LL = LL * (LL * 5 * LL) by unfold L5; rw [Nat.mul_assoc LL LL 5, Nat.mul_assoc LL (LL * 5) LL]] at this
      exact this
    have h2 : SmR 412 318 ((a.2 - b.2) * (w - a.1) / (b.1 - a.1)) := A7h F0 (by decide) h1 (On.sub2 F0 ob.1 oa.1 (Nat.le_refl _)) (by grind) (Nat.le_of_ble_eq_true rfl) (Nat.le_of_ble_eq_true rfl)
    have e2 : fl a b * (w - a.1) = (a.2 - b.2) * (w - a.1) / (b.1 - a.1) := by unfold fl; rw [Rat.div_def, Rat.div_def]; grind
    rw [e2]
    exact ((on_5 oa.2 (by decide)).sub h2).mono (by decide) (by decide)
theorem Sh.line {c : Rat × Rat} {ps : List (Rat × Rat)} (h : Sh c ps) {a b : Rat} (hc : c.1 <= a) (nb : ∀ d ∈ bnd c ps, ¬ (a < d.1 /\ d.1 < b)) : ∃ u B, (∀ x, a <= x -> x <= b -> ev (bnd c ps) x = B - u * x) /\ SmR 280 235 u /\ SmR 412 318 B := by
  obtain ⟨p, hp, pa, ⟨_, e⟩ | ⟨q, hq, aq, lt, e⟩⟩ := h.seg hc
  · refine ⟨0, p.2, fun x x1 x2 => by rw [e x (by grind)]; grind, smr0.mono (by decide) (by decide), (on_5 (h.on p hp).2 (by decide)).mono (by decide) (by decide)⟩
  · have op := h.on p hp
    have oq := h.on q hq
    have qb := nb q hq
    have h1 : On (LL * (LL * 5 * LL)) (2 ^ 140) (p.2 * q.1 - q.2 * p.1) := by
      have m1 : On (L5 * LL) (2 ^ 139) (p.2 * q.1) := (On.mul V3 F0 op.2 oq.1).mono (Nat.le_of_ble_eq_true rfl)
      have m2 : On (L5 * LL) (2 ^ 139) (q.2 * p.1) := (On.mul V3 F0 oq.2 op.1).mono (Nat.le_of_ble_eq_true rfl)
      have := On.sub2 (Nat.mul_pos V3 F0) m1 m2 (Nat.le_refl _)
      rw [show L5 * LL = LL * (LL * 5 * LL) by unfold L5; rw [Nat.mul_assoc LL LL 5, Nat.mul_assoc LL (LL * 5) LL]] at this
      exact this
    have h2 : SmR 412 318 ((p.2 * q.1 - q.2 * p.1) / (q.1 - p.1)) := A7h F0 (by decide) h1 (On.sub2 F0 oq.1 op.1 (Nat.le_refl _)) (by grind) (Nat.le_of_ble_eq_true rfl) (Nat.le_of_ble_eq_true rfl)
    refine ⟨fl p q, (p.2 * q.1 - q.2 * p.1) / (q.1 - p.1), fun x x1 x2 => ?_, B6q op oq lt, h2⟩
    rw [e x (by grind) (by grind)]
    have e1 := Rat.div_mul_cancel (a := p.2 * q.1 - q.2 * p.1) (b := q.1 - p.1) (by grind)
    have e2 := Rat.div_mul_cancel (a := p.2 - q.2) (b := q.1 - p.1) (by grind)
    have e3 : (p.2 * q.1 - q.2 * p.1) / (q.1 - p.1) = p.2 + fl p q * p.1 := by
      have : p.2 * q.1 - q.2 * p.1 = (p.2 + fl p q * p.1) * (q.1 - p.1) := by
        have e2' : fl p q * (q.1 - p.1) = p.2 - q.2 := e2
        grind
      rw [this]; exact Rat.mul_div_cancel (by grind)
    rw [e3]; grind
theorem Sh.smw {c : Rat × Rat} {ps : List (Rat × Rat)} (h : Sh c ps) {w : Rat} (hw : SmR 2450 2450 w) (hc : c.1 <= w) : SmR 3450 3350 (ev (bnd c ps) w) := by
  obtain ⟨a, ha, aw, ⟨_, e⟩ | ⟨b, hb, wb, lt, e⟩⟩ := h.seg hc
  · rw [e w aw]; exact (on_5 (h.on a ha).2 (by decide)).mono (by decide) (by decide)
  · rw [e w aw (by grind)]
    have oa := h.on a ha
    have ob := h.on b hb
    exact ((on_5 oa.2 (by decide)).sub ((B6q oa ob lt).mul (hw.sub (on_w oa.1 (by decide))))).mono (by decide) (by decide)
inductive Wo where
  | no | one | oth | les | alk | mor
deriving DecidableEq
def wS : Wo -> Str
  | .no => "none"
  | .one => "one"
  | .oth => "other"
  | .les => "less"
  | .alk => "alike"
  | .mor => "more"
abbrev Spr := (Rat × Rat) × List (Rat × Rat)
abbrev Rw := Rat × Wo × Wo
def bs (A : Spr) : List (Rat × Rat) := bnd A.1 A.2
def evO (A : Spr) (w : Rat) : Option Rat := if w < A.1.1 then none else some (ev (bs A) w)
def sg (g : Rat) : Wo := if g = 0 then .alk else if g < 0 then .les else .mor
def wrd : Option Rat -> Option Rat -> Wo
  | none, none => .no
  | none, some _ => .oth
  | some _, none => .one
  | some x, some y => sg (x - y)
def Wd2 (A B : Spr) (w : Rat) : Wo := wrd (evO A w) (evO B w)
def gp (A B : Spr) (w : Rat) : Rat := ev (bs A) w - ev (bs B) w
def hf : Rat := Rat.divInt 1 2
theorem hf2 : hf + hf = 1 := by decide +kernel
theorem B93 : 0 < hf := by decide +kernel
def md (a b : Rat) : Rat := a + hf * (b - a)
theorem B1h {a b : Rat} (h : a < b) : a < md a b /\ md a b < b := by
  have h1 := Rat.mul_pos B93 (show 0 < b - a by grind)
  have h2 : hf * (b - a) + hf * (b - a) = b - a := by
    have := hf2
    have e : hf * (b - a) + hf * (b - a) = (hf + hf) * (b - a) := by grind
    rw [e, this]; grind
  unfold md
  constructor <;> grind
def crs (A B : Spr) (a b : Rat) : Option Rat := if (Wd2 A B a = .les /\ Wd2 A B b = .mor) \/ (Wd2 A B a = .mor /\ Wd2 A B b = .les) then some (a + (0 - gp A B a) / (gp A B b - gp A B a) * (b - a)) else none
def tn (A B : Spr) : Rat -> List Rat -> List Rat
  | a, [] => [a]
  | a, b :: r => a :: ((crs A B a b).toList ++ tn A B b r)
def fr (A B : Spr) : List Rat -> List Rw
  | [] => []
  | [t] => [(t, Wd2 A B t, Wd2 A B (t + 1))]
  | t :: u :: r => (t, Wd2 A B t, Wd2 A B (md t u)) :: fr A B (u :: r)
def kpR (acc : List Rw) (r : Rw) : Bool := match acc[acc.length - 1]? with
  | none => true
  | some l => decide (r.2.1 ≠ l.2.2) || decide (r.2.2 ≠ l.2.2)
def cmp : List Rw -> List Rw -> List Rw
  | acc, [] => acc
  | acc, r :: rs => cmp (if kpR acc r = true then acc ++ [r] else acc) rs
def stW (x : Rat) (v : Wo) (r : Rw) : Wo := if r.1 = x then r.2.1 else if r.1 < x then r.2.2 else v
def twr (v : Wo) (rs : List Rw) (x : Rat) : Wo := rs.foldl (stW x) v
def Gd (A B : Spr) : List Rat -> Prop
  | [] => False
  | [t] => ∀ x, t < x -> Wd2 A B x = Wd2 A B (t + 1)
  | t :: u :: r => t < u /\ (∀ x, t < x -> x < u -> Wd2 A B x = Wd2 A B (md t u)) /\ Gd A B (u :: r)
theorem B13 {A B : Spr} : ∀ {t : Rat} {r : List Rat} {v : Wo} {x : Rat}, Gd A B (t :: r) -> twr v (fr A B (t :: r)) x = if x < t then v else Wd2 A B x
  | t, [], v, x, h => by
    show stW x v (t, Wd2 A B t, Wd2 A B (t + 1)) = _
    unfold stW
    dsimp only
    by_cases h1 : t = x
    · subst h1; rw [if_pos rfl, if_neg (by grind)]
    · rw [if_neg h1]
      by_cases h2 : t < x
      · rw [if_pos h2, if_neg (by grind), h x h2]
      · rw [if_neg h2, if_pos (by grind)]
  | t, u :: r, v, x, h => by
    obtain ⟨tu, hm, hg⟩ := h
    show twr (stW x v (t, Wd2 A B t, Wd2 A B (md t u))) (fr A B (u :: r)) x = _
    rw [B13 hg]
    by_cases h3 : x < u
    · rw [if_pos h3]
      unfold stW
      dsimp only
      by_cases h1 : t = x
      · subst h1; rw [if_pos rfl, if_neg (by grind)]
      · rw [if_neg h1]
        by_cases h2 : t < x
        · rw [if_pos h2, if_neg (by grind), hm x h2 h3]
        · rw [if_neg h2, if_pos (by grind)]
    · rw [if_neg h3, if_neg (by grind)]
theorem B68 {x : Rat} {v : Wo} {r : Rw} (h : x < r.1) : stW x v r = v := by unfold stW; rw [if_neg (by grind), if_neg (by grind)]
theorem X9 {v : Wo} {a b : List Rw} {x : Rat} : twr v (a ++ b) x = twr (twr v a x) b x := List.foldl_append
theorem B0p {acc : List Rw} {l : Rw} {v : Wo} {x : Rat} (h : acc[acc.length - 1]? = some l) (hx : l.1 < x) : twr v acc x = l.2.2 := by
  have hne : acc ≠ [] := fun z => by rw [z] at h; simp at h
  have e : acc = acc.dropLast ++ [l] := by
    rw [<- List.getLast?_eq_getElem?] at h
    have := List.dropLast_concat_getLast hne
    rw [List.getLast?_eq_some_getLast hne] at h
    rw [<- Option.some.inj h]; exact this.symm
  rw [e, X9]
  show stW x _ l = _
  unfold stW; rw [if_neg (by grind), if_pos hx]
theorem A95 {x : Rat} : ∀ {rs acc : List Rw}, (∀ a ∈ acc, ∀ r ∈ rs, a.1 < r.1) -> (rs.map (·.1)).Pairwise (· < ·) -> twr .no (cmp acc rs) x = twr .no (acc ++ rs) x
  | [], acc, _, _ => by rw [List.append_nil]; rfl
  | r :: rs, acc, h, p => by
    obtain ⟨p1, p2⟩ := List.pairwise_cons.mp (show (r.1 :: rs.map (·.1)).Pairwise (· < ·) from p)
    show twr .no (cmp (if kpR acc r = true then acc ++ [r] else acc) rs) x = _
    by_cases hk : kpR acc r = true
    · rw [if_pos hk, A95 (fun a ha s hs => ?_) p2, List.append_assoc]; rfl
      rcases List.mem_append.mp ha with z | z
      · exact h a z s (List.mem_cons_of_mem _ hs)
      · cases List.mem_singleton.mp z; exact p1 s.1 (List.mem_map.mpr ⟨s, hs, rfl⟩)
    · rw [if_neg hk, A95 (fun a ha s hs => h a ha s (List.mem_cons_of_mem _ hs)) p2, X9, X9]
      show twr _ rs x = twr (stW x (twr .no acc x) r) rs x
      congr 1
      unfold kpR at hk
      cases hl : acc[acc.length - 1]? with
      | none => rw [hl] at hk; simp at hk
      | some l =>
        rw [hl] at hk
        have hk' : r.2.1 = l.2.2 /\ r.2.2 = l.2.2 := by simpa using hk
        by_cases hx : x < r.1
        · rw [B68 hx]
        · have lr := h l (List.mem_of_getElem? hl) r List.mem_cons_self
          rw [B0p hl (by grind)]
          unfold stW
          by_cases z : r.1 = x
          · rw [if_pos z, hk'.1]
          · rw [if_neg z, if_pos (by grind), hk'.2]
structure RwOk (acc : List Rw) : Prop where
  up : ∀ (i : Nat) a b, acc[i]? = some a -> acc[i + 1]? = some b -> a.1 < b.1 /\ ¬ (b.2.1 = a.2.2 /\ b.2.2 = a.2.2)
theorem A4f : ∀ {rs acc : List Rw}, RwOk acc -> (∀ a ∈ acc, ∀ r ∈ rs, a.1 < r.1) -> (rs.map (·.1)).Pairwise (· < ·) -> RwOk (cmp acc rs) /\ (∀ r ∈ cmp acc rs, r ∈ acc \/ r ∈ rs) /\ (cmp acc rs).length <= acc.length + rs.length /\ ∀ a, acc[0]? = some a -> (cmp acc rs)[0]? = some a
  | [], acc, h, _, _ => ⟨h, fun r hr => .inl hr, Nat.le_refl _, fun a ha => ha⟩
  | r :: rs, acc, h, g, p => by
    obtain ⟨p1, p2⟩ := List.pairwise_cons.mp (show (r.1 :: rs.map (·.1)).Pairwise (· < ·) from p)
    show RwOk (cmp (if kpR acc r = true then acc ++ [r] else acc) rs) /\ (∀ q ∈ cmp (if kpR acc r = true then acc ++ [r] else acc) rs, _) /\ _
    by_cases hk : kpR acc r = true
    · rw [show cmp acc (r :: rs) = cmp (if kpR acc r = true then acc ++ [r] else acc) rs from rfl, if_pos hk]
      have ok : RwOk (acc ++ [r]) := ⟨fun i a b ha hb => by
        have hlen := (List.getElem?_eq_some_iff.mp hb).1
        rw [List.length_append, List.length_singleton] at hlen
        rw [List.getElem?_append_left (by omega)] at ha
        by_cases z : i + 1 < acc.length
        · rw [List.getElem?_append_left z] at hb
          exact h.up i a b ha hb
        · have e : i + 1 = acc.length := by omega
          rw [List.getElem?_append_right (by omega), e, Nat.sub_self] at hb
          have : r = b := by simpa using hb
          subst this
          have ha' : acc[acc.length - 1]? = some a := by rw [<- e]; exact ha
          unfold kpR at hk
          rw [ha'] at hk
          refine ⟨g a (List.mem_of_getElem? ha) r List.mem_cons_self, fun z => ?_⟩
          simp [z.1, z.2] at hk⟩
      obtain ⟨a1, a2, a3, a4⟩ := A4f (rs := rs) ok (fun a ha s hs => by
        rcases List.mem_append.mp ha with z | z
        · exact g a z s (List.mem_cons_of_mem _ hs)
        · cases List.mem_singleton.mp z; exact p1 s.1 (List.mem_map.mpr ⟨s, hs, rfl⟩)) p2
      refine ⟨a1, fun q hq => ?_, by rw [List.length_append] at a3; simp at a3 ⊢; omega, fun a ha => a4 a (by rw [List.getElem?_append_left (List.getElem?_eq_some_iff.mp ha).1]; exact ha)⟩
      rcases a2 q hq with z | z
      · rcases List.mem_append.mp z with y | y
        · exact .inl y
        · cases List.mem_singleton.mp y; exact .inr List.mem_cons_self
      · exact .inr (List.mem_cons_of_mem _ z)
    · rw [show cmp acc (r :: rs) = cmp (if kpR acc r = true then acc ++ [r] else acc) rs from rfl, if_neg hk]
      obtain ⟨a1, a2, a3, a4⟩ := A4f (rs := rs) h (fun a ha s hs => g a ha s (List.mem_cons_of_mem _ hs)) p2
      exact ⟨a1, fun q hq => (a2 q hq).imp id (List.mem_cons_of_mem _), by simp at a3 ⊢; omega, a4⟩
def sw : Wo -> Wo
  | .one => .oth
  | .oth => .one
  | .les => .mor
  | .mor => .les
  | w => w
def swr (r : Rw) : Rw := (r.1, sw r.2.1, sw r.2.2)
theorem B65 {a b : Wo} : sw a = sw b ↔ a = b := by cases a <;> cases b <;> decide
theorem B7i (g : Rat) : sg (-g) = sw (sg g) := by
  unfold sg
  by_cases h : g = 0
  · subst h; rw [if_pos (by grind), if_pos rfl]; rfl
  · rw [if_neg (by grind), if_neg h]
    by_cases h2 : g < 0
    · rw [if_neg (by grind), if_pos h2]; rfl
    · rw [if_pos (by grind), if_neg h2]; rfl
theorem w_sw (A B : Spr) (w : Rat) : Wd2 B A w = sw (Wd2 A B w) := by
  unfold Wd2
  cases evO A w <;> cases evO B w
  · rfl
  · rfl
  · rfl
  · rename_i x y
    show sg (y - x) = sw (sg (x - y))
    rw [<- B7i]; congr 1; grind
theorem C0e {A B : Spr} {a b : Rat} (hn : gp A B b - gp A B a ≠ 0 \/ crs A B a b = none) : crs B A a b = crs A B a b := by
  have e : ((Wd2 B A a = .les /\ Wd2 B A b = .mor) \/ (Wd2 B A a = .mor /\ Wd2 B A b = .les)) ↔ ((Wd2 A B a = .les /\ Wd2 A B b = .mor) \/ (Wd2 A B a = .mor /\ Wd2 A B b = .les)) := by
    rw [w_sw A B a, w_sw A B b]
    cases Wd2 A B a <;> cases Wd2 A B b <;> decide
  unfold crs at hn ⊢
  by_cases h : (Wd2 A B a = .les /\ Wd2 A B b = .mor) \/ (Wd2 A B a = .mor /\ Wd2 A B b = .les)
  · rw [if_pos h] at hn ⊢
    rw [if_pos (e.mpr h)]
    have hn : gp A B b - gp A B a ≠ 0 := hn.elim id fun z => by cases z
    have g1 : gp B A a = - gp A B a := by unfold gp; grind
    have g2 : gp B A b = - gp A B b := by unfold gp; grind
    have q : (0 - gp B A a) / (gp B A b - gp B A a) = (0 - gp A B a) / (gp A B b - gp A B a) := by
      have c := Rat.div_mul_cancel (a := 0 - gp A B a) hn
      rw [g1, g2, show 0 - -gp A B a = (0 - gp A B a) / (gp A B b - gp A B a) * (-gp A B b - -gp A B a) by grind]
      exact Rat.mul_div_cancel (by grind)
    rw [q]
  · rw [if_neg h, if_neg (fun z => h (e.mp z))]
theorem C1d {acc : List Rw} {r : Rw} : kpR (acc.map swr) (swr r) = kpR acc r := by
  unfold kpR
  rw [List.length_map, List.getElem?_map]
  cases acc[acc.length - 1]? with
  | none => rfl
  | some l =>
    show (decide (sw r.2.1 ≠ sw l.2.2) || decide (sw r.2.2 ≠ sw l.2.2)) = (decide (r.2.1 ≠ l.2.2) || decide (r.2.2 ≠ l.2.2))
    congr 1 <;> (rw [decide_eq_decide]; rw [Ne, Ne, B65])
theorem A96 : ∀ {rs acc : List Rw}, cmp (acc.map swr) (rs.map swr) = (cmp acc rs).map swr
  | [], _ => rfl
  | r :: rs, acc => by
    show cmp (if kpR (acc.map swr) (swr r) = true then acc.map swr ++ [swr r] else acc.map swr) (rs.map swr) = (cmp (if kpR acc r = true then acc ++ [r] else acc) rs).map swr
    rw [C1d]
    split
    · rw [show acc.map swr ++ [swr r] = (acc ++ [r]).map swr by rw [List.map_append]; rfl, A96]
    · rw [A96]
theorem B95 {A B : Spr} : ∀ T : List Rat, fr B A T = (fr A B T).map swr
  | [] => rfl
  | [t] => by show [(t, Wd2 B A t, Wd2 B A (t + 1))] = [(t, sw (Wd2 A B t), sw (Wd2 A B (t + 1)))]; rw [w_sw A B, w_sw A B]
  | t :: u :: r => by
    show (t, Wd2 B A t, Wd2 B A (md t u)) :: fr B A (u :: r) = (t, sw (Wd2 A B t), sw (Wd2 A B (md t u))) :: (fr A B (u :: r)).map swr
    rw [w_sw A B, w_sw A B, B95 (u :: r)]
theorem A38 {A B : Spr} : ∀ T : List Rat, (fr A B T).map (·.1) = T
  | [] => rfl
  | [t] => rfl
  | t :: u :: r => by show t :: (fr A B (u :: r)).map (·.1) = _; rw [A38 (u :: r)]
theorem Gd.inc {A B : Spr} : ∀ {T : List Rat}, Gd A B T -> T.Pairwise (· < ·)
  | [], h => h.elim
  | [t], _ => List.pairwise_singleton _ _
  | t :: u :: r, h => by
    have p := Gd.inc h.2.2
    refine List.pairwise_cons.mpr ⟨fun x hx => ?_, p⟩
    rcases List.mem_cons.mp hx with rfl | z
    · exact h.1
    · have := (List.pairwise_cons.mp p).1 x z; have := h.1; grind
theorem V5 {A B : Spr} {x : Rat} (ha : A.1.1 <= x) (hb : B.1.1 <= x) : Wd2 A B x = sg (gp A B x) := by
  unfold Wd2 evO
  rw [if_neg (by grind), if_neg (by grind)]; rfl
theorem A1t {A B : Spr} {x : Rat} (ha : A.1.1 <= x) (hb : x < B.1.1) : Wd2 A B x = .one := by
  unfold Wd2 evO
  rw [if_neg (by grind), if_pos hb]; rfl
theorem A1s {A B : Spr} {x : Rat} (ha : x < A.1.1) (hb : B.1.1 <= x) : Wd2 A B x = .oth := by
  unfold Wd2 evO
  rw [if_pos ha, if_neg (by grind)]; rfl
theorem w_no {A B : Spr} {x : Rat} (ha : x < A.1.1) (hb : x < B.1.1) : Wd2 A B x = .no := by
  unfold Wd2 evO
  rw [if_pos ha, if_pos hb]; rfl
theorem A2t {g : Rat} : sg g = .les ↔ g < 0 := by
  unfold sg
  constructor
  · intro h; split at h
    · cases h
    · split at h
      · assumption
      · cases h
  · intro h; rw [if_neg (by grind), if_pos h]
theorem A2s {g : Rat} : sg g = .mor ↔ 0 < g := by
  unfold sg
  constructor
  · intro h; split at h
    · cases h
    · split at h
      · cases h
      · grind
  · intro h; rw [if_neg (by grind), if_neg (by grind)]
theorem B7h {g h : Rat} (a : g < 0 ↔ h < 0) (b : g = 0 ↔ h = 0) : sg g = sg h := by
  unfold sg
  by_cases h1 : g = 0
  · rw [if_pos h1, if_pos (b.mp h1)]
  · rw [if_neg h1, if_neg fun z => h1 (b.mpr z)]
    by_cases h2 : g < 0
    · rw [if_pos h2, if_pos (a.mp h2)]
    · rw [if_neg h2, if_neg fun z => h2 (a.mpr z)]
theorem Y2 {G : Rat -> Rat} {a b : Rat} (ab : a < b) (lin : ∀ x, a <= x -> x <= b -> G x * (b - a) = G a * (b - x) + G b * (x - a)) (hs : (G a <= 0 /\ G b <= 0) \/ (0 <= G a /\ 0 <= G b)) : ∀ x y, a < x -> x < b -> a < y -> y < b -> sg (G x) = sg (G y) := by
  have key : ∀ x, a < x -> x < b -> (G x < 0 ↔ (G a < 0 \/ G b < 0)) /\ (G x = 0 ↔ (G a = 0 /\ G b = 0)) := fun x h1 h2 => by
    have e := lin x (by grind) (by grind)
    have p1 : 0 < b - x := by grind
    have p2 : 0 < x - a := by grind
    have p3 : 0 < b - a := by grind
    have neg : ∀ {u v : Rat}, u < 0 -> 0 < v -> u * v < 0 := fun {u v} h g => by have := Rat.mul_pos (show 0 < -u by grind) g; grind
    have pos : ∀ {u v : Rat}, 0 < u -> 0 < v -> 0 < u * v := fun {u v} h g => Rat.mul_pos h g
    have sgn : ∀ {u v : Rat}, 0 < v -> ((u * v < 0 ↔ u < 0) /\ (u * v = 0 ↔ u = 0)) := fun {u v} g => by
      by_cases z : u < 0
      · have := neg z g; constructor <;> constructor <;> intro h <;> grind
      · by_cases y : u = 0
        · subst y; rw [Rat.zero_mul]; simp
        · have := pos (show 0 < u by grind) g; constructor <;> constructor <;> intro h <;> grind
    have s3 := sgn (u := G x) p3
    have s1 := sgn (u := G a) p1
    have s2 := sgn (u := G b) p2
    have n1 : 0 <= G a -> 0 <= G a * (b - x) := fun h => Rat.mul_nonneg h (Rat.le_of_lt p1)
    have n2 : 0 <= G b -> 0 <= G b * (x - a) := fun h => Rat.mul_nonneg h (Rat.le_of_lt p2)
    generalize G a * (b - x) = P at e s1 n1
    generalize G b * (x - a) = Q at e s2 n2
    generalize G x * (b - a) = S at e s3
    rcases hs with ⟨c1, c2⟩ | ⟨c1, c2⟩
    · have t1 : P <= 0 := by
        by_cases z : P <= 0
        · exact z
        · exfalso; have := s1.1; have := s1.2; grind
      have t2 : Q <= 0 := by
        by_cases z : Q <= 0
        · exact z
        · exfalso; have := s2.1; have := s2.2; grind
      constructor
      · rw [<- s3.1, <- s1.1, <- s2.1]; grind
      · rw [<- s3.2, <- s1.2, <- s2.2]; grind
    · have t1 := n1 c1
      have t2 := n2 c2
      constructor
      · rw [<- s3.1, <- s1.1, <- s2.1]; grind
      · rw [<- s3.2, <- s1.2, <- s2.2]; grind
  intro x y x1 x2 y1 y2
  have kx := key x x1 x2
  have ky := key y y1 y2
  exact B7h (kx.1.trans ky.1.symm) (kx.2.trans ky.2.symm)
def GP (A B : Spr) (a b : Rat) : Prop := a < b /\ (crs A B a b = none -> ∀ x, a < x -> x < b -> Wd2 A B x = Wd2 A B (md a b)) /\ ∀ c, crs A B a b = some c -> a < c /\ c < b /\ SmR 1210 1210 c /\ gp A B b - gp A B a ≠ 0 /\ (∀ x, a < x -> x < c -> Wd2 A B x = Wd2 A B (md a c)) /\ ∀ x, c < x -> x < b -> Wd2 A B x = Wd2 A B (md c b)
theorem C1e {A B : Spr} {a b : Rat} (hA : Sh A.1 A.2) (hB : Sh B.1 B.2) (ab : a < b) (st : A.1.1 <= a \/ B.1.1 <= a) (nA : ∀ d ∈ bs A, ¬ (a < d.1 /\ d.1 < b)) (nB : ∀ d ∈ bs B, ¬ (a < d.1 /\ d.1 < b)) : GP A B a b := by
  have mi := B1h ab
  have none_of : (Wd2 A B a = .one \/ Wd2 A B a = .oth) -> crs A B a b = none := fun h => by
    unfold crs
    rw [if_neg]
    rintro (⟨z, _⟩ | ⟨z, _⟩) <;> rcases h with h | h <;> rw [h] at z <;> cases z
  by_cases h1 : A.1.1 <= a
  · by_cases h2 : B.1.1 <= a
    · obtain ⟨u1, B1, l1, su1, sB1⟩ := hA.line h1 nA
      obtain ⟨u2, B2, l2, su2, sB2⟩ := hB.line h2 nB
      have lg : ∀ x, a <= x -> x <= b -> gp A B x = (B1 - B2) - (u1 - u2) * x := fun x x1 x2 => by
        have e1 : ev (bs A) x = B1 - u1 * x := l1 x x1 x2
        have e2 : ev (bs B) x = B2 - u2 * x := l2 x x1 x2
        unfold gp; rw [e1, e2]; grind
      have lin : ∀ x, a <= x -> x <= b -> gp A B x * (b - a) = gp A B a * (b - x) + gp A B b * (x - a) := fun x x1 x2 => by
        rw [lg x x1 x2, lg a (by grind) (by grind), lg b (by grind) (by grind)]; grind
      have wb : ∀ x, a <= x -> Wd2 A B x = sg (gp A B x) := fun x hx => V5 (by grind) (by grind)
      refine ⟨ab, fun hc x x1 x2 => ?_, fun c hc => ?_⟩
      · rw [wb x (by grind), wb (md a b) (by grind)]
        refine Y2 ab lin ?_ x _ x1 x2 mi.1 mi.2
        unfold crs at hc
        split at hc
        · cases hc
        · rename_i hn
          rw [wb a (by grind), wb b (by grind), A2t, A2s, A2s, A2t] at hn
          grind
      · unfold crs at hc
        split at hc
        · rename_i hs
          have ec := Option.some.inj hc
          rw [wb a (by grind), wb b (by grind), A2t, A2s, A2s, A2t] at hs
          have d0 : gp A B b - gp A B a ≠ 0 := by rcases hs with ⟨z1, z2⟩ | ⟨z1, z2⟩ <;> grind
          have ek := Rat.div_mul_cancel (a := 0 - gp A B a) d0
          generalize (0 - gp A B a) / (gp A B b - gp A B a) = k at ek ec
          have k01 : 0 < k /\ k < 1 := by
            rcases hs with ⟨z1, z2⟩ | ⟨z1, z2⟩
            · have p : 0 < gp A B b - gp A B a := by grind
              constructor
              · by_cases z : 0 < k
                · exact z
                · exfalso; have := Rat.mul_le_mul_of_nonneg_right (show k <= 0 by grind) (Rat.le_of_lt p); grind
              · by_cases z : k < 1
                · exact z
                · exfalso; have := Rat.mul_le_mul_of_nonneg_right (show 1 <= k by grind) (Rat.le_of_lt p); grind
            · have p : 0 < -(gp A B b - gp A B a) := by grind
              constructor
              · by_cases z : 0 < k
                · exact z
                · exfalso; have := Rat.mul_le_mul_of_nonneg_right (show k <= 0 by grind) (Rat.le_of_lt p); grind
              · by_cases z : k < 1
                · exact z
                · exfalso; have := Rat.mul_le_mul_of_nonneg_right (show 1 <= k by grind) (Rat.le_of_lt p); grind
          have pba : 0 < b - a := by grind
          have m1 := Rat.mul_pos k01.1 pba
          have m2 := Rat.mul_pos (show 0 < 1 - k by grind) pba
          have ca : a < c := by grind
          have cb : c < b := by grind
          have gc : gp A B c = 0 := by
            have e1 := lin c (by grind) (by grind)
            have e2 : gp A B c * (b - a) = 0 := by
              rw [e1, <- ec]
              have : gp A B a * (b - (a + k * (b - a))) + gp A B b * (a + k * (b - a) - a) = (gp A B a + k * (gp A B b - gp A B a)) * (b - a) := by grind
              rw [this, ek]; grind
            rcases Rat.mul_eq_zero.mp e2 with z | z
            · exact z
            · grind
          have du : u1 - u2 ≠ 0 := fun z => by
            have e1 := lg a (by grind) (by grind)
            have e2 := lg b (by grind) (by grind)
            rw [z] at e1 e2; grind
          have ecc : c = (B1 - B2) / (u1 - u2) := by
            have e1 := lg c (by grind) (by grind)
            have e2 : B1 - B2 = c * (u1 - u2) := by grind
            rw [e2]; exact (Rat.mul_div_cancel du).symm
          refine ⟨ca, cb, ?_, d0, fun x x1 x2 => ?_, fun x x1 x2 => ?_⟩
          · rw [ecc]; exact ((sB1.sub sB2).div (su1.sub su2) du).mono (by decide) (by decide)
          · have mc := B1h ca
            rw [wb x (by grind), wb (md a c) (by grind)]
            refine Y2 ca (fun x y1 y2 => ?_) (by rcases hs with ⟨z1, _⟩ | ⟨z1, _⟩ <;> grind) x _ x1 x2 mc.1 mc.2
            rw [lg x y1 (by grind), lg a (by grind) (by grind), lg c (by grind) (by grind)]; grind
          · have mc := B1h cb
            rw [wb x (by grind), wb (md c b) (by grind)]
            refine Y2 cb (fun x y1 y2 => ?_) (by rcases hs with ⟨_, z1⟩ | ⟨_, z1⟩ <;> grind) x _ x1 x2 mc.1 mc.2
            rw [lg x (by grind) y2, lg b (by grind) (by grind), lg c (by grind) (by grind)]; grind
        · cases hc
    · have hb : b <= B.1.1 := by have := nB _ (F5 B.1 B.2); grind
      have cn := none_of (.inl (A1t h1 (by grind)))
      refine ⟨ab, fun _ x x1 x2 => ?_, fun c hc => by rw [cn] at hc; cases hc⟩
      rw [A1t (by grind) (by grind), A1t (by grind) (by grind)]
  · have h2 : B.1.1 <= a := by grind
    have hb : b <= A.1.1 := by have := nA _ (F5 A.1 A.2); grind
    have cn := none_of (.inr (A1s (by grind) h2))
    refine ⟨ab, fun _ x x1 x2 => ?_, fun c hc => by rw [cn] at hc; cases hc⟩
    rw [A1s (by grind) (by grind), A1s (by grind) (by grind)]
def Chn (A B : Spr) : Rat -> List Rat -> Prop
  | t, [] => ∀ x, t < x -> Wd2 A B x = Wd2 A B (t + 1)
  | a, b :: r => GP A B a b /\ Chn A B b r
theorem A5o (A B : Spr) (a : Rat) (r : List Rat) : ∃ t, tn A B a r = a :: t := by cases r <;> exact ⟨_, rfl⟩
theorem B94 {A B : Spr} : ∀ {r : List Rat} {a : Rat}, Chn A B a r -> Gd A B (tn A B a r)
  | [], a, h => h
  | b :: r, a, h => by
    obtain ⟨⟨ab, g1, g2⟩, hr⟩ := h
    have ih := B94 hr
    obtain ⟨t, et⟩ := A5o A B b r
    show Gd A B (a :: ((crs A B a b).toList ++ tn A B b r))
    rw [et] at ih ⊢
    cases hc : crs A B a b with
    | none => exact ⟨ab, g1 hc, ih⟩
    | some c =>
      obtain ⟨c1, c2, _, _, c3, c4⟩ := g2 c hc
      exact ⟨c1, c3, c2, c4, ih⟩
theorem B4t {A B : Spr} : ∀ {r : List Rat} {a : Rat}, Chn A B a r -> SmR 150 90 a -> (∀ b ∈ r, SmR 150 90 b) -> ∀ t ∈ tn A B a r, SmR 1210 1210 t
  | [], a, _, ha, _, t, ht => by
    have : t = a := by simpa [tn] using ht
    subst this; exact ha.mono (by decide) (by decide)
  | b :: r, a, h, ha, hr, t, ht => by
    rcases List.mem_cons.mp (show t ∈ a :: ((crs A B a b).toList ++ tn A B b r) from ht) with rfl | z
    · exact ha.mono (by decide) (by decide)
    · rcases List.mem_append.mp z with y | y
      · cases hc : crs A B a b with
        | none => rw [hc] at y; simp at y
        | some c => rw [hc] at y; have : t = c := by simpa using y
                    subst this; exact (h.1.2.2 t hc).2.2.1
      · exact B4t h.2 (hr b List.mem_cons_self) (fun x hx => hr x (List.mem_cons_of_mem _ hx)) t y
theorem B62 {A B : Spr} : ∀ {r : List Rat} {a : Rat}, Chn A B a r -> tn B A a r = tn A B a r
  | [], a, _ => rfl
  | b :: r, a, h => by
    show a :: ((crs B A a b).toList ++ tn B A b r) = a :: ((crs A B a b).toList ++ tn A B b r)
    rw [B62 h.2, C0e]
    cases hc : crs A B a b with
    | none => exact .inr rfl
    | some c => exact .inl (h.1.2.2 c hc).2.2.2.1
theorem A5n {A B : Spr} : ∀ (r : List Rat) (a : Rat), (tn A B a r).length <= 2 * r.length + 1
  | [], _ => by simp [tn]
  | b :: r, a => by
    have := A5n (A := A) (B := B) r b
    show (a :: ((crs A B a b).toList ++ tn A B b r)).length <= _
    have h2 : (crs A B a b).toList.length <= 1 := by cases crs A B a b <;> simp
    simp; omega
theorem A0r : ∀ {us vs : List Rat}, us.Pairwise (· < ·) -> vs.Pairwise (· < ·) -> (∀ z, z ∈ us ↔ z ∈ vs) -> us = vs
  | [], [], _, _, _ => rfl
  | [], v :: r, _, _, h => by have := (h v).mpr List.mem_cons_self; simp at this
  | u :: r, [], _, _, h => by have := (h u).mp List.mem_cons_self; simp at this
  | u :: r, v :: t, h1, h2, h => by
    obtain ⟨a1, a2⟩ := List.pairwise_cons.mp h1
    obtain ⟨b1, b2⟩ := List.pairwise_cons.mp h2
    have e : u = v := by
      rcases List.mem_cons.mp ((h u).mp List.mem_cons_self) with z | z
      · exact z
      · rcases List.mem_cons.mp ((h v).mpr List.mem_cons_self) with y | y
        · exact y.symm
        · have := b1 u z; have := a1 v y; grind
    subst e
    rw [A0r a2 b2 fun z => ⟨fun hz => ?_, fun hz => ?_⟩]
    · rcases List.mem_cons.mp ((h z).mp (List.mem_cons_of_mem _ hz)) with y | y
      · subst y; have := a1 z hz; grind
      · exact y
    · rcases List.mem_cons.mp ((h z).mpr (List.mem_cons_of_mem _ hz)) with y | y
      · subst y; have := b1 z hz; grind
      · exact y
def lst (c : Rat × Rat) : List (Rat × Rat) -> Rat × Rat
  | [] => c
  | p :: r => lst (c.1 + p.1, c.2 - p.2) r
theorem A4j : ∀ (l : List (Rat × Rat)) (c p : Rat × Rat), bnd c (l ++ [p]) = bnd c l ++ [((lst c l).1 + p.1, (lst c l).2 - p.2)]
  | [], c, p => rfl
  | q :: r, c, p => by
    show c :: bnd _ (r ++ [p]) = c :: (bnd _ r ++ _)
    rw [A4j r]; rfl
theorem A3p : ∀ (l : List (Rat × Rat)) (c p : Rat × Rat), lst c (l ++ [p]) = ((lst c l).1 + p.1, (lst c l).2 - p.2)
  | [], c, p => rfl
  | q :: r, c, p => A3p r _ p
theorem A8f : ∀ (l : List (Rat × Rat)) (c : Rat × Rat), lst c l ∈ bnd c l
  | [], c => by simp [lst, bnd]
  | q :: r, c => List.mem_cons_of_mem _ (A8f r _)
structure MW (A B us ls rs : List Rat) : Prop where
  u : us.Pairwise (· < ·)
  l : ls.Pairwise (· < ·)
  r : rs.Pairwise (· < ·)
  ul : ∀ a ∈ us, ∀ b ∈ ls, a <= b
  ur : ∀ a ∈ us, ∀ b ∈ rs, a <= b
  mem : ∀ z, (z ∈ us \/ z ∈ ls \/ z ∈ rs) ↔ (z ∈ A \/ z ∈ B)
  le : us.length + (ls.length + rs.length) <= A.length + B.length
theorem MW.comm {A B us ls rs : List Rat} (h : MW A B us ls rs) : MW B A us rs ls :=
  ⟨h.u, h.r, h.l, h.ur, h.ul, fun z => by have := h.mem z; grind, by have := h.le; omega⟩
theorem MW.pick {A B us ls rs : List Rat} {x : Rat} (h : MW A B us (x :: ls) rs) (hx : ∀ y ∈ rs, x <= y) : (∀ a, us[us.length - 1]? = some a -> a = x -> MW A B us ls rs) /\ ((∀ a, us[us.length - 1]? = some a -> a ≠ x) -> MW A B (us ++ [x]) ls rs) := by
  obtain ⟨l1, l2⟩ := List.pairwise_cons.mp h.l
  have hle := h.le
  rw [List.length_cons] at hle
  refine ⟨fun a ha e => ⟨h.u, l2, h.r, fun a ha b hb => h.ul a ha b (List.mem_cons_of_mem _ hb), h.ur, fun z => ?_, by omega⟩, fun hn => ⟨?_, l2, h.r, fun a ha b hb => ?_, fun a ha b hb => ?_, fun z => ?_, by rw [List.length_append, List.length_singleton]; omega⟩⟩
  · rw [<- h.mem z]
    subst e
    have := List.mem_of_getElem? ha
    constructor
    · rintro (z | z | z)
      · exact .inl z
      · exact .inr (.inl (List.mem_cons_of_mem _ z))
      · exact .inr (.inr z)
    · rintro (z | z | z)
      · exact .inl z
      · rcases List.mem_cons.mp z with rfl | y
        · exact .inl this
        · exact .inr (.inl y)
      · exact .inr (.inr z)
  · refine List.pairwise_append.mpr ⟨h.u, List.pairwise_singleton _ _, fun a ha b hb => ?_⟩
    cases List.mem_singleton.mp hb
    have g := h.ul a ha x List.mem_cons_self
    obtain ⟨i, hi⟩ := List.mem_iff_getElem?.mp ha
    have hil := (List.getElem?_eq_some_iff.mp hi).1
    obtain ⟨z, hz⟩ : ∃ z, us[us.length - 1]? = some z := ⟨_, List.getElem?_eq_getElem (by omega)⟩
    have hzx := hn z hz
    have gz := h.ul z (List.mem_of_getElem? hz) x List.mem_cons_self
    rcases Nat.lt_or_ge i (us.length - 1) with y | y
    · have := A04 h.u y hi hz; grind
    · have : i = us.length - 1 := by omega
      rw [this, hz] at hi
      have := Option.some.inj hi
      grind
  · rcases List.mem_append.mp ha with z | z
    · exact h.ul a z b (List.mem_cons_of_mem _ hb)
    · cases List.mem_singleton.mp z
      exact Rat.le_of_lt (l1 b hb)
  · rcases List.mem_append.mp ha with z | z
    · exact h.ur a z b hb
    · cases List.mem_singleton.mp z
      exact hx b hb
  · rw [<- h.mem z, List.mem_append, List.mem_singleton, List.mem_cons]
    grind
theorem B0c : ∀ {ps : List (Rat × Rat)} {c : Rat × Rat}, RiseI (bnd c ps) -> ((bnd c ps).map (·.1)).Pairwise (· < ·) := by
  intro ps c h
  refine List.pairwise_iff_getElem.mpr fun i j hi hj hij => ?_
  rw [List.length_map] at hi hj
  rw [List.getElem_map, List.getElem_map]
  exact h.lt hij (List.getElem?_eq_getElem hi) (List.getElem?_eq_getElem hj)
theorem hd {a b : PSt} {D : PEnds} {e : PEnv} (h : ∀ R, R = b -> pSeq a R D e) : pSeq a b D e := h b rfl
theorem B0m {pt : PTt} {pb R : PSt} {D : PEnds} {env : PEnv} (Iv : Nat -> PEnv -> Prop) (h0 : ∃ m, Iv m env) (h : ∀ m e, Iv m e -> pt e fun b e2 => if b = true then pb ⟨fun e3 => ∃ m', m' < m /\ Iv m' e3, D.rt, R D, fun e3 => ∃ m', m' < m /\ Iv m' e3⟩ e2 else R D e2) : pSeq (A23 pt pb) R D env := ⟨Iv, h0, h⟩
theorem B6y {pt : PTt} {a b : PSt} {D' : PEnds} {N : PEnv -> Prop} {e : PEnv} (P : PEnv -> Prop) (h2 : ∀ e', P e' -> b D' e') (h1 : ∀ R : PSt, (∀ e', P e' -> R D' e') -> pt e fun t e2 => if t = true then pSeq a R D' e2 else N e2) : pt e fun t e2 => if t = true then pSeq a b D' e2 else N e2 := h1 b h2
theorem G5 {a b : PSt} {D : PEnds} {e : PEnv} (P : PEnv -> Prop) (h1 : ∀ R : PSt, (∀ e', P e' -> R D e') -> pSeq a R D e) (h2 : ∀ e', P e' -> b D e') : pSeq a b D e := h1 b h2
theorem B9l {A B : Nat} {C : Rat × Rat} : ∀ {l : List (Rat × Rat)} {a b : Nat}, On LL a C.1 -> On (LL * LL) b C.2 -> (∀ m ∈ l, On LL A m.1 /\ On (LL * LL) B m.2) -> ∀ d ∈ bnd C l, On LL (a + l.length * A) d.1 /\ On (LL * LL) (b + l.length * B) d.2 := by
  intro l
  induction l generalizing C with
  | nil =>
    intro a b ha hb _ d hd
    have : d = C := by simpa [bnd] using hd
    subst this
    exact ⟨ha.mono (by simp), hb.mono (by simp)⟩
  | cons p r ih =>
    intro a b ha hb hm d hd
    rcases List.mem_cons.mp (show d ∈ C :: bnd _ r from hd) with rfl | z
    · exact ⟨ha.mono (Nat.le_add_right _ _), hb.mono (Nat.le_add_right _ _)⟩
    · have hp := hm p List.mem_cons_self
      have := ih (C := (C.1 + p.1, C.2 - p.2)) (ha.add F0 hp.1) (hb.sub A4r hp.2) (fun m hm' => hm m (List.mem_cons_of_mem _ hm')) d z
      rw [List.length_cons]
      exact ⟨this.1.mono (by rw [Nat.add_mul]; omega), this.2.mono (by rw [Nat.add_mul]; omega)⟩
def sum2 : List (Rat × Rat) -> Rat
  | [] => 0
  | z :: r => z.2 + sum2 r
theorem Y0 : ∀ (l m : List (Rat × Rat)), sum2 (l ++ m) = sum2 l + sum2 m
  | [], m => by show sum2 m = 0 + sum2 m; grind
  | z :: r, m => by show z.2 + sum2 (r ++ m) = z.2 + sum2 r + sum2 m; rw [Y0 r m]; grind
theorem A2n : ∀ l : List (Rat × Rat), sum2 l.reverse = sum2 l
  | [] => rfl
  | z :: r => by rw [List.reverse_cons, Y0, A2n r]; show sum2 r + (z.2 + 0) = z.2 + sum2 r; grind
theorem A5r : ∀ {l : List (Rat × Rat)}, (∀ z ∈ l, 0 <= z.2) -> 0 <= sum2 l
  | [], _ => Rat.le_refl
  | z :: r, h => by
    have := h z List.mem_cons_self
    have := A5r fun y hy => h y (List.mem_cons_of_mem _ hy)
    show 0 <= z.2 + sum2 r; grind
theorem A8h : ∀ {l : List (Rat × Rat)} {C : Rat × Rat}, (∀ z ∈ l, 0 <= z.2) -> ∀ d ∈ bnd C l, C.2 - sum2 l <= d.2
  | [], C, _, d, hd => by
    have : d = C := by simpa [bnd] using hd
    subst this; show d.2 - 0 <= d.2; grind
  | z :: r, C, h, d, hd => by
    have hz := h z List.mem_cons_self
    have s0 : 0 <= sum2 r := A5r fun y hy => h y (List.mem_cons_of_mem _ hy)
    show C.2 - (z.2 + sum2 r) <= d.2
    rcases List.mem_cons.mp (show d ∈ C :: bnd _ r from hd) with rfl | y
    · grind
    · have : C.2 - z.2 - sum2 r <= d.2 := A8h (C := (C.1 + z.1, C.2 - z.2)) (fun y hy => h y (List.mem_cons_of_mem _ hy)) d y
      grind
theorem B15 : ∀ {l : List (Rat × Rat)}, (∀ z ∈ l, 0 < z.1 /\ 0 < z.2) -> l.Pairwise (fun a b => sl b < sl a) -> Srt l
  | [], _, _ => True.intro
  | z :: r, h, p => ⟨(h z List.mem_cons_self).1, (h z List.mem_cons_self).2, (List.pairwise_cons.mp p).1, B15 (fun y hy => h y (List.mem_cons_of_mem _ hy)) (List.pairwise_cons.mp p).2⟩
def pz (f g : Rat) : Rat × Rat := (g, f * g)
theorem B5c {fs gs : List Rat} {f g : Rat} (h : gs[fs.length]? = some g) : List.zipWith pz (fs ++ [f]) gs = List.zipWith pz fs gs ++ [pz f g] := by
  induction fs generalizing gs with
  | nil =>
    cases gs with
    | nil => simp at h
    | cons a r => have : a = g := by simpa using h
                  subst this; simp
  | cons a r ih =>
    cases gs with
    | nil => simp at h
    | cons b t =>
      rw [List.cons_append, List.zipWith_cons_cons, List.zipWith_cons_cons, List.cons_append, ih (by simpa using h)]
theorem B7c {f g : Rat} (h : 0 < g) : sl (pz f g) = f := Rat.mul_div_cancel (by grind)
theorem B7j : PyData.tuple [.int 1, .int 7] = dq (Rat.divInt 1 7) := by
  have h : (Rat.divInt 1 7).num = 1 /\ (Rat.divInt 1 7).den = 7 := by decide +kernel
  unfold dq; rw [h.1, h.2]; rfl
theorem B7d : PyData.tuple [.int 6, .int 7] = dq (Rat.divInt 6 7) := by
  have h : (Rat.divInt 6 7).num = 6 /\ (Rat.divInt 6 7).den = 7 := by decide +kernel
  unfold dq; rw [h.1, h.2]; rfl
theorem sm_sev : SmR 3 3 (Rat.divInt 1 7) := SmR.low (by unfold Sm; decide) (by unfold Sm; decide) (by decide)
theorem sm_six : SmR 3 3 (Rat.divInt 6 7) := SmR.low (by unfold Sm; decide) (by unfold Sm; decide) (by decide)
theorem C0t : SmR 1 2 hf := sm_half
def rwD (r : Rw) : PyData := .tuple [dq r.1, .str (wS r.2.1), .str (wS r.2.2)]
theorem P2 (a : Wo) : (PyData.str (wS a)).canLay0 = true := by cases a <;> decide +kernel
theorem B1l (a b : Wo) : (PyData.str (wS a)).eqv (.str (wS b)) = decide (a = b) := by cases a <;> cases b <;> decide +kernel
theorem X2 {A : Spr} {w : Rat} (h : w < A.1.1) : evD (bs A) w = .none := by unfold evD bs; rw [A4k, if_pos h]
theorem J3 {A : Spr} {w : Rat} (h : A.1.1 <= w) : evD (bs A) w = dq (ev (bs A) w) := by unfold evD bs; rw [A4k, if_neg (by grind)]
theorem A5v {x y : Rat} : sg (x - y) = if x = y then .alk else if x < y then .les else .mor := by
  unfold sg
  by_cases h : x = y
  · rw [if_pos (by grind), if_pos h]
  · rw [if_neg (by grind), if_neg h]
    by_cases h2 : x < y
    · rw [if_pos (by grind), if_pos h2]
    · rw [if_neg (by grind), if_neg h2]
theorem B10 {A B : Spr} {x : Rat} (h : Wd2 A B x = .les \/ Wd2 A B x = .mor) : A.1.1 <= x /\ B.1.1 <= x := by
  by_cases h1 : x < A.1.1
  · by_cases h2 : x < B.1.1
    · rw [w_no h1 h2] at h; simp at h
    · rw [A1s h1 (by grind)] at h; simp at h
  · by_cases h2 : x < B.1.1
    · rw [A1t (by grind) h2] at h; simp at h
    · constructor <;> grind
def w2D (x y : Wo) : PyData := .list [.str (wS x), .str (wS y)]
theorem B1y (x y : Wo) : (w2D x y).canLay0 = true := by cases x <;> cases y <;> decide +kernel
theorem B1z (x y : Wo) : (w2D x y).depth <= 60 := by cases x <;> cases y <;> decide +kernel
theorem C0p (x y : Wo) : (w2D x y).eqv (.list [.str "less", .str "more"]) = (decide (x = .les) && decide (y = .mor)) := by cases x <;> cases y <;> decide +kernel
theorem C0o (x y : Wo) : (w2D x y).eqv (.list [.str "more", .str "less"]) = (decide (x = .mor) && decide (y = .les)) := by cases x <;> cases y <;> decide +kernel
def oD : Option Rat -> PyData
  | none => .none
  | some c => dq c
structure Us (A B : Spr) (a : Rat) (r : List Rat) : Prop where
  inc : (a :: r).Pairwise (· < ·)
  mem : ∀ z, z ∈ a :: r ↔ z ∈ (bs A).map (·.1) \/ z ∈ (bs B).map (·.1)
  le : r.length <= 41
theorem Us.uniq {A B : Spr} {a b : Rat} {r s : List Rat} (h : Us A B a r) (g : Us A B b s) : a = b /\ r = s := by
  have := A0r h.inc g.inc fun z => (h.mem z).trans (g.mem z).symm
  injection this with h1 h2
  exact ⟨h1, h2⟩
theorem Us.comm {A B : Spr} {a : Rat} {r : List Rat} (h : Us A B a r) : Us B A a r := ⟨h.inc, fun z => (h.mem z).trans Or.comm, h.le⟩
theorem Us.on {A B : Spr} {a : Rat} {r : List Rat} (hA : Sh A.1 A.2) (hB : Sh B.1 B.2) (h : Us A B a r) : ∀ z ∈ a :: r, On LL (2 ^ 46) z := fun z hz => by
  rcases (h.mem z).mp hz with y | y <;> obtain ⟨d, hd, rfl⟩ := List.mem_map.mp y
  · exact (hA.on d hd).1
  · exact (hB.on d hd).1
theorem B4n {A B : Spr} (hA : Sh A.1 A.2) (hB : Sh B.1 B.2) : ∀ {r : List Rat} {a : Rat}, (a :: r).Pairwise (· < ·) -> (A.1.1 <= a \/ B.1.1 <= a) -> (∀ d, d ∈ bs A \/ d ∈ bs B -> a < d.1 -> d.1 ∈ r) -> Chn A B a r
  | [], a, _, st, hm => fun x hx => by
    have no : ∀ d, d ∈ bs A \/ d ∈ bs B -> d.1 <= a := fun d hd => by
      by_cases z : a < d.1
      · have := hm d hd z; simp at this
      · grind
    have eA : ∀ y, a <= y -> ev (bs A) y = ev (bs A) a := fun y hy => flat hA.srt (no _ (.inl (F5 _ _))) hy fun d hd => no d (.inl hd)
    have eB : ∀ y, a <= y -> ev (bs B) y = ev (bs B) a := fun y hy => flat hB.srt (no _ (.inr (F5 _ _))) hy fun d hd => no d (.inr hd)
    have a1 := no _ (.inl (F5 A.1 A.2))
    have a2 := no _ (.inr (F5 B.1 B.2))
    rw [V5 (by grind) (by grind), V5 (by grind) (by grind)]
    unfold gp
    rw [eA x (by grind), eB x (by grind), eA (a + 1) (by grind), eB (a + 1) (by grind)]
  | b :: r, a, p, st, hm => by
    obtain ⟨p1, p2⟩ := List.pairwise_cons.mp p
    have ab := p1 b List.mem_cons_self
    have nb : ∀ d, d ∈ bs A \/ d ∈ bs B -> ¬ (a < d.1 /\ d.1 < b) := fun d hd z => by
      rcases List.mem_cons.mp (hm d hd z.1) with y | y
      · grind
      · have := (List.pairwise_cons.mp p2).1 _ y; grind
    refine ⟨C1e hA hB ab st (fun d hd => nb d (.inl hd)) fun d hd => nb d (.inr hd), B4n hA hB p2 (by grind) fun d hd g => ?_⟩
    rcases List.mem_cons.mp (hm d hd (by grind)) with y | y
    · grind
    · exact y
theorem Us.chn {A B : Spr} {a : Rat} {r : List Rat} (hA : Sh A.1 A.2) (hB : Sh B.1 B.2) (h : Us A B a r) : Chn A B a r := by
  refine B4n hA hB h.inc ?_ fun d hd g => ?_
  · rcases (h.mem a).mp List.mem_cons_self with y | y <;> obtain ⟨d, hd, e⟩ := List.mem_map.mp y
    · have := Q4 hA.srt _ (Q5 hd); left; grind
    · have := Q4 hB.srt _ (Q5 hd); right; grind
  · have := (h.mem d.1).mpr (hd.imp (fun z => List.mem_map.mpr ⟨d, z, rfl⟩) fun z => List.mem_map.mpr ⟨d, z, rfl⟩)
    rcases List.mem_cons.mp this with z | z
    · grind
    · exact z
theorem Us.hd {A B : Spr} {a : Rat} {r : List Rat} (hA : Sh A.1 A.2) (hB : Sh B.1 B.2) (h : Us A B a r) : a = if B.1.1 < A.1.1 then B.1.1 else A.1.1 := by
  have m1 : A.1.1 ∈ a :: r := (h.mem _).mpr (.inl (List.mem_map.mpr ⟨A.1, F5 _ _, rfl⟩))
  have m2 : B.1.1 ∈ a :: r := (h.mem _).mpr (.inr (List.mem_map.mpr ⟨B.1, F5 _ _, rfl⟩))
  have lo : ∀ z ∈ a :: r, a <= z := fun z hz => by
    rcases List.mem_cons.mp hz with y | y
    · grind
    · have := (List.pairwise_cons.mp h.inc).1 z y; grind
  have up : A.1.1 <= a \/ B.1.1 <= a := by
    rcases (h.mem a).mp List.mem_cons_self with y | y <;> obtain ⟨d, hd, e⟩ := List.mem_map.mp y
    · have := Q4 hA.srt _ (Q5 hd); left; grind
    · have := Q4 hB.srt _ (Q5 hd); right; grind
  have l1 := lo _ m1
  have l2 := lo _ m2
  split <;> grind
theorem B4o {A B : Spr} : ∀ {r : List Rat} {a : Rat} {i : Nat} {x y : Rat}, Chn A B a r -> (a :: r)[i]? = some x -> (a :: r)[i + 1]? = some y -> GP A B x y
  | [], a, i, x, y, _, _, h => by simp at h
  | b :: r, a, 0, x, y, h, h1, h2 => by
    have e1 : a = x := by simpa using h1
    have e2 : b = y := by simpa using h2
    subst e1 e2; exact h.1
  | b :: r, a, i + 1, x, y, h, h1, h2 => B4o (r := r) (a := b) (i := i) h.2 (by simpa using h1) (by simpa using h2)
def inn : List Rat -> List Rat
  | [] => []
  | [t] => [t + 1]
  | t :: u :: r => md t u :: inn (u :: r)
theorem A18 : ∀ T : List Rat, (inn T).length = T.length
  | [] => rfl
  | [t] => rfl
  | t :: u :: r => by show (inn (u :: r)).length + 1 = _; rw [A18 (u :: r)]; rfl
theorem A9l : ∀ {T : List Rat} {i : Nat} {t u : Rat}, T[i]? = some t -> T[i + 1]? = some u -> (inn T)[i]? = some (md t u)
  | [], i, t, u, h, _ => by simp at h
  | [a], i, t, u, _, h => by simp at h
  | a :: b :: r, 0, t, u, h1, h2 => by
    have e1 : a = t := by simpa using h1
    have e2 : b = u := by simpa using h2
    subst e1 e2; rfl
  | a :: b :: r, i + 1, t, u, h1, h2 => by
    show (inn (b :: r))[i]? = _
    exact A9l (by simpa using h1) (by simpa using h2)
theorem A34 : ∀ {T : List Rat} {t : Rat}, T[T.length - 1]? = some t -> (inn T)[T.length - 1]? = some (t + 1)
  | [], t, h => by simp at h
  | [a], t, h => by have : a = t := by simpa using h
                    subst this; rfl
  | a :: b :: r, t, h => by
    show (md a b :: inn (b :: r))[(b :: r).length]? = _
    rw [show (b :: r).length = (b :: r).length - 1 + 1 from rfl, List.getElem?_cons_succ]
    exact A34 (by simpa using h)
theorem B4f {A B : Spr} : ∀ {T : List Rat} {i : Nat} {t m : Rat}, T[i]? = some t -> (inn T)[i]? = some m -> (fr A B T)[i]? = some (t, Wd2 A B t, Wd2 A B m)
  | [], i, t, m, h, _ => by simp at h
  | [a], 0, t, m, h1, h2 => by
    have e1 : a = t := by simpa using h1
    have e2 : a + 1 = m := by simpa [inn] using h2
    subst e1 e2; rfl
  | [a], i + 1, t, m, h1, h2 => by simp at h1
  | a :: b :: r, 0, t, m, h1, h2 => by
    have e1 : a = t := by simpa using h1
    have e2 : md a b = m := by simpa [inn] using h2
    subst e1 e2; rfl
  | a :: b :: r, i + 1, t, m, h1, h2 => by
    show (fr A B (b :: r))[i]? = _
    exact B4f (by simpa using h1) (by simpa [inn] using h2)
theorem B4e {A B : Spr} (T : List Rat) : (fr A B T).length = T.length := by
  have := congrArg List.length (A38 (A := A) (B := B) T)
  rwa [List.length_map] at this
theorem A4e : ∀ {rs acc : List Rw} {r : Rw}, cmp acc (rs ++ [r]) = if kpR (cmp acc rs) r = true then cmp acc rs ++ [r] else cmp acc rs
  | [], acc, r => rfl
  | s :: rs, acc, r => A4e (rs := rs)
theorem C0s {a b : Rat} (h : SmR 1210 1210 a) (g : SmR 1210 1210 b) : SmR 2450 2450 (md a b) := by
  have e : md a b = (a + b) * hf := by unfold md; have := hf2; grind
  rw [e]; exact ((h.add g).mul C0t).mono (by decide) (by decide)
theorem B4c : ∀ {T : List Rat}, (∀ t ∈ T, SmR 1210 1210 t) -> ∀ m ∈ inn T, SmR 2450 2450 m
  | [], _, m, h => nomatch h
  | [t], g, m, h => by
    have : m = t + 1 := by simpa [inn] using h
    subst this
    exact ((g t List.mem_cons_self).add (T2 (n := 1) (k := 2) (by unfold Sm; decide))).mono (by decide) (by decide)
  | t :: u :: r, g, m, h => by
    rcases List.mem_cons.mp (show m ∈ md t u :: inn (u :: r) from h) with rfl | z
    · exact C0s (g t List.mem_cons_self) (g u (List.mem_cons_of_mem _ List.mem_cons_self))
    · exact B4c (fun x hx => g x (List.mem_cons_of_mem _ hx)) m z
def sbs (A B : Spr) (a : Rat) (r : List Rat) : List Rw := cmp [] (fr A B (tn A B a r))
theorem X0 {l : Rw} {Q : SV -> Prop} : pIx2 (rwD l) (.int 2) Q = Q (.d (.str (wS l.2.2))) := rfl
theorem B38 {l : Rw} {Q : SV -> Prop} : pIx2 (rwD l) (.int 1) Q = Q (.d (.str (wS l.2.1))) := rfl
theorem U2 {l : Rw} {Q : SV -> Prop} : pIx2 (rwD l) (.int 0) Q = Q (.d (dq l.1)) := rfl
theorem B5j {ms : List Rat} {i : Nat} (h : i < ms.length) : ∃ m ∈ ms, L2.atI (ms.map dq) ((i : Int) - 1) = some (dq m) := by
  rcases Nat.eq_zero_or_pos i with z | z
  · subst z
    obtain ⟨m, hm⟩ : ∃ m, ms[ms.length - 1]? = some m := ⟨_, List.getElem?_eq_getElem (by omega)⟩
    refine ⟨m, List.mem_of_getElem? hm, ?_⟩
    have e : L2.atI (ms.map dq) (-1) = some (dq m) := by
      unfold L2.atI ixN
      rw [List.length_map]
      rw [if_neg (by decide), if_pos (by omega), show (-1 + (ms.length : Int)).toNat = ms.length - 1 by omega]
      show (ms.map dq)[ms.length - 1]? = _
      rw [List.getElem?_map, hm]; rfl
    exact e
  · obtain ⟨m, hm⟩ : ∃ m, ms[i - 1]? = some m := ⟨_, List.getElem?_eq_getElem (by omega)⟩
    refine ⟨m, List.mem_of_getElem? hm, ?_⟩
    rw [show (i : Int) - 1 = ((i - 1 : Nat) : Int) by omega]
    exact M7 (by rw [List.getElem?_map, hm]; rfl)
theorem in5 {w : Wo} (h : w ≠ .no) : ([PyData.str "one", .str "other", .str "less", .str "alike", .str "more"].any fun z => z.eqv (.str (wS w))) = true := by cases w <;> first | exact absurd rfl h | decide +kernel
theorem B9r (r : Rw) : (rwD r).canLay0 = true := by
  show ((dq r.1).canLay0 && ((PyData.str (wS r.2.1)).canLay0 && ((PyData.str (wS r.2.2)).canLay0 && true))) = true
  rw [C0a, P2, P2]; rfl
theorem O0 : ∀ rs : List Rw, (PyData.list (rs.map rwD)).canLay0 = true
  | [] => rfl
  | r :: t => by
    have := O0 t
    show ((rwD r).canLay0 && (PyData.list (t.map rwD)).canLay0) = true
    rw [B9r, this]; rfl
theorem A2c (rs : List Rw) : (PyData.list (rs.map rwD)).depth <= 60 := by
  have h : ∀ rs : List Rw, PyData.depthAll (rs.map rwD) <= 3 := fun rs => by
    induction rs with
    | nil => decide
    | cons r t ih =>
      show max (rwD r).depth (PyData.depthAll (t.map rwD)) <= 3
      have : (rwD r).depth <= 3 := Nat.le_of_ble_eq_true rfl
      omega
  have := h rs
  show PyData.depthAll (rs.map rwD) + 1 <= 60
  omega
theorem A9t (rs : List Rw) : PyData.eqv (.list (rs.map rwD)) (.list (rs.map rwD)) = true := PySem.SeqAt.eqv_refl _ (O0 rs)
theorem B7l {rs : List Rw} (h : 1 <= rs.length) : PyData.eqv (.list (rs.map rwD)) (.list []) = false := by
  cases rs with
  | nil => simp at h
  | cons c r => rfl
theorem B9o {r : Rw} {Q : SV -> Prop} : A1z [rwD r] Q = Q (.d (.int 3)) := rfl
theorem lay5 : PyData.canLayAll0 [PyData.str "one", .str "other", .str "less", .str "alike", .str "more"] = true := by decide +kernel
theorem C1b (q : Rat) : Rat.divInt q.num (q.den : Int) = q := Rat.num_divInt_den q
theorem B9m {w : Wo} (h : w ≠ .no) : A16 [(.str "one", .str "other"), (.str "other", .str "one"), (.str "less", .str "more"), (.str "more", .str "less"), (.str "alike", .str "alike")] (wS w) = some (.str (wS (sw w))) := by cases w <;> first | exact absurd rfl h | decide +kernel | rfl
theorem w_ne {A B : Spr} {x : Rat} (h : A.1.1 <= x \/ B.1.1 <= x) : Wd2 A B x ≠ .no := by
  by_cases h1 : x < A.1.1
  · rw [A1s h1 (by grind)]; decide
  · by_cases h2 : x < B.1.1
    · rw [A1t (by grind) h2]; decide
    · rw [V5 (by grind) (by grind)]
      unfold sg; split
      · decide
      · split <;> decide
theorem B96 {A B : Spr} : ∀ {T : List Rat}, Gd A B T -> (∀ t ∈ T, A.1.1 <= t \/ B.1.1 <= t) -> ∀ r ∈ fr A B T, r.2.1 ≠ .no /\ r.2.2 ≠ .no
  | [], h, _, _, _ => h.elim
  | [t], _, g, r, hr => by
    have : r = (t, Wd2 A B t, Wd2 A B (t + 1)) := by simpa [fr] using hr
    subst this
    have := g t List.mem_cons_self
    exact ⟨w_ne this, w_ne (by grind)⟩
  | t :: u :: s, h, g, r, hr => by
    rcases List.mem_cons.mp (show r ∈ (t, Wd2 A B t, Wd2 A B (md t u)) :: fr A B (u :: s) from hr) with rfl | z
    · have := g t List.mem_cons_self
      have := B1h h.1
      exact ⟨w_ne (by grind), w_ne (by grind)⟩
    · exact B96 h.2.2 (fun x hx => g x (List.mem_cons_of_mem _ hx)) r z
theorem B47 {A B : Spr} {a : Rat} {r : List Rat} (hA : Sh A.1 A.2) (hB : Sh B.1 B.2) (U : Us A B a r) : RwOk (sbs A B a r) /\ (sbs A B a r).length <= 90 /\ (∀ q ∈ sbs A B a r, SmR 1210 1210 q.1 /\ q.2.1 ≠ .no /\ q.2.2 ≠ .no) /\ (∃ r0, (sbs A B a r)[0]? = some r0 /\ r0.1 = if B.1.1 < A.1.1 then B.1.1 else A.1.1) /\ (∀ x, twr .no (sbs A B a r) x = Wd2 A B x) /\ sbs B A a r = (sbs A B a r).map swr := by
  have C := U.chn hA hB
  have O := U.on hA hB
  have G := B94 C
  have sT := B4t C (on_w (O a List.mem_cons_self) (by decide)) fun b hb => on_w (O b (List.mem_cons_of_mem _ hb)) (by decide)
  have lT := A5n (A := A) (B := B) r a
  have lr := U.le
  obtain ⟨t0, et0⟩ := A5o A B a r
  have inc := G.inc
  have ha := U.hd hA hB
  have st : A.1.1 <= a \/ B.1.1 <= a := by rw [ha]; split <;> grind
  have lo : ∀ t ∈ tn A B a r, a <= t := fun t ht => by
    rw [et0] at ht inc
    rcases List.mem_cons.mp ht with rfl | z
    · exact Rat.le_refl
    · exact Rat.le_of_lt ((List.pairwise_cons.mp inc).1 t z)
  have ne := B96 G fun t ht => by have := lo t ht; grind
  have pf : ((fr A B (tn A B a r)).map (·.1)).Pairwise (· < ·) := by rw [A38]; exact inc
  obtain ⟨c1, c2, c3, _⟩ := A4f (rs := fr A B (tn A B a r)) (acc := []) ⟨fun i a b h => by simp at h⟩ (fun a z => by simp at z) pf
  refine ⟨c1, by unfold sbs; rw [B4e] at c3; simp at c3; omega, fun q hq => ?_, ?_, fun x => ?_, ?_⟩
  · have hq' : q ∈ fr A B (tn A B a r) := (c2 q hq).elim (fun z => by simp at z) id
    have hm : q.1 ∈ tn A B a r := by rw [<- A38 (A := A) (B := B) (tn A B a r)]; exact List.mem_map.mpr ⟨q, hq', rfl⟩
    exact ⟨sT q.1 hm, ne q hq'⟩
  · obtain ⟨f, ef, e1⟩ : ∃ f s, fr A B (tn A B a r) = f :: s /\ f.1 = a := by
      rw [et0]
      cases t0 with
      | nil => exact ⟨_, _, rfl, rfl⟩
      | cons u s => exact ⟨_, _, rfl, rfl⟩
    refine ⟨f, ?_, by rw [e1.2]; exact ha⟩
    unfold sbs
    rw [e1.1]
    show (cmp [f] ef)[0]? = _
    rw [e1.1] at pf
    obtain ⟨p1, p2⟩ := List.pairwise_cons.mp (show (f.1 :: ef.map (·.1)).Pairwise (· < ·) from pf)
    refine (A4f (rs := ef) (acc := [f]) ⟨fun i a b h h2 => by simp at h2⟩ (fun x hx y hy => ?_) p2).2.2.2 f rfl
    cases List.mem_singleton.mp hx
    exact p1 y.1 (List.mem_map.mpr ⟨y, hy, rfl⟩)
  · unfold sbs
    rw [A95 (fun a z => by simp at z) pf, List.nil_append]
    rw [et0] at G ⊢
    rw [B13 G]
    split
    · rename_i hx
      rw [w_no]
      · rw [ha] at hx; split at hx <;> grind
      · rw [ha] at hx; split at hx <;> grind
    · rfl
  · unfold sbs
    rw [B62 C, B95 (A := A) (B := B)]
    exact A96 (acc := [])
theorem Sh.tail {c p : Rat × Rat} {r : List (Rat × Rat)} (h : Sh c (p :: r)) : Sh (c.1 + p.1, c.2 - p.2) r :=
  ⟨h.srt.2.2.2, by have := h.le; rw [List.length_cons] at this; omega, by have := h.c0; have := h.srt.1; show 0 <= c.1 + p.1; grind, fun d hd => h.nn d (List.mem_cons_of_mem _ hd), fun d hd => h.on d (List.mem_cons_of_mem _ hd)⟩
theorem Sh.drop : ∀ {n : Nat} {c : Rat × Rat} {ps : List (Rat × Rat)}, Sh c ps -> n < (bnd c ps).length -> ∃ B : Spr, (bnd c ps).drop n = bs B /\ Sh B.1 B.2
  | 0, c, ps, h, _ => ⟨(c, ps), rfl, h⟩
  | n + 1, c, [], h, hn => by simp [bnd] at hn
  | n + 1, c, p :: r, h, hn => by
    obtain ⟨B, e, h'⟩ := Sh.drop (n := n) h.tail (by simpa [bnd] using hn)
    exact ⟨B, by show (c :: bnd _ r).drop (n + 1) = _; rw [List.drop_succ_cons]; exact e, h'⟩
theorem B42 {j : Int} (h : j <= 63) : stepN 0 j 2 <= 32 := by unfold stepN; split <;> omega
theorem A1u (A B : List (Rat × Rat)) : (PyData.list [.list (A.map dcn), .list (B.map dcn)]).canLay0 = true := by
  show ((PyData.list (A.map dcn)).canLay0 && ((PyData.list (B.map dcn)).canLay0 && true)) = true
  rw [B3s, B3s]; rfl
theorem B4s (A B : List (Rat × Rat)) : (PyData.list [.list (A.map dcn), .list (B.map dcn)]).depth <= 60 := by
  have d1 := U7 A
  have d2 := U7 B
  show max (PyData.depthAll (A.map dcn) + 1) (max (PyData.depthAll (B.map dcn) + 1) 0) + 1 <= 60
  omega
section
variable {P : Program} {w : World} {K : PySem.W.Frag} {mg : Str -> Option Value} {base : Heap} {D : Adr}
theorem G2 (T : Txt K mg D) : FnOk P w K mg base CX0 1 D.a_commonpart D.d_commonpart ["one", "other"] (Pu.spOf K [.dat, .dat] B71) := by
  refine T.F_commonpart.ok sc_commonpart (Pu.spOf.len rfl) (fun cdv A outer s H vs Q E hr h => ?_)
  refine ⟨_, (QSs.out (A4 (K4 (i := 0) (j := 1) rfl sc_commonpart.nd rfl rfl (by decide) rfl rfl (A0 (C3 A1g (by rfl) T.z_abs (by rfl) (A0 (qpv 0) A1)) (A0 (C3 A1g (by rfl) T.z_abs (by rfl) (A0 (qpv 1) A1)) A1)) rfl)
      (A4 (T3 PassesOwn.never (B4 (G7 (K := K) rfl hr.units) (qpv 1) A2 (B9 _))
        (B0 (K4 (i := 0) (j := 1) rfl sc_commonpart.nd rfl rfl (by decide) rfl rfl (A0 (qpv 1) (A0 (B7 R6 (qpv 0) (qpv 1)) A1)) rfl)))
      (B0 (B6 (qpv 0)))))), ?_⟩
  haveI := T.c2_NOUGHT
  haveI := T.c2_HALF
  haveI := T.c2_ONE
  refine Pu.E8 h ?_
  rintro as Qp ⟨a, b, rfl, k⟩
  trivial
  refine ⟨fun m e => ∃ x y : Int, e = [some (.d (.int x)), some (.d (.int y))] /\ 0 <= x /\ 0 <= y /\ m = y.toNat /\ Int.gcd x y = Int.gcd a b, ⟨_, _, _, rfl, by split <;> omega, by split <;> omega, rfl, B6n a b⟩, ?_⟩
  rintro m e ⟨x, y, rfl, hx, hy, rfl, hg⟩
  trivial
  refine ite2 (fun e => ?_) (fun hn => ?_)
  · subst e
    have := A36 x hx
    rw [hg] at this
    rw [<- this]; exact k
  · have h1 := Int.emod_lt_of_pos x (show 0 < y by omega)
    have h2 := Int.emod_nonneg x hn
    exact ⟨by omega, (x % y).toNat, by omega, y, x % y, rfl, hy, h2, rfl, by rw [A9p, hg]⟩
theorem A11 (T : Txt K mg D) : FnOk P w K mg base CX0 2 D.a_plus D.d_plus ["one", "other"] (Pu.spOf K [.dat, .dat] (A0m (·+·))) := by
  refine T.F_plus.ok sc_plus (Pu.spOf.len rfl) (fun cdv A outer s H vs Q E hr h => ?_)
  refine ⟨_, (QSs.out (A4 (B3 (i := 2) sc_plus.nd rfl (Or.inl rfl) (A6 (G2 (K := K) T) hr.mo rfl T.m_commonpart T.F_commonpart.kp (J1 T) .nil B5 (A0 (A9 (A5 (K := K) rfl) (qpv 0) A2 (fun _ _ => rfl)) (A0 (A9 (A5 (K := K) rfl) (qpv 1) A2 (fun _ _ => rfl)) A1))))
      (A4 (K4 (i := 3) (j := 4) rfl sc_plus.nd rfl rfl (by decide) rfl rfl (A0 (B7 E7 (A9 (A5 (K := K) rfl) (qpv 0) A2 (fun _ _ => rfl)) (qpv 2)) (A0 (B7 E7 (A9 (A5 (K := K) rfl) (qpv 1) A2 (fun _ _ => rfl)) (qpv 2)) A1)) rfl)
      (A4 (B3 (i := 5) sc_plus.nd rfl (Or.inl rfl) (B7 E9 (B7 D1 (A9 (A5 (K := K) rfl) (qpv 0) A2 (fun _ _ => rfl)) (qpv 4)) (B7 D1 (A9 (A5 (K := K) rfl) (qpv 1) A2 (fun _ _ => rfl)) (qpv 3))))
      (A4 (B3 (i := 6) sc_plus.nd rfl (Or.inl rfl) (A6 (G2 (K := K) T) hr.mo rfl T.m_commonpart T.F_commonpart.kp (J1 T) .nil B5 (A0 (qpv 5) (A0 (qpv 2) A1))))
      (B0 (B6 (D6 (A0 (B7 E7 (qpv 5) (qpv 6)) (A0 (B7 D1 (qpv 3) (B7 E7 (A9 (A5 (K := K) rfl) (qpv 1) A2 (fun _ _ => rfl)) (qpv 6))) A1)))))))))), ?_⟩
  haveI := T.c2_NOUGHT
  haveI := T.c2_HALF
  haveI := T.c2_ONE
  refine Pu.E8 h ?_
  rintro as Qp ⟨p, q, rfl, sp, sq, k⟩
  trivial
  refine ⟨_, _, rfl, ?_⟩
  trivial
  have p2 := sp.2.mono (l := 8000) (by decide)
  have q2 := sq.2.mono (l := 8000) (by decide)
  have g0 := Q8 (t := (p.den : Int)) q
  have gs := A0g (t := (p.den : Int)) q2 (den0 q)
  have gn : (0 : Int) <= ((Int.gcd (p.den : Int) (q.den : Int) : Nat) : Int) := Int.natCast_nonneg _
  refine ⟨⟨g0, gs⟩, ⟨g0, gs⟩, ⟨sp.1.mono (by decide), A05 q2 gn⟩, ⟨sq.1.mono (by decide), A05 p2 gn⟩, _, _, rfl, ?_⟩
  trivial
  refine ⟨⟨A37 g0, A0g gs g0⟩, ⟨A37 g0, A0g gs g0⟩, ⟨A05 p2 gn, A05 q2 (Int.natCast_nonneg _)⟩, ?_⟩
  obtain ⟨e1, e2⟩ := B5m p q _ _ rfl rfl
  rw [e1, e2]; exact k
theorem S8 (T : Txt K mg D) : FnOk P w K mg base CX0 3 D.a_minus D.d_minus ["one", "other"] (Pu.spOf K [.dat, .dat] (A0m (·-·))) := by
  refine T.F_minus.ok sc_minus (Pu.spOf.len rfl) (fun cdv A outer s H vs Q E hr h => ?_)
  refine ⟨_, (QSs.out (B0 (B6 (A6 (A11 (K := K) T) hr.mo rfl T.m_plus T.F_plus.kp (B0f T) .nil B5 (A0 (qpv 0) (A0 (D6 (A0 (O4 O2 (A9 (A5 (K := K) rfl) (qpv 1) A2 (fun _ _ => rfl))) (A0 (A9 (A5 (K := K) rfl) (qpv 1) A2 (fun _ _ => rfl)) A1))) A1)))))), ?_⟩
  haveI := T.c2_NOUGHT
  haveI := T.c2_HALF
  haveI := T.c2_ONE
  refine Pu.E8 h ?_
  rintro as Qp ⟨p, q, rfl, sp, sq, k⟩
  trivial
  rw [B99]
  refine ⟨_, _, rfl, sp, ⟨by have := sq.1; unfold Sm at *; show (-q.num).natAbs < _; omega, sq.2⟩, ?_⟩
  show Qp (.d (dq (p + -q)))
  rw [<- Rat.sub_eq_add_neg]; exact k
theorem W5 (T : Txt K mg D) : FnOk P w K mg base CX0 2 D.a_product D.d_product ["one", "other"] (Pu.spOf K [.dat, .dat] (A0m (·*·))) := by
  refine T.F_product.ok sc_product (Pu.spOf.len rfl) (fun cdv A outer s H vs Q E hr h => ?_)
  refine ⟨_, (QSs.out (A4 (K4 (i := 2) (j := 3) rfl sc_product.nd rfl rfl (by decide) rfl rfl (A0 (A6 (G2 (K := K) T) hr.mo rfl T.m_commonpart T.F_commonpart.kp (J1 T) .nil B5 (A0 (A9 (A5 (K := K) rfl) (qpv 0) A2 (fun _ _ => rfl)) (A0 (A9 (A5 (K := K) rfl) (qpv 1) A2 (fun _ _ => rfl)) A1))) (A0 (A6 (G2 (K := K) T) hr.mo rfl T.m_commonpart T.F_commonpart.kp (J1 T) .nil B5 (A0 (A9 (A5 (K := K) rfl) (qpv 1) A2 (fun _ _ => rfl)) (A0 (A9 (A5 (K := K) rfl) (qpv 0) A2 (fun _ _ => rfl)) A1))) A1)) rfl)
      (B0 (B6 (D6 (A0 (B7 D1 (B7 E7 (A9 (A5 (K := K) rfl) (qpv 0) A2 (fun _ _ => rfl)) (qpv 2)) (B7 E7 (A9 (A5 (K := K) rfl) (qpv 1) A2 (fun _ _ => rfl)) (qpv 3))) (A0 (B7 D1 (B7 E7 (A9 (A5 (K := K) rfl) (qpv 0) A2 (fun _ _ => rfl)) (qpv 3)) (B7 E7 (A9 (A5 (K := K) rfl) (qpv 1) A2 (fun _ _ => rfl)) (qpv 2))) A1))))))), ?_⟩
  haveI := T.c2_NOUGHT
  haveI := T.c2_HALF
  haveI := T.c2_ONE
  refine Pu.E8 h ?_
  rintro as Qp ⟨p, q, rfl, sp, sq, k⟩
  trivial
  refine ⟨_, _, rfl, ?_⟩
  trivial
  refine ⟨_, _, rfl, ?_⟩
  trivial
  have p1 := sp.1.mono (l := 8000) (by decide)
  have q1 := sq.1.mono (l := 8000) (by decide)
  have p2 := sp.2.mono (l := 8000) (by decide)
  have q2 := sq.2.mono (l := 8000) (by decide)
  have g0 := Q8 (t := p.num) q
  have gs := A0g (t := p.num) q2 (den0 q)
  have h0 := Q8 (t := q.num) p
  have hs := A0g (t := q.num) p2 (den0 p)
  refine ⟨⟨g0, gs⟩, ⟨h0, hs⟩, ⟨A05 p1 (Int.natCast_nonneg _), A05 q1 (Int.natCast_nonneg _)⟩, ⟨h0, hs⟩, ⟨g0, gs⟩, ⟨A05 p2 (Int.natCast_nonneg _), A05 q2 (Int.natCast_nonneg _)⟩, ?_⟩
  rw [B9i, B9j]; exact k
theorem A7i (T : Txt K mg D) : FnOk P w K mg base CX0 3 D.a_parted D.d_parted ["one", "other"] (Pu.spOf K [.dat, .dat] A55) := by
  refine T.F_parted.ok sc_parted (Pu.spOf.len rfl) (fun cdv A outer s H vs Q E hr h => ?_)
  refine ⟨_, (QSs.out (A4 (B49 (qpv 1) (K6 (K := K) (n := 2) rfl rfl (D2 (C2 (i := 2) sc_parted.nd rfl (Or.inl rfl) (Or.inl rfl)) (D2 (C2 (i := 3) sc_parted.nd rfl (Or.inl rfl) (Or.inl rfl)) K5)) rfl rfl))
      (A4 (D0 (B4 (D7 (K := K) rfl hr.units) (qpv 2) A2 (B9 _))
        (B0 A5z)
        C1)
      (B0 (B6 (A6 (W5 (K := K) T) hr.mo rfl T.m_product T.F_product.kp (A1m T) .nil B5 (A0 (qpv 0) (A0 (T4 (B4 A0u (qpv 2) A2 (B9 _)) (D6 (A0 (qpv 3) (A0 (qpv 2) A1))) (D6 (A0 (O4 O2 (qpv 3)) (A0 (O4 O2 (qpv 2)) A1)))) A1)))))))), ?_⟩
  haveI := T.c2_NOUGHT
  haveI := T.c2_HALF
  haveI := T.c2_ONE
  refine Pu.E8 h ?_
  rintro as Qp ⟨p, q, rfl, sp, sq, hq, k⟩
  trivial
  rw [if_neg (A8e hq)]
  have e := A9j hq
  have kk : Qp (.d (dq (p * q⁻¹))) := by rw [<- Rat.div_def]; exact k
  refine ite2 (fun h => ?_) (fun h => ?_)
  · rw [if_pos h, if_pos h] at e
    trivial
    rw [<- e]
    exact ⟨_, _, rfl, sp, B4b sq hq, kk⟩
  · rw [if_neg h, if_neg h] at e
    trivial
    rw [<- e]
    exact ⟨_, _, rfl, sp, B4b sq hq, kk⟩
theorem U0 (T : Txt K mg D) : FnOk P w K mg base CX0 1 D.a_isless D.d_isless ["one", "other"] (Pu.spOf K [.dat, .dat] A56) := by
  refine T.F_isless.ok sc_isless (Pu.spOf.len rfl) (fun cdv A outer s H vs Q E hr h => ?_)
  refine ⟨_, (QSs.out (B0 (B6 (F3 A45 (B7 D1 (A9 (A5 (K := K) rfl) (qpv 0) A2 (fun _ _ => rfl)) (A9 (A5 (K := K) rfl) (qpv 1) A2 (fun _ _ => rfl))) (B7 D1 (A9 (A5 (K := K) rfl) (qpv 1) A2 (fun _ _ => rfl)) (A9 (A5 (K := K) rfl) (qpv 0) A2 (fun _ _ => rfl))) (B9 _))))), ?_⟩
  haveI := T.c2_NOUGHT
  haveI := T.c2_HALF
  haveI := T.c2_ONE
  refine Pu.E8 h ?_
  rintro as Qp ⟨p, q, rfl, sp, sq, k⟩
  trivial
  have p1 := sp.1.mono (l := 8000) (by decide)
  have p2 := sp.2.mono (l := 8000) (by decide)
  have q1 := sq.1.mono (l := 8000) (by decide)
  have q2 := sq.2.mono (l := 8000) (by decide)
  refine ⟨⟨p1, q2⟩, ⟨q1, p2⟩, ?_⟩
  rw [A3r]; exact k
def A43 : Pu.PSp := fun as Q => ∃ (a b s : Rat) (n1 d1 n2 d2 : Nat), as = [.d (dq a), .d (dq b), .d (dq s)] /\ SmR n1 d1 a /\ SmR n1 d1 b /\ SmR n2 d2 s /\ n2 + (n1 + d1 + 1) <= 3900 /\ d2 + (d1 + d1) <= 3900 /\ Q (.d (dq (a + s * (b - a))))
theorem Q1 (T : Txt K mg D) : FnOk P w K mg base CX0 4 D.a_between D.d_between ["one", "other", "share"] (Pu.spOf K [.dat, .dat, .dat] A43) := by
  refine T.F_between.ok sc_between (Pu.spOf.len rfl) (fun cdv A outer s H vs Q E hr h => ?_)
  refine ⟨_, (QSs.out (B0 (B6 (A6 (A11 (K := K) T) hr.mo rfl T.m_plus T.F_plus.kp (B0f T) .nil B5 (A0 (qpv 0) (A0 (A6 (W5 (K := K) T) hr.mo rfl T.m_product T.F_product.kp (A1m T) .nil B5 (A0 (qpv 2) (A0 (A6 (S8 (K := K) T) hr.mo rfl T.m_minus T.F_minus.kp (Z9 T) .nil B5 (A0 (qpv 1) (A0 (qpv 0) A1))) A1))) A1)))))), ?_⟩
  haveI := T.c2_NOUGHT
  haveI := T.c2_HALF
  haveI := T.c2_ONE
  refine Pu.E8 h ?_
  rintro as Qp ⟨a, b, s, n1, d1, n2, d2, rfl, sa, sb, ss, h1, h2, k⟩
  trivial
  have sd : SmR (n1 + d1 + 1) (d1 + d1) (b - a) := (sb.sub sa).mono (by omega) (by omega)
  refine ⟨b, a, rfl, sb.q (by omega) (by omega), sa.q (by omega) (by omega), ?_⟩
  trivial
  refine ⟨s, b - a, rfl, ss.q (by omega) (by omega), sd.q (by omega) (by omega), ?_⟩
  trivial
  exact ⟨a, s * (b - a), rfl, sa.q (by omega) (by omega), (ss.mul sd).q (by omega) (by omega), k⟩
def T5 : Pu.PSp := fun as Q => ∃ (a b t : Rat) (n1 d1 n2 d2 : Nat), as = [.d (dq a), .d (dq b), .d (dq t)] /\ SmR n1 d1 a /\ SmR n1 d1 b /\ SmR n2 d2 t /\ n1 + d1 + 1 <= 3900 /\ d1 + d1 <= 3900 /\ n2 + d1 + 1 <= 3900 /\ n1 + d2 + 1 <= 3900 /\ d2 + d1 <= 3900 /\ b - a ≠ 0 /\ Q (.d (dq ((t - a) / (b - a))))
theorem M1 (T : Txt K mg D) : FnOk P w K mg base CX0 4 D.a_sharebetween D.d_sharebetween ["one", "other", "at"] (Pu.spOf K [.dat, .dat, .dat] T5) := by
  refine T.F_sharebetween.ok sc_sharebetween (Pu.spOf.len rfl) (fun cdv A outer s H vs Q E hr h => ?_)
  refine ⟨_, (QSs.out (B0 (B6 (A6 (A7i (K := K) T) hr.mo rfl T.m_parted T.F_parted.kp (B1v T) .nil B5 (A0 (A6 (S8 (K := K) T) hr.mo rfl T.m_minus T.F_minus.kp (Z9 T) .nil B5 (A0 (qpv 2) (A0 (qpv 0) A1))) (A0 (A6 (S8 (K := K) T) hr.mo rfl T.m_minus T.F_minus.kp (Z9 T) .nil B5 (A0 (qpv 1) (A0 (qpv 0) A1))) A1)))))), ?_⟩
  haveI := T.c2_NOUGHT
  haveI := T.c2_HALF
  haveI := T.c2_ONE
  refine Pu.E8 h ?_
  rintro as Qp ⟨a, b, t, n1, d1, n2, d2, rfl, sa, sb, st, h1, h2, h3, h4, h5, hn, k⟩
  trivial
  have sd : SmR (n1 + d1 + 1) (d1 + d1) (b - a) := (sb.sub sa).mono (by omega) (by omega)
  refine ⟨t, a, rfl, st.q (by omega) (by omega), sa.q (by omega) (by omega), ?_⟩
  trivial
  refine ⟨b, a, rfl, sb.q (by omega) (by omega), sa.q (by omega) (by omega), ?_⟩
  trivial
  exact ⟨t - a, b - a, rfl, (st.sub sa).q (by omega) (by omega), sd.q (by omega) (by omega), hn, k⟩
def A41 : Pu.PSp := fun as Q => ∃ (cs : List (Rat × Rat)) (w : Rat), as = [.bor (cs.map dcn), .d (dq w)] /\ Gs cs /\ SmR 2450 2450 w /\ ∀ m : Nat, m <= cs.length -> (∀ (j : Nat) c, j < m -> cs[j]? = some c -> ¬ w < c.1) -> (∀ (j : Nat) c, m <= j -> cs[j]? = some c -> w < c.1) -> Q (.d (if m = 0 then .none else .int ((m : Int) - 1)))
theorem A46 (T : Txt K mg D) : FnOk P w K mg base CX0 2 D.a_pieceat D.d_pieceat ["shape", "whole"] (Pu.spOf K [.vw, .dat] A41) := by
  refine T.F_pieceat.ok sc_pieceat (Pu.spOf.len rfl) (fun cdv A outer s H vs Q E hr h => ?_)
  refine ⟨_, (QSs.out (A4 (B3 (i := 2) sc_pieceat.nd rfl (Or.inl rfl) (C3 (C4 (K := K) rfl) (by rfl) T.z_len PySem.boot_len (A0 (M9 rfl (F1 (N' := ["whole", "bend"]) (cap := [some 1, none]) rfl rfl rfl rfl (by decide +kernel) rfl rfl) (G6 (K := K) rfl (qpv 0)) (fun _ _ _ => (C2 (i := 1) (show (["whole", "bend"] : List Str).Nodup from by decide +kernel) rfl (Or.inl rfl) (Or.inr rfl))) (fun _ _ _ => (B0w (K2 (D8 (A6 (U0 (K := K) T) hr.mo rfl T.m_isless T.F_isless.kp (A0a T) .nil B5 (A0 (qpv 0) (A0 (A9 (A5 (K := K) rfl) (qpv 1) A2 (fun _ _ => rfl)) A1))))))) (fun _ _ _ => (qpv 1))) A1)))
      (B0 (B6 (T4 (B4 (D7 (K := K) rfl hr.units) (qpv 2) A2 (B9 _)) F2 (B7 R5 (qpv 2) A2)))))), ?_⟩
  haveI := T.c2_NOUGHT
  haveI := T.c2_HALF
  haveI := T.c2_ONE
  refine Pu.E8 h ?_
  rintro as Qp ⟨cs, w, rfl, sh, sw, k⟩
  have hl := sh.le
  trivial
  refine ⟨by omega, ⟨fun i e ys => ∃ o : Option SV, e = [some (.d (dq w)), o] /\ ys = ((cs.take i).filter fun c => !decide (w < c.1)).map dcn, ⟨_, rfl, rfl⟩, ?_, ?_⟩⟩
  · rintro i x e ys hx ⟨o, rfl, rfl⟩
    rw [List.getElem?_map] at hx
    obtain ⟨c, hc, rfl⟩ := Option.map_eq_some_iff.mp hx
    have sc := sh.sm c (List.mem_of_getElem? hc)
    have et : (cs.take (i + 1)).filter (fun c => !decide (w < c.1)) = (cs.take i).filter (fun c => !decide (w < c.1)) ++ [c].filter (fun c => !decide (w < c.1)) := by
      rw [List.take_succ, hc, List.filter_append]; rfl
    trivial
    refine ⟨_, _, rfl, sw.q (by decide) (by decide), sc.1.q (by decide) (by decide), ?_⟩
    trivial
    refine ite2 (fun h => ⟨_, rfl, ?_⟩) (fun h => ⟨_, rfl, ?_⟩)
    · rw [et, List.filter_cons, if_neg (by simp [h]), List.filter_nil, List.append_nil]
    · rw [et, List.filter_cons, if_pos (by simp [h]), List.filter_nil, List.map_append]; rfl
  · rintro e ys ⟨o, rfl, rfl⟩
    rw [List.length_map, List.take_length]
    obtain ⟨m, em, h1, h2, h3⟩ := T7 w sh.ri
    have k := k m h1 h2 h3
    trivial
    rw [em]
    refine ite2 (fun h => ?_) (fun h => ?_)
    · rw [if_pos (by omega)] at k; exact k
    · rw [if_neg (by omega)] at k; exact k
def A40 : Pu.PSp := fun as Q => ∃ (cs : List (Rat × Rat)) (w : Rat), as = [.bor (cs.map dcn), .d (dq w)] /\ Gs cs /\ SmR 2450 2450 w /\ Q (.d (evD cs w))
theorem N0 (T : Txt K mg D) : FnOk P w K mg base CX0 5 D.a_priceat D.d_priceat ["shape", "whole"] (Pu.spOf K [.vw, .dat] A40) := by
  refine T.F_priceat.ok sc_priceat (Pu.spOf.len rfl) (fun cdv A outer s H vs Q E hr h => ?_)
  refine ⟨_, (QSs.out (A4 (B3 (i := 2) sc_priceat.nd rfl (Or.inl rfl) (A6 (A46 (K := K) T) hr.mo rfl T.m_pieceat T.F_pieceat.kp (B0g T) .nil B5 (A0 (qpv 0) (A0 (qpv 1) A1))))
      (A4 (D0 (B4 N9 (qpv 2) F2 (B9 _))
        (B0 (B6 F2))
        C1)
      (A4 (D0 (B4 (D7 (K := K) rfl hr.units) (qpv 2) (B7 R5 (C3 (C4 (K := K) rfl) (by rfl) T.z_len PySem.boot_len (A0 (qpv 0) A1)) A2) (B9 _))
        (B0 (B6 (A9 (A5 (K := K) rfl) (A9 (A5 (K := K) rfl) (qpv 0) (qpv 2) (fun _ _ => rfl)) A2 (fun _ _ => rfl))))
        C1)
      (B0 (B6 (A6 (Q1 (K := K) T) hr.mo rfl T.m_between T.F_between.kp (V2 T) .nil B5 (A0 (A9 (A5 (K := K) rfl) (A9 (A5 (K := K) rfl) (qpv 0) (qpv 2) (fun _ _ => rfl)) A2 (fun _ _ => rfl)) (A0 (A9 (A5 (K := K) rfl) (A9 (A5 (K := K) rfl) (qpv 0) (B7 E9 (qpv 2) A2) (fun _ _ => rfl)) A2 (fun _ _ => rfl)) (A0 (A6 (M1 (K := K) T) hr.mo rfl T.m_sharebetween T.F_sharebetween.kp (N7 T) .nil B5 (A0 (A9 (A5 (K := K) rfl) (A9 (A5 (K := K) rfl) (qpv 0) (qpv 2) (fun _ _ => rfl)) A2 (fun _ _ => rfl)) (A0 (A9 (A5 (K := K) rfl) (A9 (A5 (K := K) rfl) (qpv 0) (B7 E9 (qpv 2) A2) (fun _ _ => rfl)) A2 (fun _ _ => rfl)) (A0 (qpv 1) A1)))) A1)))))))))), ?_⟩
  haveI := T.c2_NOUGHT
  haveI := T.c2_HALF
  haveI := T.c2_ONE
  refine Pu.E8 h ?_
  rintro as Qp ⟨cs, w, rfl, sh, sw, k⟩
  have hl := sh.le
  have hne := sh.ne
  have e0 : cs[0]? = some cs[0] := List.getElem?_eq_getElem (by omega)
  trivial
  refine ⟨cs, w, rfl, sh, sw, fun m h1 h2 h3 => ?_⟩
  by_cases hm : m = 0
  · subst hm
    rw [if_pos rfl]
    trivial
    unfold evD at k
    rw [Z6 e0, if_pos (h3 0 _ (Nat.le_refl _) e0)] at k
    exact k
  · rw [if_neg hm]
    have k : Qp (.d (dq (ev cs w))) := by
      unfold evD at k
      rwa [Z6 e0, if_neg (h2 0 _ (by omega) e0)] at k
    obtain ⟨c, hc⟩ : ∃ c, cs[m - 1]? = some c := ⟨_, List.getElem?_eq_getElem (by omega)⟩
    have hcw := h2 (m - 1) c (by omega) hc
    have sc := sh.sm c (List.mem_of_getElem? hc)
    have em : ((m : Int) - 1) = ((m - 1 : Nat) : Int) := by omega
    rw [em]
    trivial
    refine ite2 (fun h => ?_) (fun h => ?_)
    · refine B8 (n := m - 1) hc ?_
      trivial
      rw [Q9 sh.ri (c := c) (by rw [show cs.length - 1 = m - 1 by omega]; exact hc) hcw] at k
      exact k
    · obtain ⟨d, hd⟩ : ∃ c, cs[m - 1 + 1]? = some c := ⟨_, List.getElem?_eq_getElem (by omega)⟩
      have hdw := h3 (m - 1 + 1) d (by omega) hd
      have s2 := sh.sm d (List.mem_of_getElem? hd)
      have lt := (sh.ri _ c d hc hd).1
      have sa : SmR 2800 2800 ((w - c.1) / (d.1 - c.1)) := ((sw.sub sc.1).div (s2.1.sub sc.1) (by grind)).mono (by decide) (by decide)
      refine B8 (n := m - 1) hc ?_
      trivial
      refine B8 (n := m - 1 + 1) hd ?_
      trivial
      refine B8 (n := m - 1) hc ?_
      trivial
      refine B8 (n := m - 1 + 1) hd ?_
      trivial
      refine ⟨_, _, _, 150, 90, 2450, 2450, rfl, sc.1, s2.1, sw, by decide, by decide, by decide, by decide, by decide, by grind, ?_⟩
      trivial
      refine ⟨_, _, _, 295, 182, 2800, 2800, rfl, sc.2, s2.2, sa, by decide, by decide, ?_⟩
      trivial
      rw [X1 sh.ri hc hd hcw hdw] at k
      have e : c.2 + (w - c.1) / (d.1 - c.1) * (d.2 - c.2) = c.2 - fl c d * (w - c.1) := by
        unfold fl; rw [Rat.div_def, Rat.div_def]; grind
      rw [e]; exact k
def T6 : Pu.PSp := fun as Q => ∃ A B : List (Rat × Rat), as = [.bor (A.map dcn), .bor (B.map dcn)] /\ Gs A /\ Gs B /\ (A.map (·.1)).Pairwise (· < ·) /\ (B.map (·.1)).Pairwise (· < ·) /\ ∀ us : List Rat, us.Pairwise (· < ·) -> (∀ z, z ∈ us ↔ z ∈ A.map (·.1) \/ z ∈ B.map (·.1)) -> us.length <= A.length + B.length -> Q (.own (us.map dq))
theorem T9 (T : Txt K mg D) : FnOk P w K mg base CX0 2 D.a_mergedwholes D.d_mergedwholes ["one", "other"] (Pu.spOf K [.vw, .vw] T6) := by
  refine T.F_mergedwholes.ok sc_mergedwholes (Pu.spOf.len rfl) (fun cdv A outer s H vs Q E hr h => ?_)
  refine ⟨_, (QSs.out (A4 (B3 (i := 2) sc_mergedwholes.nd rfl (Or.inl rfl) (D3 A1))
      (A4 (C0w (K4 (i := 3) (j := 4) rfl sc_mergedwholes.nd rfl rfl (by decide) rfl rfl (A0 (M9 rfl (F1 (N' := ["bend"]) (cap := [none]) rfl rfl rfl rfl (by decide +kernel) rfl rfl) (G6 (K := K) rfl (qpv 0)) (fun _ _ _ => (C2 (i := 0) (show (["bend"] : List Str).Nodup from by decide +kernel) rfl (Or.inl rfl) (Or.inr rfl))) (fun _ _ _ => G0) (fun _ _ _ => (A9 (A5 (K := K) rfl) (qpv 0) A2 (fun _ _ => rfl)))) (A0 (M9 rfl (F1 (N' := ["bend"]) (cap := [none]) rfl rfl rfl rfl (by decide +kernel) rfl rfl) (G6 (K := K) rfl (qpv 1)) (fun _ _ _ => (C2 (i := 0) (show (["bend"] : List Str).Nodup from by decide +kernel) rfl (Or.inl rfl) (Or.inr rfl))) (fun _ _ _ => G0) (fun _ _ _ => (A9 (A5 (K := K) rfl) (qpv 0) A2 (fun _ _ => rfl)))) A1)) rfl))
      (A4 (T3 PassesOwn.never (QW.pt (L8 (B4 A0u (C3 (C4 (K := K) rfl) (by rfl) T.z_len PySem.boot_len (A0 (qpv 3) A1)) A2 (B9 _)) (K0 (B4 A0u (C3 (C4 (K := K) rfl) (by rfl) T.z_len PySem.boot_len (A0 (qpv 4) A1)) A2 (B9 _)))))
        (A4 (D0 (QW.pt (L8 (B4 (D7 (K := K) rfl hr.units) (C3 (C4 (K := K) rfl) (by rfl) T.z_len PySem.boot_len (A0 (qpv 4) A1)) A2 (B9 _)) (K0 (QW.pt (K1 (B4 A0u (C3 (C4 (K := K) rfl) (by rfl) T.z_len PySem.boot_len (A0 (qpv 3) A1)) A2 (B9 _)) (J0 (D8 (A6 (U0 (K := K) T) hr.mo rfl T.m_isless T.F_isless.kp (A0a T) .nil B5 (A0 (A9 (A5 (K := K) rfl) (qpv 3) A2 (fun _ _ => rfl)) (A0 (A9 (A5 (K := K) rfl) (qpv 4) A2 (fun _ _ => rfl)) A1))))))))))
          (B0 (B3 (i := 5) sc_mergedwholes.nd rfl (Or.inl rfl) (J2 (K := K) rfl PySem.F.plainAttrs_list PySem.F.slot_list_pop PySem.F.type_list_pop A3o (qpv 3) (A0 A2 A1))))
          (B0 (B3 (i := 5) sc_mergedwholes.nd rfl (Or.inl rfl) (J2 (K := K) rfl PySem.F.plainAttrs_list PySem.F.slot_list_pop PySem.F.type_list_pop A3o (qpv 4) (A0 A2 A1)))))
        (B0 (D0 (QW.pt (L8 (B4 (D7 (K := K) rfl hr.units) (C3 (C4 (K := K) rfl) (by rfl) T.z_len PySem.boot_len (A0 (qpv 2) A1)) A2 (B9 _)) (K0 (B4 (G7 (K := K) rfl hr.units) (A9 (A5 (K := K) rfl) (qpv 2) (O4 O2 A2) (fun _ _ => rfl)) (qpv 5) (B9 _)))))
          (B0 (G1 (J2 (K := K) rfl PySem.F.plainAttrs_list PySem.F.slot_list_append PySem.F.type_list_append F4 (qpv 2) (A0 (qpv 5) A1))))
          C1))))
      (B0 (B6 (qpv 2))))))), ?_⟩
  haveI := T.c2_NOUGHT
  haveI := T.c2_HALF
  haveI := T.c2_ONE
  refine Pu.E8 h ?_
  rintro as Qp ⟨A, B, rfl, ga, gb, pa, pb, k⟩
  have hla := ga.le
  have hlb := gb.le
  refine hd fun R hR => ?_
  trivial
  subst hR
  refine hd fun R hR => ?_
  trivial
  refine ⟨by omega, N4 (fun i e ys => ∃ o : Option SV, e = [o] /\ ys = ((A.take i).map (·.1)).map dq) ⟨_, rfl, rfl⟩ ?_ ?_⟩
  · rintro i c e ys hc ⟨o, rfl, rfl⟩
    trivial
    exact ⟨_, rfl, by rw [List.take_succ, hc]; simp⟩
  rintro e ys ⟨o, rfl, rfl⟩
  rw [List.take_length]
  trivial
  refine fun a => ⟨by omega, N4 (fun i e ys => ∃ o : Option SV, e = [o] /\ ys = ((B.take i).map (·.1)).map dq) ⟨_, rfl, rfl⟩ ?_ ?_⟩
  · rintro i c e ys hc ⟨o, rfl, rfl⟩
    trivial
    exact ⟨_, rfl, by rw [List.take_succ, hc]; simp⟩
  rintro e ys ⟨o, rfl, rfl⟩
  rw [List.take_length]
  trivial
  refine fun b _ _ => ⟨_, _, _, _, rfl, by decide, ?_⟩
  subst hR
  refine B0m (fun m e => ∃ (us ls rs : List Rat) (o : Option SV), e = [some (.bor (A.map dcn)), some (.bor (B.map dcn)), some (.own (us.map dq)), some (.own (ls.map dq)), some (.own (rs.map dq)), o] /\ m = ls.length + rs.length /\ MW (A.map (·.1)) (B.map (·.1)) us ls rs) ⟨_, [], _, _, none, rfl, rfl, ⟨List.Pairwise.nil, pa, pb, fun a z => (nomatch z), fun a z => (nomatch z), fun z => by simp, by simp⟩⟩ ?_
  have sA : ∀ z, z ∈ A.map (·.1) \/ z ∈ B.map (·.1) -> SmQ 3900 z := fun z hz => by
    rcases hz with hz | hz <;> obtain ⟨c, hc, rfl⟩ := List.mem_map.mp hz
    · exact (ga.sm c hc).1.q (by decide) (by decide)
    · exact (gb.sm c hc).1.q (by decide) (by decide)
  rintro m e ⟨us, ls, rs, o, rfl, rfl, M⟩
  have hle := M.le
  rw [List.length_map, List.length_map] at hle
  refine B6y (fun e' => ∃ (x : Rat) (ls' rs' : List Rat), e' = [some (.bor (A.map dcn)), some (.bor (B.map dcn)), some (.own (us.map dq)), some (.own (ls'.map dq)), some (.own (rs'.map dq)), some (.d (dq x))] /\ ls'.length + rs'.length < ls.length + rs.length /\ (∀ a, us[us.length - 1]? = some a -> a = x -> MW (A.map (·.1)) (B.map (·.1)) us ls' rs') /\ ((∀ a, us[us.length - 1]? = some a -> a ≠ x) -> MW (A.map (·.1)) (B.map (·.1)) (us ++ [x]) ls' rs')) ?_ ?_
  · rintro e ⟨x, ls', rs', rfl, hlt, m1, m2⟩
    trivial
    refine ite2 (fun h => ?_) (fun h => ?_)
    · have : us = [] := List.eq_nil_of_length_eq_zero (by omega)
      subst this
      exact ⟨by decide, _, hlt, [x], ls', rs', _, rfl, rfl, m2 fun a z => by simp at z⟩
    · obtain ⟨z, hz⟩ : ∃ z, us[us.length - 1]? = some z := ⟨_, List.getElem?_eq_getElem (by omega)⟩
      refine O9 hz (by omega) ?_
      trivial
      refine ite2 (fun g => ?_) (fun g => ?_)
      · exact ⟨_, hlt, us, ls', rs', _, rfl, rfl, m1 z hz g⟩
      · exact ⟨by omega, _, hlt, us ++ [x], ls', rs', _, by rw [List.map_append]; rfl, rfl, m2 fun a ha => by rw [hz] at ha; cases ha; exact g⟩
  · intro R hR
    cases ls with
    | nil =>
      cases rs with
      | nil =>
        trivial
        rw [if_neg (by decide), if_neg (by decide)]
        trivial
        refine k us M.u (fun z => ?_) ?_
        · have := M.mem z; simp at this; simpa using this
        · omega
      | cons y rs =>
        have P := MW.pick M.comm (x := y) (ls := rs) (rs := []) fun z h => nomatch h
        trivial
        rw [if_neg (by decide), if_pos (by omega), if_neg (by omega), if_neg (by decide)]
        trivial
        refine ⟨_, _, rfl, hR _ ⟨y, [], rs, rfl, by simp, fun a ha e => (P.1 a ha e).comm, fun h => (P.2 h).comm⟩⟩
    | cons x ls =>
      cases rs with
      | nil =>
        have P := MW.pick M (x := x) (ls := ls) (rs := []) fun z h => nomatch h
        trivial
        rw [if_pos (by omega), if_pos (by decide)]
        trivial
        refine ⟨_, _, rfl, hR _ ⟨x, ls, [], rfl, by simp, P.1, P.2⟩⟩
      | cons y rs =>
        have hx := sA x ((M.mem x).mp (by simp))
        have hy := sA y ((M.mem y).mp (by simp))
        trivial
        rw [if_pos (by omega), if_neg (by omega), if_pos (by omega)]
        refine ⟨_, _, rfl, hx, hy, ?_⟩
        trivial
        refine ite2 (fun h => ?_) (fun h => ?_)
        · have P := MW.pick M (x := x) (ls := ls) (rs := y :: rs) fun z hz => by
            rcases List.mem_cons.mp hz with rfl | z'
            · exact Rat.le_of_lt h
            · have := (List.pairwise_cons.mp M.r).1 z z'; grind
          refine ⟨_, _, rfl, hR _ ⟨x, ls, y :: rs, rfl, by simp, P.1, P.2⟩⟩
        · have P := MW.pick M.comm (x := y) (ls := rs) (rs := x :: ls) fun z hz => by
            rcases List.mem_cons.mp hz with rfl | z'
            · grind
            · have := (List.pairwise_cons.mp M.l).1 z z'; grind
          refine ⟨_, _, rfl, hR _ ⟨y, x :: ls, rs, rfl, by simp, fun a ha e => (P.1 a ha e).comm, fun h => (P.2 h).comm⟩⟩
theorem A48 (T : Txt K mg D) : FnOk P w K mg base CX0 1 D.a_Lbegun D.d_Lbegun ["_law_script", "_law_k"] (A2o K) := by
  refine T.F_Lbegun.ok sc_Lbegun (fun vs H Q E h => ?_) (fun cdv A outer s H vs Q E hr h => ?_)
  · obtain ⟨a, ns, k, rfl, _⟩ := h; rfl
  · obtain ⟨a, ns, k, rfl, ha, k0, k1, kk⟩ := h
    refine ⟨_, (F7 (W1 (i := 2) sc_Lbegun.nd rfl (Or.inl rfl) D5)
      (F7 (B5h (A52 A45 (pv 1) (A22 call_len_seq (by rfl) T.z_len PySem.boot_len (N8 (pv 0) A0s)) (B9 _))
        (P9 (W1 (i := 2) sc_Lbegun.nd rfl (Or.inl rfl) (Z0 ix_list (pv 0) (pv 1) (fun _ _ => rfl))))
        A1x)
      (P9 (A2z (B2d (N8 (pv 2) (N8 (I0 R6 (I0 E9 (I0 E9 (I0 R6 (pv 2) D5) (I0 D1 (I0 D1 D5 (pv 1)) (pv 1))) D5) D5) (N8 (Z1 C09 (pv 2) (I0 A7f D5 D5) (B9 _)) A0s)))))))), ?_⟩
    have fin : ∀ c : Int, ∃ v, ([some (V.ref a), some (V.int k), some (V.int c)] : St)[2]? = some (some v) /\
        (L9 (tOp (rI (fun _ j => 0 < j) fun i j => .int (i % j)) (tOp (rI0 fun i j => .int (i + j)) (tOp (rI0 fun i j => .int (i + j)) (tOp (rI (fun _ j => 0 < j) fun i j => .int (i % j)) (tVar 2) (tC (.int 2147483587)))
          (tOp (rI B6x fun i j => .int (i * j)) (tOp (rI B6x fun i j => .int (i * j)) (tC (.int 104729)) (tVar 1)) (tVar 1))) (tC (.int 7))) (tC (.int 2147483587)))
          (L9 (tOp (rI0 fun i j => .bl (decide (j <= i))) (tVar 2) (tOp (rI CPow fun i j => .int (i ^ j.toNat)) (tC (.int 10)) (tC (.int 18)))) tNil)) [some (V.ref a), some (V.int k), some (V.int c)] H
          fun xs H1 => (v :: xs).length <= sizeLine /\ ∀ p, H1 p = none -> Q (.ref p) (upd H1 p (.lst (v :: xs))) := by
      intro c
      refine ⟨_, rfl, _, rfl, _, _, rfl, rfl, (by show (0 : Int) < 2147483587; decide), _, rfl, _, _, rfl, rfl, ⟨V8 0, A2p k0 k1⟩, _, rfl, _, _, rfl, rfl, ⟨(Sm.mul (k := 20) (l := 20) (by unfold Sm; decide) (B7a k0 k1)).mono (by decide), A2p k0 k1⟩,
        _, _, rfl, rfl, _, _, rfl, rfl, _, _, rfl, rfl, (by show (0 : Int) < 2147483587; decide), _, rfl, _, _, rfl, rfl, A94 18, _, _, rfl, rfl, by show 3 <= sizeLine; decide, fun p hp => ?_⟩
      have e1 := Int.emod_nonneg (c % 2147483587 + 104729 * k * k + 7) (show (2147483587 : Int) ≠ 0 by decide)
      have e2 := Int.emod_lt_of_pos (c % 2147483587 + 104729 * k * k + 7) (show (0 : Int) < 2147483587 by decide)
      exact kk p _ hp ⟨_, _, _, C9, e1, by omega⟩ (Same.upd hp).kp
    refine ⟨_, rfl, _, rfl, a, _, rfl, .inl ha, _, _, rfl, rfl, _, rfl, ?_⟩
    refine ifD (fun hn => ?_) (fun hn => ?_)
    · have hk : (ns.map V.int)[k.toNat]? = some (V.int (ns.getD k.toNat 0)) := by
        have hlt : k.toNat < ns.length := by rw [List.length_map] at hn; omega
        rw [List.getElem?_map, List.getElem?_eq_getElem hlt, List.getD_eq_getElem?_getD, List.getElem?_eq_getElem hlt]; rfl
      have hk' : atI (ns.map V.int) k = some (V.int (ns.getD k.toNat 0)) := by
        have := M7 hk
        rwa [show ((k.toNat : Nat) : Int) = k by omega] at this
      refine ⟨_, rfl, _, rfl, a, _, k, _, rfl, rfl, ha, hk', ?_⟩
      exact fin _
    · exact fin 0
theorem A0y (T : Txt K mg D) : FnOk P w K mg base CX0 1 D.a_Lbegun D.d_Lbegun ["_law_script", "_law_k"] (Pu.spOf K [.vw, .dat] Pu.A20) := FnOk.imp (A48 T) Pu.B1u
theorem A7j (T : Txt K mg D) : FnOk P w K mg base CX0 1 D.a_Ltake D.d_Ltake ["_law_state", "_law_many"] A5s := by
  refine T.F_Ltake.ok sc_Ltake (fun vs H Q E h => ?_) (fun cdv A outer s H vs Q E hr h => ?_)
  · obtain ⟨p, n, rfl, _⟩ := h; rfl
  · obtain ⟨p, n, rfl, S0, n0, sn, k⟩ := h
    refine ⟨_, (F7 (B5h (B2b (Z0 ix_list (pv 0) D5 (fun _ _ => rfl)))
        (F7 (W1 (i := 2) sc_Ltake.nd rfl (Or.inl rfl) (I0 R6 (Z0 ix_list (pv 0) D5 (fun _ _ => rfl)) (pv 1)))
        (F7 (A21 (I0 E7 (Z0 ix_list (pv 0) D5 (fun _ _ => rfl)) (pv 1)) (A6h (pv 0) D5 Y3))
        (F7 (A21 (Z1 A0u (Z0 ix_list (pv 0) D5 (fun _ _ => rfl)) D5 (B9 _)) (A6h (pv 0) D5 Y3))
        (P9 (A2z (pv 2))))))
        A1x)
      (F7 (W1 (i := 3) sc_Ltake.nd rfl (Or.inl rfl) D5)
      (F7 (B2c PassesOwn.never rfl (A0p rfl T.z_range (N8 (I0 E9 D5 (I0 D1 D5 (A0q A1f (by rfl) T.z_int (by rfl) (N8 (Z1 A0u (pv 1) (I0 A7f D5 D5) (B9 _)) A0s)))) A0s)) (A6i (i := 4) sc_Ltake.nd rfl (Or.inl rfl) (Or.inl rfl))
        (F7 (A21 (I0 R6 (I0 E9 (I0 D1 (Z0 ix_list (pv 0) D5 (fun _ _ => rfl)) D5) D5) D5) (A6h (pv 0) D5 Y3))
        (P9 (W1 (i := 3) sc_Ltake.nd rfl (Or.inl rfl) (I0 E9 (I0 D1 (pv 3) D5) (I0 R6 (I0 D1 (Z0 ix_list (pv 0) D5 (fun _ _ => rfl)) (Z0 ix_list (pv 0) D5 (fun _ _ => rfl))) D5))))))
      (P9 (A2z (I0 R6 (I0 E7 (pv 3) D5) (pv 1))))))), ?_⟩
    obtain ⟨c, m, f, hp, m0, m1⟩ := S0.ex
    refine ⟨_, rfl, p, _, _, _, rfl, rfl, SqL.of hp, at2, f, rfl, ?_⟩
    have s8 : Sm 8000 n := sn.mono (by decide)
    cases f with
    | true =>
      refine iteT ?_
      refine ⟨_, rfl, p, _, _, _, rfl, rfl, SqL.of hp, at0, _, rfl, _, _, rfl, rfl, n0, ?_⟩
      refine ⟨_, rfl, p, _, _, _, rfl, rfl, SqL.of hp, at0, _, rfl, _, _, rfl, rfl, ⟨by omega, s8⟩, _, rfl, p, _, _, 0, rfl, rfl, hp, rfl, ?_⟩
      refine ⟨_, rfl, p, _, _, _, rfl, rfl, SqL.of C9, at0, _, _, rfl, rfl, _, rfl, p, _, _, 2, rfl, rfl, C9, rfl, ?_⟩
      refine ⟨_, rfl, ?_⟩
      exact k _ _ (Int.emod_nonneg c (by omega)) (Int.emod_lt_of_pos c n0) ⟨_, _, _, C9, m0, m1⟩ (Kp.upd.trans Kp.upd)
    | false =>
      refine iteF ?_
      refine ⟨_, rfl, _, _, rfl, rfl, A94 6, _, _, rfl, rfl, .inr ⟨_, rfl, _, _, rfl, rfl, ⟨V8 0, B7b _⟩, _, _, rfl, rfl, _, rfl, ?_, ?_, A9r (lo := 0)
        (fun i σ H' => ∃ (m' md : Int) (x : Option V), σ = [some (V.ref p), some (V.int n), none, some (V.int md), x] /\ H' p = some (.lst [.int c, .int m', .bl false]) /\ 0 <= m' /\ m' < 2147483648 /\ Kp p H H' /\ Sm (40 * i + 1) md)
        ⟨m, 0, none, rfl, hp, m0, m1, Kp.refl, by unfold Sm; decide⟩ ?_ ?_⟩⟩
      · split <;> omega
      · split <;> omega
      · rintro i σ H' hi ⟨m', md, x, rfl, hp', h0, h1, kk, sd⟩
        have hi9 : i < 9 := by
          refine Nat.lt_of_lt_of_le hi ?_
          split <;> decide
        refine ⟨_, rfl, p, _, _, _, rfl, rfl, SqL.of hp', at1, _, _, rfl, rfl, ⟨sm32 h0 h1, V8 0⟩, _, _, rfl, rfl, _, _, rfl, rfl, (by show (0 : Int) < 2147483647; decide), _, rfl, p, _, _, 1, rfl, rfl, hp', rfl, ?_⟩
        have e1 := Int.emod_nonneg (m' * 39373 + 17) (show (2147483647 : Int) ≠ 0 by decide)
        have e2 := Int.emod_lt_of_pos (m' * 39373 + 17) (show (0 : Int) < 2147483647 by decide)
        have sm := sm32 e1 (by omega)
        refine ⟨_, rfl, _, _, rfl, rfl, ⟨sd.mono (by omega), V8 0⟩, _, rfl, p, _, _, _, rfl, rfl, SqL.of C9, at1, _, rfl, p, _, _, _, rfl, rfl, SqL.of C9, at1, _, _, rfl, rfl, ⟨sm, sm⟩, _, _, rfl, rfl, (by show (0 : Int) < 2147483587; decide), _, _, rfl, rfl, ?_⟩
        have g1 := Int.emod_nonneg ((m' * 39373 + 17) % 2147483647 * ((m' * 39373 + 17) % 2147483647)) (show (2147483587 : Int) ≠ 0 by decide)
        have g2 := Int.emod_lt_of_pos ((m' * 39373 + 17) % 2147483647 * ((m' * 39373 + 17) % 2147483647)) (show (0 : Int) < 2147483587 by decide)
        refine ⟨_, _, _, rfl, C9, e1, by omega, kk.trans Kp.upd, ?_⟩
        refine Sm.mono (k := 40 * i + 1 + 32 + 1) (Sm.add (sd.mul (l := 32) (by unfold Sm; decide)) ?_) (by omega)
        exact Sm.mono (k := 32) (by unfold Sm; omega) (by omega)
      · rintro σ H' ⟨m', md, x, rfl, hp', h0, h1, kk, sd⟩
        refine ⟨_, rfl, _, _, rfl, rfl, ⟨by decide, V8 0⟩, _, rfl, _, _, rfl, rfl, n0, ?_⟩
        exact k _ _ (Int.emod_nonneg _ (by omega)) (Int.emod_lt_of_pos _ n0) ⟨_, _, _, hp', h0, h1⟩ kk
theorem G3 (T : Txt K mg D) : FnOk P w K mg base CX0 1 D.a_Ltake D.d_Ltake ["_law_state", "_law_many"] (Pu.spOf K [.st, .dat] Pu.A54) := FnOk.imp (A7j T) Pu.B4u
theorem Q2 (T : Txt K mg D) : FnOk P w K mg base CX0 1 D.a_Llow D.d_Llow ["_law_top", "_law_bottom"] (Pu.spOf K [.dat, .dat] B5g) := by
  refine T.F_Llow.ok sc_Llow (Pu.spOf.len rfl) (fun cdv A outer s H vs Q E hr h => ?_)
  refine ⟨_, (QSs.out (A4 (B3 (i := 2) sc_Llow.nd rfl (Or.inl rfl) (qpv 0))
      (A4 (B3 (i := 3) sc_Llow.nd rfl (Or.inl rfl) (qpv 1))
      (A4 (T3 PassesOwn.never (B4 (G7 (K := K) rfl hr.units) (qpv 3) A2 (B9 _))
        (B0 (K4 (i := 2) (j := 3) rfl sc_Llow.nd rfl rfl (by decide) rfl rfl (A0 (qpv 3) (A0 (B7 R6 (qpv 2) (qpv 3)) A1)) rfl)))
      (B0 (B6 (D6 (A0 (B7 E7 (qpv 0) (qpv 2)) (A0 (B7 E7 (qpv 1) (qpv 2)) A1))))))))), ?_⟩
  haveI := T.c2_NOUGHT
  haveI := T.c2_HALF
  haveI := T.c2_ONE
  refine Pu.E8 h ?_
  rintro as Qp ⟨t, b, rfl, hb, st, sb, k⟩
  trivial
  refine ⟨fun m e => ∃ x y : Int, e = [some (.d (.int t)), some (.d (.int b)), some (.d (.int x)), some (.d (.int y))] /\ 0 <= y /\ (y = 0 -> 0 < x) /\ m = y.toNat /\ Int.gcd x y = Int.gcd t b, ⟨_, _, _, rfl, by omega, fun e => by omega, rfl, rfl⟩, ?_⟩
  rintro m e ⟨x, y, rfl, hy, hx, rfl, hg⟩
  trivial
  refine ite2 (fun e => ?_) (fun hn => ?_)
  · subst e
    have hx0 := hx rfl
    have e1 : x = sh t b := by
      have := A36 x (by omega)
      rw [hg] at this
      unfold sh; rw [if_neg (by omega)]; exact this.symm
    subst e1
    have hb0 : b ≠ 0 := by omega
    refine ⟨⟨B7f hb0, B69 sb hb0⟩, ⟨B7f hb0, B69 sb hb0⟩, ?_⟩
    rw [A8g hb0, B6i hb0]; exact k
  · have h1 := Int.emod_lt_of_pos x (show 0 < y by omega)
    have h2 := Int.emod_nonneg x hn
    exact ⟨by omega, (x % y).toNat, by omega, y, x % y, rfl, h2, fun _ => by omega, rfl, by rw [A9p, hg]⟩
theorem N1 (T : Txt K mg D) : FnOk P w K mg base CX0 2 D.a_Lplus D.d_Lplus ["_law_one", "_law_other"] (Pu.spOf K [.dat, .dat] (A0m (·+·))) := by
  refine T.F_Lplus.ok sc_Lplus (Pu.spOf.len rfl) (fun cdv A outer s H vs Q E hr h => ?_)
  refine ⟨_, (QSs.out (B0 (B6 (A6 (Q2 (K := K) T) hr.mo rfl T.m_Llow T.F_Llow.kp (X4 T) .nil B5 (A0 (B7 E9 (B7 D1 (A9 (A5 (K := K) rfl) (qpv 0) A2 (fun _ _ => rfl)) (A9 (A5 (K := K) rfl) (qpv 1) A2 (fun _ _ => rfl))) (B7 D1 (A9 (A5 (K := K) rfl) (qpv 1) A2 (fun _ _ => rfl)) (A9 (A5 (K := K) rfl) (qpv 0) A2 (fun _ _ => rfl)))) (A0 (B7 D1 (A9 (A5 (K := K) rfl) (qpv 0) A2 (fun _ _ => rfl)) (A9 (A5 (K := K) rfl) (qpv 1) A2 (fun _ _ => rfl))) A1)))))), ?_⟩
  haveI := T.c2_NOUGHT
  haveI := T.c2_HALF
  haveI := T.c2_ONE
  refine Pu.E8 h ?_
  rintro as Qp ⟨p, q, rfl, sp, sq, k⟩
  trivial
  have p1 := sp.1.mono (l := 8000) (by decide)
  have p2 := sp.2.mono (l := 8000) (by decide)
  have q1 := sq.1.mono (l := 8000) (by decide)
  have q2 := sq.2.mono (l := 8000) (by decide)
  refine ⟨⟨p1, q2⟩, ⟨q1, p2⟩, ⟨p2, q2⟩, _, _, rfl, Int.mul_pos (denp p) (denp q), ((sp.1.mul sq.2).add (sq.1.mul sp.2)).mono (by decide), (sp.2.mul sq.2).mono (by decide), ?_⟩
  rw [B7w]; exact k
theorem G9 (T : Txt K mg D) : FnOk P w K mg base CX0 2 D.a_Lminus D.d_Lminus ["_law_one", "_law_other"] (Pu.spOf K [.dat, .dat] (A0m (·-·))) := by
  refine T.F_Lminus.ok sc_Lminus (Pu.spOf.len rfl) (fun cdv A outer s H vs Q E hr h => ?_)
  refine ⟨_, (QSs.out (B0 (B6 (A6 (Q2 (K := K) T) hr.mo rfl T.m_Llow T.F_Llow.kp (X4 T) .nil B5 (A0 (B7 R5 (B7 D1 (A9 (A5 (K := K) rfl) (qpv 0) A2 (fun _ _ => rfl)) (A9 (A5 (K := K) rfl) (qpv 1) A2 (fun _ _ => rfl))) (B7 D1 (A9 (A5 (K := K) rfl) (qpv 1) A2 (fun _ _ => rfl)) (A9 (A5 (K := K) rfl) (qpv 0) A2 (fun _ _ => rfl)))) (A0 (B7 D1 (A9 (A5 (K := K) rfl) (qpv 0) A2 (fun _ _ => rfl)) (A9 (A5 (K := K) rfl) (qpv 1) A2 (fun _ _ => rfl))) A1)))))), ?_⟩
  haveI := T.c2_NOUGHT
  haveI := T.c2_HALF
  haveI := T.c2_ONE
  refine Pu.E8 h ?_
  rintro as Qp ⟨p, q, rfl, sp, sq, k⟩
  trivial
  have p1 := sp.1.mono (l := 8000) (by decide)
  have p2 := sp.2.mono (l := 8000) (by decide)
  have q1 := sq.1.mono (l := 8000) (by decide)
  have q2 := sq.2.mono (l := 8000) (by decide)
  refine ⟨⟨p1, q2⟩, ⟨q1, p2⟩, ⟨p2, q2⟩, _, _, rfl, Int.mul_pos (denp p) (denp q), ((sp.1.mul sq.2).sub (sq.1.mul sp.2)).mono (by decide), (sp.2.mul sq.2).mono (by decide), ?_⟩
  rw [B7s]; exact k
def A58 : Pu.PSp := fun as Q => (∃ p q : Rat, as = [.d (dq p), .d (dq q)] /\ SmQ 3900 p /\ SmQ 3900 q /\ Q (.d (dq (p * q)))) \/ ∃ (p : Rat) (n : Int), as = [.d (dq p), .d (.tuple [.int n, .int 5])] /\ SmQ 3900 p /\ 0 <= n /\ n <= 5 /\ Q (.d (dq (p * Rat.divInt n 5)))
theorem G8 (T : Txt K mg D) : FnOk P w K mg base CX0 2 D.a_Ltimes D.d_Ltimes ["_law_one", "_law_other"] (Pu.spOf K [.dat, .dat] A58) := by
  refine T.F_Ltimes.ok sc_Ltimes (Pu.spOf.len rfl) (fun cdv A outer s H vs Q E hr h => ?_)
  refine ⟨_, (QSs.out (B0 (B6 (A6 (Q2 (K := K) T) hr.mo rfl T.m_Llow T.F_Llow.kp (X4 T) .nil B5 (A0 (B7 D1 (A9 (A5 (K := K) rfl) (qpv 0) A2 (fun _ _ => rfl)) (A9 (A5 (K := K) rfl) (qpv 1) A2 (fun _ _ => rfl))) (A0 (B7 D1 (A9 (A5 (K := K) rfl) (qpv 0) A2 (fun _ _ => rfl)) (A9 (A5 (K := K) rfl) (qpv 1) A2 (fun _ _ => rfl))) A1)))))), ?_⟩
  haveI := T.c2_NOUGHT
  haveI := T.c2_HALF
  haveI := T.c2_ONE
  refine Pu.E8 h ?_
  rintro as Qp (⟨p, q, rfl, sp, sq, k⟩ | ⟨p, n, rfl, sp, n0, n5, k⟩)
  · trivial
    have p1 := sp.1.mono (l := 8000) (by decide)
    have p2 := sp.2.mono (l := 8000) (by decide)
    have q1 := sq.1.mono (l := 8000) (by decide)
    have q2 := sq.2.mono (l := 8000) (by decide)
    refine ⟨⟨p1, q1⟩, ⟨p2, q2⟩, _, _, rfl, Int.mul_pos (denp p) (denp q), (sp.1.mul sq.1).mono (by decide), (sp.2.mul sq.2).mono (by decide), ?_⟩
    rw [B7u]; exact k
  · trivial
    have p1 := sp.1.mono (l := 8000) (by decide)
    have p2 := sp.2.mono (l := 8000) (by decide)
    have s1 : Sm 3 n := by unfold Sm; omega
    have s5 : Sm 3 5 := by unfold Sm; decide
    refine ⟨⟨p1, s1.mono (by decide)⟩, ⟨p2, s5.mono (by decide)⟩, _, _, rfl, Int.mul_pos (denp p) (by decide), (sp.1.mul s1).mono (by decide), (sp.2.mul s5).mono (by decide), ?_⟩
    rw [show Rat.divInt (p.num * n) ((p.den : Int) * 5) = p * Rat.divInt n 5 by
      conv => rhs; rw [<- Rat.num_divInt_den p, Rat.divInt_mul_divInt]]
    exact k
theorem E5 (T : Txt K mg D) : FnOk P w K mg base CX0 1 D.a_Lunder D.d_Lunder ["_law_one", "_law_other"] (Pu.spOf K [.dat, .dat] A56) := by
  refine T.F_Lunder.ok sc_Lunder (Pu.spOf.len rfl) (fun cdv A outer s H vs Q E hr h => ?_)
  refine ⟨_, (QSs.out (B0 (B6 (F3 A45 (B7 D1 (A9 (A5 (K := K) rfl) (qpv 0) A2 (fun _ _ => rfl)) (A9 (A5 (K := K) rfl) (qpv 1) A2 (fun _ _ => rfl))) (B7 D1 (A9 (A5 (K := K) rfl) (qpv 1) A2 (fun _ _ => rfl)) (A9 (A5 (K := K) rfl) (qpv 0) A2 (fun _ _ => rfl))) (B9 _))))), ?_⟩
  haveI := T.c2_NOUGHT
  haveI := T.c2_HALF
  haveI := T.c2_ONE
  refine Pu.E8 h ?_
  rintro as Qp ⟨p, q, rfl, sp, sq, k⟩
  trivial
  have p1 := sp.1.mono (l := 8000) (by decide)
  have p2 := sp.2.mono (l := 8000) (by decide)
  have q1 := sq.1.mono (l := 8000) (by decide)
  have q2 := sq.2.mono (l := 8000) (by decide)
  refine ⟨⟨p1, q2⟩, ⟨q1, p2⟩, ?_⟩
  rw [A3r]; exact k
theorem N2 (T : Txt K mg D) : FnOk P w K mg base CX0 2 D.a_Lamount D.d_Lamount ["_law_state", "_law_plain", "_law_least"] (Pu.spOf K [.st, .dat, .dat] A57) := by
  refine T.F_Lamount.ok sc_Lamount (Pu.spOf.len rfl) (fun cdv A outer s H vs Q E hr h => ?_)
  refine ⟨_, (QSs.out (A4 (B3 (i := 3) sc_Lamount.nd rfl (Or.inl rfl) (A6 (G3 (K := K) T) hr.mo rfl T.m_Ltake T.F_Ltake.kp (L4 T) .nil B5 (A0 (qpv 0) (A0 A2 A1))))
      (A4 (D0 (D8 (qpv 1))
        (B0 (B6 (D6 (A0 (B7 E9 (qpv 2) (A6 (G3 (K := K) T) hr.mo rfl T.m_Ltake T.F_Ltake.kp (L4 T) .nil B5 (A0 (qpv 0) (A0 (A9 (A5 (K := K) rfl) (D3 (A0 A2 (A0 A2 (A0 A2 (A0 A2 (A0 A2 (A0 A2 A1))))))) (qpv 3) (fun _ _ => rfl)) A1)))) (A0 A2 A1)))))
        C1)
      (A4 (B3 (i := 4) sc_Lamount.nd rfl (Or.inl rfl) (B7 E9 A2 (A6 (G3 (K := K) T) hr.mo rfl T.m_Ltake T.F_Ltake.kp (L4 T) .nil B5 (A0 (qpv 0) (A0 (A9 (A5 (K := K) rfl) (D3 (A0 A2 (A0 A2 (A0 A2 (A0 A2 (A0 A2 (A0 A2 A1))))))) (qpv 3) (fun _ _ => rfl)) A1)))))
      (B0 (B6 (A6 (Q2 (K := K) T) hr.mo rfl T.m_Llow T.F_Llow.kp (X4 T) .nil B5 (A0 (B7 E9 (qpv 2) (A6 (G3 (K := K) T) hr.mo rfl T.m_Ltake T.F_Ltake.kp (L4 T) .nil B5 (A0 (qpv 0) (A0 (A9 (A5 (K := K) rfl) (D3 (A0 A2 (A0 A2 (A0 A2 (A0 A2 (A0 (B7 A7f A2 A2) (A0 A2 A1))))))) (qpv 3) (fun _ _ => rfl)) A1)))) (A0 (qpv 4) A1))))))))), ?_⟩
  haveI := T.c2_NOUGHT
  haveI := T.c2_HALF
  haveI := T.c2_ONE
  refine Pu.E8 h ?_
  rintro as Qp ⟨pl, le, rfl, hle, k⟩
  trivial
  refine ⟨6, rfl, by decide, sm4 6, fun d d0 d6 => ?_⟩
  trivial
  refine ite2 (fun hp => ?_) (fun hp => ?_)
  · obtain ⟨z, hz, e⟩ := B6h (xs := [2, 3, 3, 4, 5, 6]) d0 d6
    have hb : 2 <= z /\ z <= 6 := by simp at hz; omega
    refine Q0 e ?_
    trivial
    refine ⟨z, rfl, by omega, A2q (by omega) (by omega), fun d2 g0 g1 => ?_⟩
    trivial
    rw [C0b]
    have s3 : Sm 3 (le + d2) := B0t (B := 7) (by omega) (by omega) (by decide)
    exact k _ (B91 (by omega)) (fun h1 => B90 (by omega)) ((T2 s3).mono (by decide) (by decide)) fun _ => ⟨T2 s3, B44 (T2 s3)⟩
  · obtain ⟨x, hx, ex⟩ := B6h (xs := [1, 1, 2, 4, 12, 60]) d0 d6
    have hbx : 1 <= x /\ x <= 60 := by simp at hx; omega
    obtain ⟨z, hz, ez⟩ := B6h (xs := [3, 9, 12, 30, 1000000000000, 90]) d0 d6
    have hbz : 3 <= z /\ z <= 1000000000000 := by simp at hz; omega
    refine Q0 ex ?_
    trivial
    refine ⟨x, rfl, by omega, A2q (by omega) (by omega), fun d1 f0 f1 => ?_⟩
    trivial
    refine ⟨A94 12, Q0 ez ?_⟩
    trivial
    refine ⟨z, rfl, by omega, A2q (by omega) (by omega), fun d2 g0 g1 => ?_⟩
    trivial
    have st : Sm 41 (le + d2) := B0t (B := 1000000000000) (by omega) (by omega) (by decide)
    have sb : Sm 6 (1 + d1) := B0t (B := 60) (by omega) (by omega) (by decide)
    refine ⟨_, _, rfl, by omega, st.mono (by decide), sb.mono (by decide), ?_⟩
    exact k _ (A2w (by omega) (by omega)) (fun h1 => B7t (by omega) (by omega)) (SmR.low st sb (by omega)) fun h => absurd h hp
def A6a : Pu.PSp := fun as Q => ∃ (most : Int) (pl : Bool), as = [.st, .d (.int most), .d (.bool pl)] /\ 0 <= most /\ most <= 20 /\ ∀ (c : Rat × Rat) (ps : List (Rat × Rat)), Sh0 c ps -> Q (.own ((bnd c ps).map dcn))
theorem A0w (T : Txt K mg D) : FnOk P w K mg base CX0 3 D.a_Lshape D.d_Lshape ["_law_state", "_law_most", "_law_plain"] (Pu.spOf K [.st, .dat, .dat] A6a) := by
  refine T.F_Lshape.ok sc_Lshape (Pu.spOf.len rfl) (fun cdv A outer s H vs Q E hr h => ?_)
  refine ⟨_, (QSs.out (A4 (K3 (i := 3) rfl sc_Lshape.nd rfl rfl (F1 (N' := ["_law_state", "_law_plain", "_law_k"]) (cap := [some 0, some 2, none]) rfl rfl rfl rfl (by decide +kernel) rfl rfl) (G4 rfl T.z_range (A0 (A6 (G3 (K := K) T) hr.mo rfl T.m_Ltake T.F_Ltake.kp (L4 T) .nil B5 (A0 (qpv 0) (A0 (B7 E9 (qpv 1) A2) A1))) A1)) (fun _ _ _ => (C2 (i := 2) (show (["_law_state", "_law_plain", "_law_k"] : List Str).Nodup from by decide +kernel) rfl (Or.inl rfl) (Or.inr rfl))) (fun _ _ _ => G0) (fun _ _ _ => (A6 (N2 (K := K) T) hr.mo rfl T.m_Lamount T.F_Lamount.kp (P6 T) .nil B5 (A0 (qpv 0) (A0 (qpv 1) (A0 A2 A1))))) rfl)
      (A4 (B3 (i := 4) sc_Lshape.nd rfl (Or.inl rfl) (A6 (N2 (K := K) T) hr.mo rfl T.m_Lamount T.F_Lamount.kp (P6 T) .nil B5 (A0 (qpv 0) (A0 (qpv 2) (A0 A2 A1)))))
      (A4 (B3 (i := 5) sc_Lshape.nd rfl (Or.inl rfl) (A6 (N2 (K := K) T) hr.mo rfl T.m_Lamount T.F_Lamount.kp (P6 T) .nil B5 (A0 (qpv 0) (A0 (qpv 2) (A0 A2 A1)))))
      (A4 (B3 (i := 6) sc_Lshape.nd rfl (Or.inl rfl) (D6 (A0 A2 (A0 A2 A1))))
      (A4 (B3 (i := 7) sc_Lshape.nd rfl (Or.inl rfl) (D3 A1))
      (A4 (F8 PassesOwn.never rfl (G6 (K := K) rfl (qpv 3)) (C2 (i := 8) sc_Lshape.nd rfl (Or.inl rfl) (Or.inl rfl))
        (A4 (B3 (i := 6) sc_Lshape.nd rfl (Or.inl rfl) (A6 (N1 (K := K) T) hr.mo rfl T.m_Lplus T.F_Lplus.kp (R3 T) .nil B5 (A0 (qpv 6) (A0 (A6 (N2 (K := K) T) hr.mo rfl T.m_Lamount T.F_Lamount.kp (P6 T) .nil B5 (A0 (qpv 0) (A0 (qpv 2) (A0 A2 A1)))) A1))))
        (A4 (G1 (J2 (K := K) rfl PySem.F.plainAttrs_list PySem.F.slot_list_append PySem.F.type_list_append F4 (qpv 7) (A0 (qpv 6) A1)))
        (B0 (B3 (i := 5) sc_Lshape.nd rfl (Or.inl rfl) (A6 (N1 (K := K) T) hr.mo rfl T.m_Lplus T.F_Lplus.kp (R3 T) .nil B5 (A0 (qpv 5) (A0 (A6 (G8 (K := K) T) hr.mo rfl T.m_Ltimes T.F_Ltimes.kp (L3 T) .nil B5 (A0 (qpv 6) (A0 (qpv 8) A1))) A1))))))))
      (A4 (B3 (i := 9) sc_Lshape.nd rfl (Or.inl rfl) (D3 (A0 (D6 (A0 (qpv 4) (A0 (qpv 5) A1))) A1)))
      (A4 (F8 PassesOwn.never rfl (A4y rfl T.z_range (A0 (B7 R5 (C3 (C4 (K := K) rfl) (by rfl) T.z_len PySem.boot_len (A0 (qpv 3) A1)) A2) (A0 (O4 O2 A2) (A0 (O4 O2 A2) A1)))) (C2 (i := 10) sc_Lshape.nd rfl (Or.inl rfl) (Or.inl rfl))
        (A4 (B3 (i := 4) sc_Lshape.nd rfl (Or.inl rfl) (A6 (N1 (K := K) T) hr.mo rfl T.m_Lplus T.F_Lplus.kp (R3 T) .nil B5 (A0 (qpv 4) (A0 (A9 (A5 (K := K) rfl) (qpv 3) (qpv 10) (fun _ _ => rfl)) A1))))
        (A4 (B3 (i := 5) sc_Lshape.nd rfl (Or.inl rfl) (A6 (G9 (K := K) T) hr.mo rfl T.m_Lminus T.F_Lminus.kp (L6 T) .nil B5 (A0 (qpv 5) (A0 (A6 (G8 (K := K) T) hr.mo rfl T.m_Ltimes T.F_Ltimes.kp (L3 T) .nil B5 (A0 (A9 (A5 (K := K) rfl) (qpv 7) (qpv 10) (fun _ _ => rfl)) (A0 (A9 (A5 (K := K) rfl) (qpv 3) (qpv 10) (fun _ _ => rfl)) A1))) A1))))
        (B0 (G1 (J2 (K := K) rfl PySem.F.plainAttrs_list PySem.F.slot_list_append PySem.F.type_list_append F4 (qpv 9) (A0 (D6 (A0 (qpv 4) (A0 (qpv 5) A1))) A1)))))))
      (B0 (B6 (qpv 9)))))))))))), ?_⟩
  haveI := T.c2_NOUGHT
  haveI := T.c2_HALF
  haveI := T.c2_ONE
  refine Pu.E8 h ?_
  rintro as Qp ⟨most, pl, rfl, m0, m1, k⟩
  refine hd fun R hR => ?_
  trivial
  refine ⟨_, rfl, by omega, A2q (by omega) (by omega), fun n n0 n1 => ?_⟩
  trivial
  refine ⟨⟨by omega, by omega⟩, by rw [M8]; omega, B1o (fun i e ys => ∃ (gs : List Rat) (o : Option SV), e = [some .st, some (.d (.bool pl)), o] /\ ys = gs.map dq /\ gs.length = i /\ ∀ g ∈ gs, 0 < g /\ On LL (2 ^ 41) g) ⟨[], none, rfl, rfl, rfl, fun g h => absurd h (by simp)⟩ ?_ ?_⟩
  · rintro i e ys hi ⟨gs, o, rfl, rfl, hl, hg⟩
    trivial
    refine ⟨pl, 1, rfl, .inr rfl, fun q q0 q1 s1 s2 => ?_⟩
    trivial
    refine ⟨gs ++ [q], _, rfl, by simp, by simp [hl], fun g h => ?_⟩
    rcases List.mem_append.mp h with z | z
    · exact hg g z
    · cases List.mem_singleton.mp z
      exact ⟨q1 rfl, A3f s1⟩
  rintro e ys ⟨gs, o, rfl, rfl, hl, hg⟩
  have hlen : gs.length <= 20 := by omega
  trivial
  subst hR
  refine hd fun R hR => ?_
  trivial
  refine ⟨pl, 0, rfl, .inl rfl, fun w w0 _ sw1 _ => ?_⟩
  have ow := A3f sw1
  trivial
  subst hR
  refine hd fun R hR => ?_
  trivial
  refine ⟨pl, 0, rfl, .inl rfl, fun p p0 _ sp1 _ => ?_⟩
  have op := A3f sp1
  trivial
  subst hR
  refine hd fun R hR => ?_
  trivial
  subst hR
  refine hd fun R hR => ?_
  trivial
  subst hR
  refine hd fun R hR => ?_
  trivial
  have ep : p + sum2 (List.zipWith pz [] gs) = p := by show p + 0 = p; rw [Rat.add_zero]
  refine A2a (fun i e => ∃ (rt : Rat) (fs : List Rat) (o8 : Option SV), e = [some .st, some (.d (.int most)), some (.d (.bool pl)), some (.d (.list (gs.map dq))), some (.d (dq w)), some (.d (dq (p + sum2 (List.zipWith pz fs gs)))), some (.d (dq rt)), some (.own (fs.map dq)), o8, none, none] /\
      fs.length = i /\ 0 <= rt /\ fs.Pairwise (· < ·) /\ (∀ f ∈ fs, 0 < f /\ f <= rt /\ On LL (2 ^ 46) f) /\ On LL (i * 2 ^ 41) rt /\ On (LL * LL) (2 ^ 41 + i * 2 ^ 87) (p + sum2 (List.zipWith pz fs gs)))
      ⟨0, [], none, by rw [ep]; rfl, rfl, Rat.le_refl, List.Pairwise.nil, fun f h => absurd h (by simp), On.zero.mono (Nat.zero_le _), by rw [ep]; exact (op.up F0).mono (by omega)⟩ ?_ ?_
  · rintro i g e hgi ⟨rt, fs, o8, rfl, hfl, rt0, pf, hfs, ort, opr⟩
    have hi : i < gs.length := (List.getElem?_eq_some_iff.mp hgi).1
    obtain ⟨g0, og⟩ := hg g (List.mem_of_getElem? hgi)
    trivial
    refine ⟨pl, 1, rfl, .inr rfl, fun a a0 a1 sa1 _ => ?_⟩
    have oa := A3f sa1
    have ra : 0 < a := a1 rfl
    have ort2 : On LL ((i + 1) * 2 ^ 41) (rt + a) := (ort.add F0 oa).mono (by rw [Nat.add_mul]; omega)
    have o45 : On LL (2 ^ 46) (rt + a) := ort2.mono (Nat.le_trans (Nat.mul_le_mul_right _ (show i + 1 <= 20 by omega)) (Nat.le_of_ble_eq_true rfl))
    have ort3 : On LL (2 ^ 46) rt := ort.mono (Nat.le_trans (Nat.mul_le_mul_right _ (show i <= 20 by omega)) (Nat.le_of_ble_eq_true rfl))
    have opr3 : On (LL * LL) (2 ^ 92) (p + sum2 (List.zipWith pz fs gs)) := opr.mono (Nat.le_trans (Nat.add_le_add_left (Nat.mul_le_mul_right _ (show i <= 20 by omega)) _) (Nat.le_of_ble_eq_true rfl))
    have om : On (LL * LL) (2 ^ 87) ((rt + a) * g) := (On.mul F0 F0 o45 og).mono (Nat.le_of_ble_eq_true rfl)
    trivial
    refine ⟨rt, a, rfl, (on_w ort3 (by decide)).q (by decide) (by decide), (on_w oa (by decide)).q (by decide) (by decide), ?_⟩
    trivial
    refine ⟨by omega, ?_⟩
    trivial
    refine .inl ⟨rt + a, g, rfl, (on_w o45 (by decide)).q (by decide) (by decide), (on_w og (by decide)).q (by decide) (by decide), ?_⟩
    trivial
    refine ⟨_, _, rfl, (on_p opr3 (by decide)).q (by decide) (by decide), (on_p om (by decide)).q (by decide) (by decide), ?_⟩
    trivial
    have es : p + sum2 (List.zipWith pz fs gs) + (rt + a) * g = p + sum2 (List.zipWith pz (fs ++ [rt + a]) gs) := by
      rw [B5c (by rw [hfl]; exact hgi), Y0]
      show _ = p + (_ + ((rt + a) * g + 0)); grind
    refine ⟨rt + a, fs ++ [rt + a], _, by rw [es, List.map_append]; rfl, by simp [hfl], by grind, List.pairwise_append.mpr ⟨pf, List.pairwise_singleton _ _, fun f hf b hb => ?_⟩, fun f h => ?_, ort2, by rw [<- es]; exact (opr.add A4r om).mono (by rw [Nat.add_mul]; omega)⟩
    · cases List.mem_singleton.mp hb
      have := (hfs f hf).2.1; grind
    · rcases List.mem_append.mp h with z | z
      · have := hfs f z; exact ⟨this.1, by grind, this.2.2⟩
      · cases List.mem_singleton.mp z
        exact ⟨by grind, Rat.le_refl, o45⟩
  rintro e ⟨rt, fs, o8, rfl, hfl, rt0, pf, hfs, ort, opr⟩
  subst hR
  dsimp only
  generalize hzs : List.zipWith pz fs gs = zs at opr
  have hzl : zs.length = gs.length := by rw [<- hzs, List.length_zipWith, hfl, Nat.min_self]
  have zget : ∀ (i : Nat) z, zs[i]? = some z -> ∃ f g, fs[i]? = some f /\ gs[i]? = some g /\ z = pz f g := fun i z hz => by
    rw [<- hzs, List.getElem?_zipWith] at hz
    cases ef : fs[i]? with
    | none => rw [ef] at hz; simp at hz
    | some f =>
      cases eg : gs[i]? with
      | none => rw [ef, eg] at hz; simp at hz
      | some g => rw [ef, eg] at hz; exact ⟨f, g, rfl, rfl, by simpa using hz.symm⟩
  have zpos : ∀ z ∈ zs, 0 < z.1 /\ 0 < z.2 /\ On LL (2 ^ 41) z.1 /\ On (LL * LL) (2 ^ 87) z.2 := fun z hz => by
    obtain ⟨i, hi⟩ := List.mem_iff_getElem?.mp hz
    obtain ⟨f, g, ef, eg, rfl⟩ := zget i z hi
    have hf := hfs f (List.mem_of_getElem? ef)
    have hg' := hg g (List.mem_of_getElem? eg)
    exact ⟨hg'.1, Rat.mul_pos hf.1 hg'.1, hg'.2, (On.mul F0 F0 hf.2.2 hg'.2).mono (Nat.le_of_ble_eq_true rfl)⟩
  have zpw : zs.Pairwise (fun a b => sl a < sl b) := List.pairwise_iff_getElem.mpr fun i j hi hj hij => by
    obtain ⟨f, g, ef, eg, e1⟩ := zget i _ (List.getElem?_eq_getElem hi)
    obtain ⟨f', g', ef', eg', e2⟩ := zget j _ (List.getElem?_eq_getElem hj)
    rw [e1, e2, B7c (hg g (List.mem_of_getElem? eg)).1, B7c (hg g' (List.mem_of_getElem? eg')).1]
    exact A04 pf hij ef ef'
  have opr3 : On (LL * LL) (2 ^ 41 + 20 * 2 ^ 87) (p + sum2 zs) := opr.mono (Nat.add_le_add_left (Nat.mul_le_mul_right _ hlen) _)
  have sub : ∀ l : List (Rat × Rat), (∀ z ∈ l, z ∈ zs) -> l.length <= zs.length -> ∀ d ∈ bnd (w, p + sum2 zs) l, On LL (2 ^ 46) d.1 /\ On (LL * LL) (2 ^ 93) d.2 := fun l hl1 hl2 d hd => by
    have := B9l (C := (w, p + sum2 zs)) ow opr3 (fun z hz => ⟨(zpos z (hl1 z hz)).2.2.1, (zpos z (hl1 z hz)).2.2.2⟩) d hd
    exact ⟨this.1.mono (Nat.le_trans (Nat.add_le_add_left (Nat.mul_le_mul_right _ (show l.length <= 20 by omega)) _) (Nat.le_of_ble_eq_true rfl)), this.2.mono (Nat.le_trans (Nat.add_le_add_left (Nat.mul_le_mul_right _ (show l.length <= 20 by omega)) _) (Nat.le_of_ble_eq_true rfl))⟩
  refine hd fun R hR => ?_
  trivial
  subst hR
  refine hd fun R hR => ?_
  trivial
  have hn : ((gs.length : Int) - 1 - -1).toNat = gs.length := by omega
  rw [hn]
  refine ⟨⟨⟨by omega, by omega⟩, by decide, by decide⟩, B6p (fun j e => ∃ o10 : Option SV, e = [some .st, some (.d (.int most)), some (.d (.bool pl)), some (.d (.list (gs.map dq))), some (.d (dq (lst (w, p + sum2 zs) (zs.drop (gs.length - j)).reverse).1)), some (.d (dq (lst (w, p + sum2 zs) (zs.drop (gs.length - j)).reverse).2)), some (.d (dq rt)), some (.own (fs.map dq)), o8, some (.own ((bnd (w, p + sum2 zs) (zs.drop (gs.length - j)).reverse).map dcn)), o10]) ?_ ?_ ?_⟩
  · refine ⟨none, ?_⟩
    rw [Nat.sub_zero, <- hzl, List.drop_length]; rfl
  · rintro j e hj ⟨o10, rfl⟩
    have ei : (gs.length : Int) - 1 - (j : Int) = ((gs.length - 1 - j : Nat) : Int) := by omega
    obtain ⟨z, hz⟩ : ∃ z, zs[gs.length - 1 - j]? = some z := ⟨_, List.getElem?_eq_getElem (by omega)⟩
    obtain ⟨f, g, ef, eg, rfl⟩ := zget _ z hz
    have hf := hfs f (List.mem_of_getElem? ef)
    have hg' := hg g (List.mem_of_getElem? eg)
    have om : On (LL * LL) (2 ^ 87) (f * g) := (On.mul F0 F0 hf.2.2 hg'.2).mono (Nat.le_of_ble_eq_true rfl)
    have ed : (zs.drop (gs.length - (j + 1))).reverse = (zs.drop (gs.length - j)).reverse ++ [pz f g] := by
      have e1 : gs.length - j = gs.length - (j + 1) + 1 := by omega
      have e2 : gs.length - 1 - j = gs.length - (j + 1) := by omega
      rw [e2] at hz
      obtain ⟨hlt, e3⟩ := List.getElem?_eq_some_iff.mp hz
      rw [List.drop_eq_getElem_cons hlt, e3, List.reverse_cons, e1]
    have ol := sub (zs.drop (gs.length - j)).reverse (fun z hz => List.mem_of_mem_drop (List.mem_reverse.mp hz)) (by rw [List.length_reverse, List.length_drop]; omega) _ (A8f _ _)
    trivial
    rw [ei]
    refine B8 eg ?_
    trivial
    refine ⟨_, _, rfl, (on_w ol.1 (by decide)).q (by decide) (by decide), (on_w hg'.2 (by decide)).q (by decide) (by decide), ?_⟩
    trivial
    refine B8 ef ?_
    trivial
    refine B8 eg ?_
    trivial
    refine .inl ⟨_, _, rfl, (on_w hf.2.2 (by decide)).q (by decide) (by decide), (on_w hg'.2 (by decide)).q (by decide) (by decide), ?_⟩
    trivial
    refine ⟨_, _, rfl, (on_p ol.2 (by decide)).q (by decide) (by decide), (on_p om (by decide)).q (by decide) (by decide), ?_⟩
    trivial
    exact ⟨by rw [J4, List.length_reverse, List.length_drop]; omega, _, by rw [ed, A3p, A4j, List.map_append]; rfl⟩
  · rintro e ⟨o10, rfl⟩
    subst hR
    trivial
    rw [Nat.sub_self, List.drop_zero]
    refine k _ _ ⟨B15 (fun z hz => ?_) (List.pairwise_reverse.mpr zpw), by rw [List.length_reverse]; omega, w0, fun d hd => ?_, sub _ (fun z hz => List.mem_reverse.mp hz) (by rw [List.length_reverse]; omega)⟩
    · have := zpos z (List.mem_reverse.mp hz); exact ⟨this.1, this.2.1⟩
    · have := A8h (C := (w, p + sum2 zs)) (l := zs.reverse) (fun z hz => Rat.le_of_lt (zpos z (List.mem_reverse.mp hz)).2.1) d hd
      rw [A2n] at this
      have e : (w, p + sum2 zs).2 - sum2 zs = p := by show p + sum2 zs - sum2 zs = p; grind
      rw [e] at this; grind
theorem W6 (T : Txt K mg D) : FnOk P w K mg base CX0 2 D.a_Lparted D.d_Lparted ["_law_one", "_law_other"] (Pu.spOf K [.dat, .dat] A42) := by
  refine T.F_Lparted.ok sc_Lparted (Pu.spOf.len rfl) (fun cdv A outer s H vs Q E hr h => ?_)
  refine ⟨_, (QSs.out (B0 (B6 (A6 (Q2 (K := K) T) hr.mo rfl T.m_Llow T.F_Llow.kp (X4 T) .nil B5 (A0 (B7 D1 (A9 (A5 (K := K) rfl) (qpv 0) A2 (fun _ _ => rfl)) (A9 (A5 (K := K) rfl) (qpv 1) A2 (fun _ _ => rfl))) (A0 (B7 D1 (A9 (A5 (K := K) rfl) (qpv 0) A2 (fun _ _ => rfl)) (A9 (A5 (K := K) rfl) (qpv 1) A2 (fun _ _ => rfl))) A1)))))), ?_⟩
  haveI := T.c2_NOUGHT
  haveI := T.c2_HALF
  haveI := T.c2_ONE
  refine Pu.E8 h ?_
  rintro as Qp ⟨p, q, rfl, sp, sq, hq, k⟩
  trivial
  have p1 := sp.1.mono (l := 8000) (by decide)
  have p2 := sp.2.mono (l := 8000) (by decide)
  have q1 := sq.1.mono (l := 8000) (by decide)
  have q2 := sq.2.mono (l := 8000) (by decide)
  refine ⟨⟨p1, q2⟩, ⟨p2, q1⟩, _, _, rfl, Int.mul_pos (denp p) (B6g hq), (sp.1.mul sq.2).mono (by decide), (sp.2.mul sq.1).mono (by decide), ?_⟩
  rw [B7v]; exact k
def B02 : Pu.PSp := fun as Q => ∃ c d : Rat × Rat, as = [.d (dcn c), .d (dcn d)] /\ c.1 < d.1 /\ (SmR 150 90 c.1 /\ SmR 295 182 c.2) /\ (SmR 150 90 d.1 /\ SmR 295 182 d.2) /\ Q (.d (dq (fl c d)))
theorem A3h (T : Txt K mg D) : FnOk P w K mg base CX0 3 D.a_Lfall D.d_Lfall ["_law_one", "_law_other"] (Pu.spOf K [.dat, .dat] B02) := by
  refine T.F_Lfall.ok sc_Lfall (Pu.spOf.len rfl) (fun cdv A outer s H vs Q E hr h => ?_)
  refine ⟨_, (QSs.out (B0 (B6 (A6 (W6 (K := K) T) hr.mo rfl T.m_Lparted T.F_Lparted.kp (A1n T) .nil B5 (A0 (A6 (G9 (K := K) T) hr.mo rfl T.m_Lminus T.F_Lminus.kp (L6 T) .nil B5 (A0 (A9 (A5 (K := K) rfl) (qpv 0) A2 (fun _ _ => rfl)) (A0 (A9 (A5 (K := K) rfl) (qpv 1) A2 (fun _ _ => rfl)) A1))) (A0 (A6 (G9 (K := K) T) hr.mo rfl T.m_Lminus T.F_Lminus.kp (L6 T) .nil B5 (A0 (A9 (A5 (K := K) rfl) (qpv 1) A2 (fun _ _ => rfl)) (A0 (A9 (A5 (K := K) rfl) (qpv 0) A2 (fun _ _ => rfl)) A1))) A1)))))), ?_⟩
  haveI := T.c2_NOUGHT
  haveI := T.c2_HALF
  haveI := T.c2_ONE
  refine Pu.E8 h ?_
  rintro as Qp ⟨c, d, rfl, lt, ⟨s1, s2⟩, ⟨s3, s4⟩, k⟩
  trivial
  refine ⟨_, _, rfl, s2.q (by decide) (by decide), s4.q (by decide) (by decide), ?_⟩
  trivial
  refine ⟨_, _, rfl, s3.q (by decide) (by decide), s1.q (by decide) (by decide), ?_⟩
  trivial
  exact ⟨_, _, rfl, (s2.sub s4).q (by decide) (by decide), (s3.sub s1).q (by decide) (by decide), by grind, k⟩
def A6c : Pu.PSp := fun as Q => ∃ (cs : List (Rat × Rat)) (w : Rat), as = [.bor (cs.map dcn), .d (dq w)] /\ Gs cs /\ SmR 2450 2450 w /\ Q (.d (evD cs w))
theorem A0x (T : Txt K mg D) : FnOk P w K mg base CX0 4 D.a_Lprice D.d_Lprice ["_law_shape_here", "_law_whole"] (Pu.spOf K [.vw, .dat] A6c) := by
  refine T.F_Lprice.ok sc_Lprice (Pu.spOf.len rfl) (fun cdv A outer s H vs Q E hr h => ?_)
  refine ⟨_, (QSs.out (A4 (B3 (i := 2) sc_Lprice.nd rfl (Or.inl rfl) F2)
      (A4 (F8 PassesOwn.never rfl (G4 rfl T.z_range (A0 (C3 (C4 (K := K) rfl) (by rfl) T.z_len PySem.boot_len (A0 (qpv 0) A1)) A1)) (C2 (i := 3) sc_Lprice.nd rfl (Or.inl rfl) (Or.inl rfl))
        (B0 (D0 (K2 (D8 (A6 (E5 (K := K) T) hr.mo rfl T.m_Lunder T.F_Lunder.kp (F6 T) .nil B5 (A0 (qpv 1) (A0 (A9 (A5 (K := K) rfl) (A9 (A5 (K := K) rfl) (qpv 0) (qpv 3) (fun _ _ => rfl)) A2 (fun _ _ => rfl)) A1)))))
          (A4 (B3 (i := 2) sc_Lprice.nd rfl (Or.inl rfl) (A9 (A5 (K := K) rfl) (A9 (A5 (K := K) rfl) (qpv 0) (qpv 3) (fun _ _ => rfl)) A2 (fun _ _ => rfl)))
          (B0 (D0 (QW.pt (K1 (B4 A45 (B7 E9 (qpv 3) A2) (C3 (C4 (K := K) rfl) (by rfl) T.z_len PySem.boot_len (A0 (qpv 0) A1)) (B9 _)) (J0 (D8 (A6 (E5 (K := K) T) hr.mo rfl T.m_Lunder T.F_Lunder.kp (F6 T) .nil B5 (A0 (qpv 1) (A0 (A9 (A5 (K := K) rfl) (A9 (A5 (K := K) rfl) (qpv 0) (B7 E9 (qpv 3) A2) (fun _ _ => rfl)) A2 (fun _ _ => rfl)) A1)))))))
            (A4 (B3 (i := 4) sc_Lprice.nd rfl (Or.inl rfl) (A6 (G8 (K := K) T) hr.mo rfl T.m_Ltimes T.F_Ltimes.kp (L3 T) .nil B5 (A0 (A6 (A3h (K := K) T) hr.mo rfl T.m_Lfall T.F_Lfall.kp (B0j T) .nil B5 (A0 (A9 (A5 (K := K) rfl) (qpv 0) (qpv 3) (fun _ _ => rfl)) (A0 (A9 (A5 (K := K) rfl) (qpv 0) (B7 E9 (qpv 3) A2) (fun _ _ => rfl)) A1))) (A0 (A6 (G9 (K := K) T) hr.mo rfl T.m_Lminus T.F_Lminus.kp (L6 T) .nil B5 (A0 (qpv 1) (A0 (A9 (A5 (K := K) rfl) (A9 (A5 (K := K) rfl) (qpv 0) (qpv 3) (fun _ _ => rfl)) A2 (fun _ _ => rfl)) A1))) A1))))
            (B0 (B3 (i := 2) sc_Lprice.nd rfl (Or.inl rfl) (A6 (G9 (K := K) T) hr.mo rfl T.m_Lminus T.F_Lminus.kp (L6 T) .nil B5 (A0 (A9 (A5 (K := K) rfl) (A9 (A5 (K := K) rfl) (qpv 0) (qpv 3) (fun _ _ => rfl)) A2 (fun _ _ => rfl)) (A0 (qpv 4) A1))))))
            C1)))
          C1)))
      (B0 (B6 (qpv 2)))))), ?_⟩
  haveI := T.c2_NOUGHT
  haveI := T.c2_HALF
  haveI := T.c2_ONE
  refine Pu.E8 h ?_
  rintro as Qp ⟨cs, w, rfl, sh, sw, k⟩
  have hl := sh.le
  have hne := sh.ne
  obtain ⟨m, _, hm, h1, h2⟩ := T7 w sh.ri
  have e0 : cs[0]? = some cs[0] := List.getElem?_eq_getElem (by omega)
  refine hd fun R hR => ?_
  trivial
  subst hR
  refine hd fun R hR => ?_
  trivial
  refine ⟨⟨by omega, by omega⟩, U6 (fun i e => ∃ (x : PyData) (o3 o4 : Option SV), e = [some (.bor (cs.map dcn)), some (.d (dq w)), some (.d x), o3, o4] /\ (m = 0 -> x = .none) /\ (1 <= m -> m <= i -> x = dq (ev cs w))) ⟨_, _, _, rfl, fun _ => rfl, fun h g => absurd g (by omega)⟩ ?_ ?_⟩
  · rintro i e hi ⟨x, o3, o4, rfl, g1, g2⟩
    have hi : i < cs.length := by omega
    obtain ⟨c, hc⟩ : ∃ c, cs[i]? = some c := ⟨_, List.getElem?_eq_getElem hi⟩
    have sc := sh.sm c (List.mem_of_getElem? hc)
    trivial
    refine B8 hc ?_
    trivial
    refine ⟨_, _, rfl, sw.q (by decide) (by decide), sc.1.q (by decide) (by decide), ?_⟩
    trivial
    refine ite2 (fun lt => ?_) (fun lt => ?_)
    · have hmi : m <= i := by
        rcases Nat.lt_or_ge i m with z | z
        · exact absurd lt (h1 i c z hc)
        · exact z
      exact ⟨x, _, _, rfl, g1, fun a _ => g2 a hmi⟩
    · have him : i < m := by
        rcases Nat.lt_or_ge i m with z | z
        · exact z
        · exact absurd (h2 i c z hc) lt
      refine B8 hc ?_
      trivial
      refine ite2 (fun hlt => ?_) (fun hlt => ?_)
      · have hi1 : i + 1 < cs.length := by omega
        obtain ⟨d, hd⟩ : ∃ c, cs[i + 1]? = some c := ⟨_, List.getElem?_eq_getElem hi1⟩
        have sd := sh.sm d (List.mem_of_getElem? hd)
        have cd := (sh.ri i c d hc hd).1
        rw [show (i : Int) + 1 = ((i + 1 : Nat) : Int) by omega]
        refine B8 hd ?_
        trivial
        refine ⟨_, _, rfl, sw.q (by decide) (by decide), sd.1.q (by decide) (by decide), ?_⟩
        trivial
        refine ite2 (fun lt2 => ?_) (fun lt2 => ?_)
        · refine B8 hc ?_
          trivial
          refine B8 hd ?_
          trivial
          refine ⟨_, _, rfl, cd, sc, sd, ?_⟩
          trivial
          refine B8 hc ?_
          trivial
          refine ⟨_, _, rfl, sw.q (by decide) (by decide), sc.1.q (by decide) (by decide), ?_⟩
          trivial
          have sf : SmR 660 610 (fl c d) := ((sc.2.sub sd.2).div (sd.1.sub sc.1) (by grind)).mono (by decide) (by decide)
          refine .inl ⟨_, _, rfl, sf.q (by decide) (by decide), (sw.sub sc.1).q (by decide) (by decide), ?_⟩
          trivial
          refine B8 hc ?_
          trivial
          refine ⟨_, _, rfl, sc.2.q (by decide) (by decide), (sf.mul (sw.sub sc.1)).q (by decide) (by decide), ?_⟩
          trivial
          exact ⟨_, _, _, rfl, fun z => absurd z (by omega), fun _ _ => by rw [X1 sh.ri hc hd lt lt2]⟩
        · refine ⟨_, _, _, rfl, fun z => absurd z (by omega), fun _ z => ?_⟩
          have : i + 1 < m := by
            rcases Nat.lt_or_ge (i + 1) m with y | y
            · exact y
            · exact absurd (h2 (i + 1) d y hd) lt2
          omega
      · refine ⟨_, _, _, rfl, fun z => absurd z (by omega), fun _ z => ?_⟩
        rw [Q9 sh.ri (c := c) (by rw [show cs.length - 1 = i by omega]; exact hc) lt]
  · rintro e ⟨x, o3, o4, rfl, g1, g2⟩
    subst hR
    trivial
    unfold evD at k
    rw [Z6 e0] at k
    by_cases z : m = 0
    · rw [g1 z]
      rw [if_pos (h2 0 _ (by omega) e0)] at k
      exact k
    · rw [g2 (by omega) (by omega)]
      rw [if_neg (h1 0 _ (by omega) e0)] at k
      exact k
def A53 : Pu.PSp := fun as Q => ∃ (A B : Spr) (w : Rat), as = [.bor ((bs A).map dcn), .bor ((bs B).map dcn), .d (dq w)] /\ Sh A.1 A.2 /\ Sh B.1 B.2 /\ SmR 2450 2450 w /\ Q (.d (.str (wS (Wd2 A B w))))
theorem P0 (T : Txt K mg D) : FnOk P w K mg base CX0 6 D.a_wordat D.d_wordat ["one", "other", "whole"] (Pu.spOf K [.vw, .vw, .dat] A53) := by
  refine T.F_wordat.ok sc_wordat (Pu.spOf.len rfl) (fun cdv A outer s H vs Q E hr h => ?_)
  refine ⟨_, (QSs.out (A4 (K4 (i := 3) (j := 4) rfl sc_wordat.nd rfl rfl (by decide) rfl rfl (A0 (A6 (N0 (K := K) T) hr.mo rfl T.m_priceat T.F_priceat.kp (P5 T) .nil B5 (A0 (qpv 0) (A0 (qpv 2) A1))) (A0 (A6 (N0 (K := K) T) hr.mo rfl T.m_priceat T.F_priceat.kp (P5 T) .nil B5 (A0 (qpv 1) (A0 (qpv 2) A1))) A1)) rfl)
      (A4 (D0 (QW.pt (K1 (B4 N9 (qpv 3) F2 (B9 _)) (J0 (B4 N9 (qpv 4) F2 (B9 _)))))
        (B0 (B6 C5))
        C1)
      (A4 (D0 (B4 N9 (qpv 3) F2 (B9 _))
        (B0 (B6 C5))
        C1)
      (A4 (D0 (B4 N9 (qpv 4) F2 (B9 _))
        (B0 (B6 C5))
        C1)
      (A4 (D0 (B4 (D7 (K := K) rfl hr.units) (qpv 3) (qpv 4) (B9 _))
        (B0 (B6 C5))
        C1)
      (B0 (B6 (T4 (D8 (A6 (U0 (K := K) T) hr.mo rfl T.m_isless T.F_isless.kp (A0a T) .nil B5 (A0 (qpv 3) (A0 (qpv 4) A1)))) C5 C5))))))))), ?_⟩
  haveI := T.c2_NOUGHT
  haveI := T.c2_HALF
  haveI := T.c2_ONE
  refine Pu.E8 h ?_
  rintro as Qp ⟨A, B, w, rfl, hA, hB, sw, k⟩
  refine hd fun R hR => ?_
  trivial
  refine ⟨_, _, rfl, hA.gs, sw, ?_⟩
  trivial
  refine ⟨_, _, rfl, hB.gs, sw, ?_⟩
  trivial
  subst hR
  by_cases h1 : w < A.1.1
  · rw [X2 h1]
    by_cases h2 : w < B.1.1
    · rw [X2 h2]
      rw [w_no h1 h2] at k
      trivial
      exact k
    · rw [J3 (by grind)]
      rw [A1s h1 (by grind)] at k
      trivial
      exact k
  · rw [J3 (by grind)]
    by_cases h2 : w < B.1.1
    · rw [X2 h2]
      rw [A1t (by grind) h2] at k
      trivial
      exact k
    · rw [J3 (by grind)]
      have s1 : SmR 3450 3350 (ev (bs A) w) := hA.smw sw (by grind)
      have s2 : SmR 3450 3350 (ev (bs B) w) := hB.smw sw (by grind)
      rw [V5 (by grind) (by grind)] at k
      unfold gp at k
      rw [A5v] at k
      trivial
      refine ite2 (fun h => ?_) (fun h => ?_)
      · rw [if_pos h] at k; exact k
      · rw [if_neg h] at k
        refine ⟨_, _, rfl, s1.q (by decide) (by decide), s2.q (by decide) (by decide), ?_⟩
        trivial
        refine ite2 (fun h3 => ?_) (fun h3 => ?_)
        · rw [if_pos h3] at k
          trivial
          exact k
        · rw [if_neg h3] at k
          trivial
          exact k
def O7 : Pu.PSp := fun as Q => ∃ (A B : Spr) (a b : Rat), as = [.bor ((bs A).map dcn), .bor ((bs B).map dcn), .d (dq a), .d (dq b)] /\ Sh A.1 A.2 /\ Sh B.1 B.2 /\ On LL (2 ^ 46) a /\ On LL (2 ^ 46) b /\ GP A B a b /\ Q (.d (oD (crs A B a b)))
theorem P1 (T : Txt K mg D) : FnOk P w K mg base CX0 7 D.a_crossingbetween D.d_crossingbetween ["one", "other", "sooner", "later"] (Pu.spOf K [.vw, .vw, .dat, .dat] O7) := by
  refine T.F_crossingbetween.ok sc_crossingbetween (Pu.spOf.len rfl) (fun cdv A outer s H vs Q E hr h => ?_)
  refine ⟨_, (QSs.out (A4 (B3 (i := 4) sc_crossingbetween.nd rfl (Or.inl rfl) (D3 (A0 (A6 (P0 (K := K) T) hr.mo rfl T.m_wordat T.F_wordat.kp (T1 T) .nil B5 (A0 (qpv 0) (A0 (qpv 1) (A0 (qpv 2) A1)))) (A0 (A6 (P0 (K := K) T) hr.mo rfl T.m_wordat T.F_wordat.kp (T1 T) .nil B5 (A0 (qpv 0) (A0 (qpv 1) (A0 (qpv 3) A1)))) A1))))
      (A4 (D0 (QW.pt (K1 (B4 (G7 (K := K) rfl hr.units) (qpv 4) (D3 (A0 C5 (A0 C5 A1))) (B9 _)) (J0 (B4 (G7 (K := K) rfl hr.units) (qpv 4) (D3 (A0 C5 (A0 C5 A1))) (B9 _)))))
        (B0 (B6 F2))
        C1)
      (A4 (K3 (i := 5) rfl sc_crossingbetween.nd rfl rfl (F1 (N' := ["one", "other", "whole"]) (cap := [some 0, some 1, none]) rfl rfl rfl rfl (by decide +kernel) rfl rfl) (G6 (K := K) rfl (D6 (A0 (qpv 2) (A0 (qpv 3) A1)))) (fun _ _ _ => (C2 (i := 2) (show (["one", "other", "whole"] : List Str).Nodup from by decide +kernel) rfl (Or.inl rfl) (Or.inr rfl))) (fun _ _ _ => G0) (fun _ _ _ => (A6 (S8 (K := K) T) hr.mo rfl T.m_minus T.F_minus.kp (Z9 T) .nil B5 (A0 (A6 (N0 (K := K) T) hr.mo rfl T.m_priceat T.F_priceat.kp (P5 T) .nil B5 (A0 (qpv 0) (A0 (qpv 2) A1))) (A0 (A6 (N0 (K := K) T) hr.mo rfl T.m_priceat T.F_priceat.kp (P5 T) .nil B5 (A0 (qpv 1) (A0 (qpv 2) A1))) A1)))) rfl)
      (B0 (B6 (A6 (Q1 (K := K) T) hr.mo rfl T.m_between T.F_between.kp (V2 T) .nil B5 (A0 (qpv 2) (A0 (qpv 3) (A0 (A6 (M1 (K := K) T) hr.mo rfl T.m_sharebetween T.F_sharebetween.kp (N7 T) .nil B5 (A0 (A9 (A5 (K := K) rfl) (qpv 5) A2 (fun _ _ => rfl)) (A0 (A9 (A5 (K := K) rfl) (qpv 5) A2 (fun _ _ => rfl)) (A0 (Y6 (v := .ref D.k_NOUGHT) rfl T.c_NOUGHT rfl) A1)))) A1)))))))))), ?_⟩
  haveI := T.c2_NOUGHT
  haveI := T.c2_HALF
  haveI := T.c2_ONE
  refine Pu.E8 h ?_
  rintro as Qp ⟨A, B, a, b, rfl, hA, hB, oa, ob, G, k⟩
  have sa : SmR 2450 2450 a := (on_w oa (by decide)).mono (by decide) (by decide)
  have sb : SmR 2450 2450 b := (on_w ob (by decide)).mono (by decide) (by decide)
  refine hd fun R hR => ?_
  trivial
  refine ⟨A, B, a, rfl, hA, hB, sa, ?_⟩
  trivial
  refine ⟨A, B, b, rfl, hA, hB, sb, ?_⟩
  trivial
  subst hR
  refine G5 (fun e => e = [some (.bor ((bs A).map dcn)), some (.bor ((bs B).map dcn)), some (.d (dq a)), some (.d (dq b)), some (.own [.str (wS (Wd2 A B a)), .str (wS (Wd2 A B b))]), none] /\ ((Wd2 A B a = .les /\ Wd2 A B b = .mor) \/ (Wd2 A B a = .mor /\ Wd2 A B b = .les))) (fun R hR => ?_) ?_
  · trivial
    rw [show PyData.list [.str (wS (Wd2 A B a)), .str (wS (Wd2 A B b))] = w2D (Wd2 A B a) (Wd2 A B b) from rfl]
    refine ⟨B1y _ _, by decide +kernel, B1z _ _, ?_⟩
    rw [C0p]
    by_cases h1 : Wd2 A B a = .les /\ Wd2 A B b = .mor
    · rw [h1.1, h1.2, if_neg (by decide)]
      rw [h1.1, h1.2] at hR
      exact hR _ ⟨rfl, .inl ⟨rfl, rfl⟩⟩
    · rw [if_pos (by simpa using h1)]
      refine ⟨B1y _ _, by decide +kernel, B1z _ _, ?_⟩
      rw [C0o]
      by_cases h2 : Wd2 A B a = .mor /\ Wd2 A B b = .les
      · rw [h2.1, h2.2, if_neg (by decide)]
        rw [h2.1, h2.2] at hR
        exact hR _ ⟨rfl, .inr ⟨rfl, rfl⟩⟩
      · rw [if_pos (by simpa using h2)]
        unfold crs at k
        rw [if_neg (fun z => z.elim h1 h2)] at k
        exact k
  rintro e ⟨rfl, hc⟩
  have ec : crs A B a b = some (a + (0 - gp A B a) / (gp A B b - gp A B a) * (b - a)) := by unfold crs; rw [if_pos hc]
  obtain ⟨_, _, _, d0, _, _⟩ := G.2.2 _ ec
  have dA := B10 (x := a) (hc.elim (fun z => .inl z.1) fun z => .inr z.1)
  have dB := B10 (x := b) (hc.elim (fun z => .inr z.2) fun z => .inl z.2)
  have s1 : SmR 620 500 (ev (bs A) a) := hA.smu oa dA.1
  have s2 : SmR 620 500 (ev (bs B) a) := hB.smu oa dA.2
  have s3 : SmR 620 500 (ev (bs A) b) := hA.smu ob dB.1
  have s4 : SmR 620 500 (ev (bs B) b) := hB.smu ob dB.2
  have sg0 : SmR 1125 1000 (gp A B a) := (s1.sub s2).mono (by decide) (by decide)
  have sg1 : SmR 1125 1000 (gp A B b) := (s3.sub s4).mono (by decide) (by decide)
  refine hd fun R hR => ?_
  trivial
  refine ⟨by decide, ⟨fun i e ys => ∃ o : Option SV, e = [some (.bor ((bs A).map dcn)), some (.bor ((bs B).map dcn)), o] /\ ys = ([gp A B a, gp A B b].take i).map dq, ⟨_, rfl, rfl⟩, ?_, ?_⟩⟩
  · rintro i x e ys hx ⟨o, rfl, rfl⟩
    rcases i with _ | _ | i
    · have ex : dq a = x := by simpa using hx
      subst ex
      trivial
      refine ⟨_, _, rfl, hA.gs, sa, ?_⟩
      rw [J3 dA.1]
      trivial
      refine ⟨_, _, rfl, hB.gs, sa, ?_⟩
      rw [J3 dA.2]
      trivial
      refine ⟨_, _, rfl, s1.q (by decide) (by decide), s2.q (by decide) (by decide), ?_⟩
      trivial
      exact ⟨_, rfl, rfl⟩
    · have ex : dq b = x := by simpa using hx
      subst ex
      trivial
      refine ⟨_, _, rfl, hA.gs, sb, ?_⟩
      rw [J3 dB.1]
      trivial
      refine ⟨_, _, rfl, hB.gs, sb, ?_⟩
      rw [J3 dB.2]
      trivial
      refine ⟨_, _, rfl, s3.q (by decide) (by decide), s4.q (by decide) (by decide), ?_⟩
      trivial
      exact ⟨_, rfl, rfl⟩
    · simp at hx
  rintro e ys ⟨o, rfl, rfl⟩
  subst hR
  trivial
  refine ⟨gp A B a, gp A B b, 0, 1125, 1000, 1, 1, rfl, sg0, sg1, smr0, by decide, by decide, by decide, by decide, by decide, d0, ?_⟩
  trivial
  have ss : SmR 3160 3160 ((0 - gp A B a) / (gp A B b - gp A B a)) := ((smr0.sub sg0).div (sg1.sub sg0) d0).mono (by decide) (by decide)
  refine ⟨a, b, _, 150, 90, 3160, 3160, rfl, on_w oa (by decide), on_w ob (by decide), ss, by decide, by decide, ?_⟩
  rw [ec] at k
  exact k
def R8 : Pu.PSp := fun as Q => ∃ A B : Spr, as = [.bor ((bs A).map dcn), .bor ((bs B).map dcn)] /\ Sh A.1 A.2 /\ Sh B.1 B.2 /\ ∀ a r, Us A B a r -> Q (.own ((tn A B a r).map dq))
theorem R9 (T : Txt K mg D) : FnOk P w K mg base CX0 8 D.a_turningwholes D.d_turningwholes ["one", "other"] (Pu.spOf K [.vw, .vw] R8) := by
  refine T.F_turningwholes.ok sc_turningwholes (Pu.spOf.len rfl) (fun cdv A outer s H vs Q E hr h => ?_)
  refine ⟨_, (QSs.out (A4 (B3 (i := 2) sc_turningwholes.nd rfl (Or.inl rfl) (A6 (T9 (K := K) T) hr.mo rfl T.m_mergedwholes T.F_mergedwholes.kp (V4 T) .nil B5 (A0 (qpv 0) (A0 (qpv 1) A1))))
      (A4 (B3 (i := 3) sc_turningwholes.nd rfl (Or.inl rfl) (O5 (S5 (K := K) rfl) (qpv 2) S7 (S6 A2)))
      (A4 (F8 PassesOwn.never rfl (Y4 (K := K) rfl rfl T.z_zip (A0 (qpv 2) (A0 (O5 (S5 (K := K) rfl) (qpv 2) (S6 A2) S7) A1))) (K6 (K := K) (n := 2) rfl rfl (D2 (C2 (i := 4) sc_turningwholes.nd rfl (Or.inl rfl) (Or.inl rfl)) (D2 (C2 (i := 5) sc_turningwholes.nd rfl (Or.inl rfl) (Or.inl rfl)) K5)) rfl rfl)
        (A4 (B3 (i := 6) sc_turningwholes.nd rfl (Or.inl rfl) (A6 (P1 (K := K) T) hr.mo rfl T.m_crossingbetween T.F_crossingbetween.kp (R1 T) .nil B5 (A0 (qpv 0) (A0 (qpv 1) (A0 (qpv 4) (A0 (qpv 5) A1))))))
        (A4 (D0 (B4 Z2 (qpv 6) F2 (B9 _))
          (B0 (G1 (J2 (K := K) rfl PySem.F.plainAttrs_list PySem.F.slot_list_append PySem.F.type_list_append F4 (qpv 3) (A0 (qpv 6) A1))))
          C1)
        (B0 (G1 (J2 (K := K) rfl PySem.F.plainAttrs_list PySem.F.slot_list_append PySem.F.type_list_append F4 (qpv 3) (A0 (qpv 5) A1)))))))
      (B0 (B6 (qpv 3))))))), ?_⟩
  haveI := T.c2_NOUGHT
  haveI := T.c2_HALF
  haveI := T.c2_ONE
  refine Pu.E8 h ?_
  rintro as Qp ⟨A, B, rfl, hA, hB, k⟩
  refine hd fun R hR => ?_
  trivial
  refine ⟨_, _, rfl, hA.gs, hB.gs, B0c hA.gs.ri, B0c hB.gs.ri, fun us pu mu lu => ?_⟩
  have lA := hA.le
  have lB := hB.le
  unfold bs at lu
  rw [J4, J4] at lu
  obtain ⟨a, r, rfl⟩ : ∃ a r, us = a :: r := by
    cases us with
    | nil => have := (mu A.1.1).mpr (.inl (List.mem_map.mpr ⟨A.1, F5 _ _, rfl⟩)); simp at this
    | cons a r => exact ⟨a, r, rfl⟩
  have U : Us A B a r := ⟨pu, mu, by simp at lu; omega⟩
  have C := U.chn hA hB
  have O := U.on hA hB
  have lr := U.le
  trivial
  subst hR
  refine hd fun R hR => ?_
  trivial
  rw [show cutD (dq a :: r.map dq) none (some 1) = [dq a] from rfl]
  subst hR
  refine hd fun R hR => ?_
  trivial
  rw [show dq a :: r.map dq = (a :: r).map dq from rfl, A08]
  refine A9q (fun i e => ∃ (x : Rat) (ws : List Rat) (o4 o5 o6 : Option SV), e = [some (.bor ((bs A).map dcn)), some (.bor ((bs B).map dcn)), some (.d (.list ((a :: r).map dq))), some (.own (ws.map dq)), o4, o5, o6] /\ (a :: r)[i]? = some x /\ ws.length <= 2 * i + 1 /\ ws ++ (tn A B x (r.drop i)).drop 1 = tn A B a r) ⟨a, [a], _, _, _, rfl, rfl, by simp, by obtain ⟨t, e⟩ := A5o A B a r; rw [List.drop_zero, e]; rfl⟩ ?_ ?_
  · rintro i z e hz ⟨x, ws, o4, o5, o6, rfl, hx, hwl, hw⟩
    obtain ⟨p, q, hp, hq, rfl⟩ := X7 hz
    rw [List.getElem?_map, hx] at hp
    cases (show dq x = p from Option.some.inj hp)
    rw [List.getElem?_map] at hq
    obtain ⟨y, hy, rfl⟩ := Option.map_eq_some_iff.mp hq
    rw [List.getElem?_drop, Nat.add_comm] at hy
    have hil := (List.getElem?_eq_some_iff.mp hy).1
    rw [List.length_cons] at hil
    have G := B4o C hx hy
    have ed : r.drop i = y :: r.drop (i + 1) := by
      have hy' : r[i]? = some y := by simpa using hy
      obtain ⟨h1, h2⟩ := List.getElem?_eq_some_iff.mp hy'
      rw [List.drop_eq_getElem_cons h1, h2]
    obtain ⟨t, et⟩ := A5o A B y (r.drop (i + 1))
    have en : ws ++ (crs A B x y).toList ++ [y] ++ (tn A B y (r.drop (i + 1))).drop 1 = tn A B a r := by
      rw [<- hw, ed]
      show _ = ws ++ ((crs A B x y).toList ++ tn A B y (r.drop (i + 1)))
      rw [et]; simp
    simp only [O6, Y7, A2y, A51, List.set_cons_succ, List.set_cons_zero, List.length_cons, List.length_nil, Nat.zero_add, Nat.reduceAdd, true_and]
    refine hd fun R2 hR2 => ?_
    trivial
    refine ⟨A, B, x, y, rfl, hA, hB, O x (List.mem_of_getElem? hx), O y (List.mem_of_getElem? hy), G, ?_⟩
    trivial
    subst hR2
    cases hc : crs A B x y with
    | none =>
      rw [hc] at en
      rw [show oD none = PyData.none from rfl]
      trivial
      exact ⟨by omega, y, ws ++ [y], _, _, _, by rw [List.map_append]; rfl, hy, by simp; omega, by simpa using en⟩
    | some c =>
      rw [hc] at en
      rw [show oD (some c) = dq c from rfl]
      trivial
      exact ⟨by omega, by simp; omega, y, ws ++ [c] ++ [y], _, _, _, by rw [List.map_append, List.map_append]; rfl, hy, by simp; omega, by simpa using en⟩
  · rintro e ⟨x, ws, o4, o5, o6, rfl, hx, hwl, hw⟩
    subst hR
    rw [O1, List.length_map, List.length_map, List.length_drop, List.length_cons] at hw
    rw [show min (r.length + 1) (r.length + 1 - 1) = r.length by omega, List.drop_length] at hw
    have : ws = tn A B a r := by rw [<- hw]; simp [tn]
    subst this
    trivial
    exact k a r U
def Y8 : Pu.PSp := fun as Q => ∃ A B : Spr, as = [.bor ((bs A).map dcn), .bor ((bs B).map dcn)] /\ Sh A.1 A.2 /\ Sh B.1 B.2 /\ ∀ a r, Us A B a r -> Q (.own ((sbs A B a r).map rwD))
theorem K8 (T : Txt K mg D) : FnOk P w K mg base CX0 9 D.a_sidebyside D.d_sidebyside ["one", "other"] (Pu.spOf K [.vw, .vw] Y8) := by
  refine T.F_sidebyside.ok sc_sidebyside (Pu.spOf.len rfl) (fun cdv A outer s H vs Q E hr h => ?_)
  refine ⟨_, (QSs.out (A4 (B3 (i := 2) sc_sidebyside.nd rfl (Or.inl rfl) (A6 (R9 (K := K) T) hr.mo rfl T.m_turningwholes T.F_turningwholes.kp (V1 T) .nil B5 (A0 (qpv 0) (A0 (qpv 1) A1))))
      (A4 (B3 (i := 3) sc_sidebyside.nd rfl (Or.inl rfl) (B7 (T8 (K := K) rfl) (M9 rfl (F1 (N' := ["sooner", "later"]) (cap := [none, none]) rfl rfl rfl rfl (by decide +kernel) rfl rfl) (Y4 (K := K) rfl rfl T.z_zip (A0 (qpv 2) (A0 (O5 (S5 (K := K) rfl) (qpv 2) (S6 A2) S7) A1))) (fun _ _ _ => (K6 (K := K) (n := 2) rfl rfl (D2 (C2 (i := 0) (show (["sooner", "later"] : List Str).Nodup from by decide +kernel) rfl (Or.inl rfl) (Or.inr rfl)) (D2 (C2 (i := 1) (show (["sooner", "later"] : List Str).Nodup from by decide +kernel) rfl (Or.inl rfl) (Or.inr rfl)) K5)) rfl rfl)) (fun _ _ _ => G0) (fun _ _ _ => (A6 (Q1 (K := K) T) hr.mo rfl T.m_between T.F_between.kp (V2 T) .nil B5 (A0 (qpv 0) (A0 (qpv 1) (A0 (Y6 (v := .ref D.k_HALF) rfl T.c_HALF rfl) A1)))))) (D3 (A0 (A6 (A11 (K := K) T) hr.mo rfl T.m_plus T.F_plus.kp (B0f T) .nil B5 (A0 (A9 (A5 (K := K) rfl) (qpv 2) (O4 O2 A2) (fun _ _ => rfl)) (A0 (Y6 (v := .ref D.k_ONE) rfl T.c_ONE rfl) A1))) A1))))
      (A4 (B3 (i := 4) sc_sidebyside.nd rfl (Or.inl rfl) (D3 A1))
      (A4 (F8 PassesOwn.never rfl (Y4 (K := K) rfl rfl T.z_zip (A0 (qpv 2) (A0 (qpv 3) A1))) (K6 (K := K) (n := 2) rfl rfl (D2 (C2 (i := 5) sc_sidebyside.nd rfl (Or.inl rfl) (Or.inl rfl)) (D2 (C2 (i := 6) sc_sidebyside.nd rfl (Or.inl rfl) (Or.inl rfl)) K5)) rfl rfl)
        (A4 (K4 (i := 7) (j := 8) rfl sc_sidebyside.nd rfl rfl (by decide) rfl rfl (A0 (A6 (P0 (K := K) T) hr.mo rfl T.m_wordat T.F_wordat.kp (T1 T) .nil B5 (A0 (qpv 0) (A0 (qpv 1) (A0 (qpv 5) A1)))) (A0 (A6 (P0 (K := K) T) hr.mo rfl T.m_wordat T.F_wordat.kp (T1 T) .nil B5 (A0 (qpv 0) (A0 (qpv 1) (A0 (qpv 6) A1)))) A1)) rfl)
        (B0 (D0 (QW.pt (L8 (B4 (D7 (K := K) rfl hr.units) (C3 (C4 (K := K) rfl) (by rfl) T.z_len PySem.boot_len (A0 (qpv 4) A1)) A2 (B9 _)) (L8 (B4 (G7 (K := K) rfl hr.units) (qpv 7) (A9 (A5 (K := K) rfl) (A9 (A5 (K := K) rfl) (qpv 4) (O4 O2 A2) (fun _ _ => rfl)) A2 (fun _ _ => rfl)) (B9 _)) (K0 (B4 (G7 (K := K) rfl hr.units) (qpv 8) (A9 (A5 (K := K) rfl) (A9 (A5 (K := K) rfl) (qpv 4) (O4 O2 A2) (fun _ _ => rfl)) A2 (fun _ _ => rfl)) (B9 _))))))
          (B0 (G1 (J2 (K := K) rfl PySem.F.plainAttrs_list PySem.F.slot_list_append PySem.F.type_list_append F4 (qpv 4) (A0 (D6 (A0 (qpv 5) (A0 (qpv 7) (A0 (qpv 8) A1)))) A1))))
          C1))))
      (B0 (B6 (qpv 4)))))))), ?_⟩
  haveI := T.c2_NOUGHT
  haveI := T.c2_HALF
  haveI := T.c2_ONE
  refine Pu.E8 h ?_
  rintro as Qp ⟨A, B, rfl, hA, hB, k⟩
  refine hd fun R hR => ?_
  trivial
  refine ⟨A, B, rfl, hA, hB, fun a r U => ?_⟩
  have O := U.on hA hB
  have sT := B4t (U.chn hA hB) (on_w (O a List.mem_cons_self) (by decide)) fun b hb => on_w (O b (List.mem_cons_of_mem _ hb)) (by decide)
  have lT := A5n (A := A) (B := B) r a
  have lr := U.le
  have k := k a r U
  unfold sbs at k
  obtain ⟨t0, et0⟩ := A5o A B a r
  have l1 : 1 <= (tn A B a r).length := by rw [et0]; simp
  clear et0
  generalize tn A B a r = T at k sT lT l1
  trivial
  subst hR
  refine hd fun R hR => ?_
  trivial
  rw [A08]
  refine ⟨by rw [O1, List.length_map]; omega, ⟨fun i e ys => ∃ o1 o2 : Option SV, e = [o1, o2] /\ ys = ((inn T).take i).map dq, ⟨_, _, rfl, rfl⟩, ?_, ?_⟩⟩
  · rintro i x e ys hx ⟨o1, o2, rfl, rfl⟩
    obtain ⟨p, q, hp, hq, rfl⟩ := X7 hx
    rw [List.getElem?_map] at hp hq
    obtain ⟨t, ht, rfl⟩ := Option.map_eq_some_iff.mp hp
    obtain ⟨u, hu, rfl⟩ := Option.map_eq_some_iff.mp hq
    rw [List.getElem?_drop, Nat.add_comm] at hu
    trivial
    refine ⟨_, _, _, 1210, 1210, 1, 2, rfl, sT t (List.mem_of_getElem? ht), sT u (List.mem_of_getElem? hu), sm_half, by decide, by decide, ?_⟩
    trivial
    refine ⟨_, _, rfl, ?_⟩
    rw [List.take_succ, A9l ht hu, List.map_append]; rfl
  rintro e ys ⟨o1, o2, rfl, rfl⟩
  rw [O1, List.length_map, List.length_map, List.length_drop, show min T.length (T.length - 1) = T.length - 1 by omega]
  obtain ⟨t, ht⟩ : ∃ t, T[T.length - 1]? = some t := ⟨_, List.getElem?_eq_getElem (by omega)⟩
  trivial
  refine O9 ht l1 ?_
  trivial
  refine ⟨_, _, rfl, (sT t (List.mem_of_getElem? ht)).q (by decide) (by decide), (T2 (n := 1) (k := 2) (by unfold Sm; decide)).q (by decide) (by decide), ?_⟩
  trivial
  refine ⟨by rw [List.length_take]; omega, ?_⟩
  have ei : ((inn T).take (T.length - 1)).map dq ++ [dq (t + 1)] = (inn T).map dq := by
    rw [show [dq (t + 1)] = [t + 1].map dq from rfl, <- List.map_append]
    congr 1
    have := A34 ht
    have e2 : T.length = T.length - 1 + 1 := by omega
    conv => rhs; rw [<- List.take_length (l := inn T), A18, e2, List.take_succ, this]
    rfl
  rw [ei]
  subst hR
  refine hd fun R hR => ?_
  trivial
  subst hR
  refine hd fun R hR => ?_
  trivial
  have sI := B4c sT
  refine A9q (fun i e => ∃ o5 o6 o7 o8 : Option SV, e = [some (.bor ((bs A).map dcn)), some (.bor ((bs B).map dcn)), some (.d (.list (T.map dq))), some (.d (.list ((inn T).map dq))), some (.own ((cmp [] ((fr A B T).take i)).map rwD)), o5, o6, o7, o8] /\ (cmp [] ((fr A B T).take i)).length <= i) ⟨_, _, _, _, rfl, Nat.le_refl _⟩ ?_ ?_
  · rintro i x e hx ⟨o5, o6, o7, o8, rfl, hcl⟩
    obtain ⟨p, q, hp, hq, rfl⟩ := X7 hx
    rw [List.getElem?_map] at hp hq
    obtain ⟨t, ht, rfl⟩ := Option.map_eq_some_iff.mp hp
    obtain ⟨m, hm, rfl⟩ := Option.map_eq_some_iff.mp hq
    have hil := (List.getElem?_eq_some_iff.mp ht).1
    have ef := B4f (A := A) (B := B) ht hm
    have et : cmp [] ((fr A B T).take (i + 1)) = if kpR (cmp [] ((fr A B T).take i)) (t, Wd2 A B t, Wd2 A B m) = true then cmp [] ((fr A B T).take i) ++ [(t, Wd2 A B t, Wd2 A B m)] else cmp [] ((fr A B T).take i) := by
      rw [List.take_succ, ef]; exact A4e
    generalize cmp [] ((fr A B T).take i) = acc at hcl et
    simp only [O6, Y7, A2y, A51, List.set_cons_succ, List.set_cons_zero, List.length_cons, List.length_nil, Nat.zero_add, Nat.reduceAdd, true_and]
    refine hd fun R2 hR2 => ?_
    trivial
    refine ⟨A, B, t, rfl, hA, hB, (sT t (List.mem_of_getElem? ht)).mono (by decide) (by decide), ?_⟩
    trivial
    refine ⟨A, B, m, rfl, hA, hB, sI m (List.mem_of_getElem? hm), ?_⟩
    trivial
    subst hR2
    trivial
    have yes : kpR acc (t, Wd2 A B t, Wd2 A B m) = true -> ∃ o5 o6 o7 o8 : Option SV, [some (.bor ((bs A).map dcn)), some (.bor ((bs B).map dcn)), some (.d (.list (T.map dq))), some (.d (.list ((inn T).map dq))), some (.own (acc.map rwD ++ [.tuple [dq t, .str (wS (Wd2 A B t)), .str (wS (Wd2 A B m))]])), some (.d (dq t)), some (.d (dq m)), some (.d (.str (wS (Wd2 A B t)))), some (.d (.str (wS (Wd2 A B m))))] = [some (.bor ((bs A).map dcn)), some (.bor ((bs B).map dcn)), some (.d (.list (T.map dq))), some (.d (.list ((inn T).map dq))), some (.own ((cmp [] ((fr A B T).take (i + 1))).map rwD)), o5, o6, o7, o8] /\ (cmp [] ((fr A B T).take (i + 1))).length <= i + 1 := fun z => by
      rw [et, if_pos z]
      exact ⟨_, _, _, _, by rw [List.map_append]; rfl, by simp; omega⟩
    refine ite2 (fun h => ?_) (fun h => ?_)
    · have : acc = [] := List.eq_nil_of_length_eq_zero (by omega)
      exact ⟨by omega, yes (by rw [this]; rfl)⟩
    · obtain ⟨l, hl⟩ : ∃ l, acc[acc.length - 1]? = some l := ⟨_, List.getElem?_eq_getElem (by omega)⟩
      have ek : kpR acc (t, Wd2 A B t, Wd2 A B m) = (decide (Wd2 A B t ≠ l.2.2) || decide (Wd2 A B m ≠ l.2.2)) := by unfold kpR; rw [hl]
      refine O9 hl (by omega) ?_
      trivial
      rw [X0]
      trivial
      refine ⟨P2 _, P2 _, ?_⟩
      rw [B1l]
      trivial
      refine ite2 (fun g => ?_) (fun g => ?_)
      · refine O9 hl (by omega) ?_
        trivial
        rw [X0]
        trivial
        refine ⟨P2 _, P2 _, ?_⟩
        rw [B1l]
        trivial
        refine ite2 (fun g2 => ?_) (fun g2 => ?_)
        · rw [et, if_neg (by rw [ek]; simp [g, g2])]
          exact ⟨_, _, _, _, rfl, by omega⟩
        · exact ⟨by omega, yes (by rw [ek]; simp [g2])⟩
      · exact ⟨by omega, yes (by rw [ek]; simp [g])⟩
  · rintro e ⟨o5, o6, o7, o8, rfl, hcl⟩
    subst hR
    rw [O1, List.length_map, List.length_map, A18, Nat.min_self, <- B4e (A := A) (B := B) T, List.take_length]
    trivial
    exact k
def B00 : Pu.PSp := fun as Q => ∃ (A B : Spr) (w : Rat), as = [.bor ((bs A).map dcn), .bor ((bs B).map dcn), .d (dq w)] /\ Sh A.1 A.2 /\ Sh B.1 B.2 /\ SmR 2450 2450 w /\ Q (.d (.str (wS (Wd2 A B w))))
theorem B1b (T : Txt K mg D) : FnOk P w K mg base CX0 5 D.a_Lword D.d_Lword ["_law_one", "_law_other", "_law_whole"] (Pu.spOf K [.vw, .vw, .dat] B00) := by
  refine T.F_Lword.ok sc_Lword (Pu.spOf.len rfl) (fun cdv A outer s H vs Q E hr h => ?_)
  refine ⟨_, (QSs.out (A4 (B3 (i := 3) sc_Lword.nd rfl (Or.inl rfl) (A6 (A0x (K := K) T) hr.mo rfl T.m_Lprice T.F_Lprice.kp (A4m T) .nil B5 (A0 (qpv 0) (A0 (qpv 2) A1))))
      (A4 (B3 (i := 4) sc_Lword.nd rfl (Or.inl rfl) (A6 (A0x (K := K) T) hr.mo rfl T.m_Lprice T.F_Lprice.kp (A4m T) .nil B5 (A0 (qpv 1) (A0 (qpv 2) A1))))
      (A4 (D0 (QW.pt (L8 (B4 N9 (qpv 3) F2 (B9 _)) (K0 (B4 N9 (qpv 4) F2 (B9 _)))))
        (B0 (B6 (A9 (A5 (K := K) rfl) (D3 (A0 (A9 (A5 (K := K) rfl) (D3 (A0 C5 (A0 C5 A1))) (E6 M5 (by rfl) T.z_int (by rfl) (A0 (F3 Z2 (qpv 4) F2 (B9 _)) A1)) (fun _ _ => rfl)) (A0 C5 A1))) (E6 M5 (by rfl) T.z_int (by rfl) (A0 (F3 Z2 (qpv 3) F2 (B9 _)) A1)) (fun _ _ => rfl))))
        C1)
      (A4 (D0 (D8 (A6 (E5 (K := K) T) hr.mo rfl T.m_Lunder T.F_Lunder.kp (F6 T) .nil B5 (A0 (qpv 3) (A0 (qpv 4) A1))))
        (B0 (B6 C5))
        C1)
      (B0 (B6 (A9 (A5 (K := K) rfl) (D3 (A0 C5 (A0 C5 A1))) (E6 M5 (by rfl) T.z_int (by rfl) (A0 (A6 (E5 (K := K) T) hr.mo rfl T.m_Lunder T.F_Lunder.kp (F6 T) .nil B5 (A0 (qpv 4) (A0 (qpv 3) A1))) A1)) (fun _ _ => rfl))))))))), ?_⟩
  haveI := T.c2_NOUGHT
  haveI := T.c2_HALF
  haveI := T.c2_ONE
  refine Pu.E8 h ?_
  rintro as Qp ⟨A, B, w, rfl, hA, hB, sw, k⟩
  refine hd fun R hR => ?_
  trivial
  refine ⟨_, _, rfl, hA.gs, sw, ?_⟩
  trivial
  subst hR
  refine hd fun R hR => ?_
  trivial
  refine ⟨_, _, rfl, hB.gs, sw, ?_⟩
  trivial
  subst hR
  by_cases h1 : w < A.1.1
  · rw [X2 h1]
    by_cases h2 : w < B.1.1
    · rw [X2 h2]
      rw [w_no h1 h2] at k
      trivial
      exact k
    · rw [J3 (by grind)]
      rw [A1s h1 (by grind)] at k
      trivial
      exact k
  · rw [J3 (by grind)]
    by_cases h2 : w < B.1.1
    · rw [X2 h2]
      rw [A1t (by grind) h2] at k
      trivial
      exact k
    · rw [J3 (by grind)]
      have s1 : SmR 3450 3350 (ev (bs A) w) := hA.smw sw (by grind)
      have s2 : SmR 3450 3350 (ev (bs B) w) := hB.smw sw (by grind)
      rw [V5 (by grind) (by grind)] at k
      unfold gp at k
      rw [A5v] at k
      trivial
      refine ⟨_, _, rfl, s1.q (by decide) (by decide), s2.q (by decide) (by decide), ?_⟩
      trivial
      refine ite2 (fun h => ?_) (fun h => ?_)
      · rw [if_neg (by grind), if_pos h] at k; exact k
      · refine ⟨_, _, rfl, s2.q (by decide) (by decide), s1.q (by decide) (by decide), ?_⟩
        by_cases h3 : ev (bs B) w < ev (bs A) w
        · rw [if_neg (by grind), if_neg h] at k
          rw [decide_eq_true h3]
          trivial
          exact k
        · rw [if_pos (by grind)] at k
          rw [decide_eq_false h3]
          trivial
          exact k
def A0n : Pu.PSp := fun as Q => ∃ (rs : List Rw) (x : Rat), as = [.bor (rs.map rwD), .d (dq x)] /\ (∀ r ∈ rs, SmR 1210 1210 r.1) /\ SmR 2450 2450 x /\ Q (.d (.str (wS (twr .no rs x))))
theorem A0v (T : Txt K mg D) : FnOk P w K mg base CX0 2 D.a_Ltoldword D.d_Ltoldword ["_law_told", "_law_whole"] (Pu.spOf K [.vw, .dat] A0n) := by
  refine T.F_Ltoldword.ok sc_Ltoldword (Pu.spOf.len rfl) (fun cdv A outer s H vs Q E hr h => ?_)
  refine ⟨_, (QSs.out (A4 (B3 (i := 2) sc_Ltoldword.nd rfl (Or.inl rfl) C5)
      (A4 (F8 PassesOwn.never rfl (G6 (K := K) rfl (qpv 0)) (K6 (K := K) (n := 3) rfl rfl (D2 (C2 (i := 3) sc_Ltoldword.nd rfl (Or.inl rfl) (Or.inl rfl)) (D2 (C2 (i := 4) sc_Ltoldword.nd rfl (Or.inl rfl) (Or.inl rfl)) (D2 (C2 (i := 5) sc_Ltoldword.nd rfl (Or.inl rfl) (Or.inl rfl)) K5))) rfl rfl)
        (B0 (D0 (B4 (D7 (K := K) rfl hr.units) (qpv 3) (qpv 1) (B9 _))
          (B0 (B3 (i := 2) sc_Ltoldword.nd rfl (Or.inl rfl) (qpv 4)))
          (B0 (D0 (D8 (A6 (E5 (K := K) T) hr.mo rfl T.m_Lunder T.F_Lunder.kp (F6 T) .nil B5 (A0 (qpv 3) (A0 (qpv 1) A1))))
            (B0 (B3 (i := 2) sc_Ltoldword.nd rfl (Or.inl rfl) (qpv 5)))
            C1)))))
      (B0 (B6 (qpv 2)))))), ?_⟩
  haveI := T.c2_NOUGHT
  haveI := T.c2_HALF
  haveI := T.c2_ONE
  refine Pu.E8 h ?_
  rintro as Qp ⟨rs, x, rfl, hs, sx, k⟩
  refine hd fun R hR => ?_
  trivial
  subst hR
  refine hd fun R hR => ?_
  trivial
  refine A2a (fun i e => ∃ o3 o4 o5 : Option SV, e = [some (.bor (rs.map rwD)), some (.d (dq x)), some (.d (.str (wS (twr .no (rs.take i) x)))), o3, o4, o5]) ⟨_, _, _, rfl⟩ ?_ ?_
  · rintro i r e hr ⟨o3, o4, o5, rfl⟩
    have sr := hs r (List.mem_of_getElem? hr)
    have et : twr .no (rs.take (i + 1)) x = stW x (twr .no (rs.take i) x) r := by rw [List.take_succ, hr]; exact X9
    rw [show rwD r = PyData.tuple [dq r.1, .str (wS r.2.1), .str (wS r.2.2)] from rfl]
    trivial
    refine ite2 (fun h => ?_) (fun h => ?_)
    · exact ⟨_, _, _, by rw [et]; unfold stW; rw [if_pos h]⟩
    · refine ⟨_, _, rfl, sr.q (by decide) (by decide), sx.q (by decide) (by decide), ?_⟩
      trivial
      refine ite2 (fun h2 => ?_) (fun h2 => ?_)
      · exact ⟨_, _, _, by rw [et]; unfold stW; rw [if_neg h, if_pos h2]⟩
      · exact ⟨_, _, _, by rw [et]; unfold stW; rw [if_neg h, if_neg h2]⟩
  · rintro e ⟨o3, o4, o5, rfl⟩
    subst hR
    rw [List.take_length]
    trivial
    exact k
def A6d : Pu.PSp := fun as Q => ∃ (A : Spr) (i : Nat) (w : Rat), as = [.bor ((bs A).map dcn), .d (.int (i : Int)), .d (dq w)] /\ Sh A.1 A.2 /\ SmR 150 90 w /\ ∀ b : Bool, Q (.d (.bool b))
theorem A0z (T : Txt K mg D) : FnOk P w K mg base CX0 2 D.a_Lahead D.d_Lahead ["_law_shape_here", "_law_k", "_law_whole"] (Pu.spOf K [.vw, .dat, .dat] A6d) := by
  refine T.F_Lahead.ok sc_Lahead (Pu.spOf.len rfl) (fun cdv A outer s H vs Q E hr h => ?_)
  refine ⟨_, (QSs.out (B0 (B6 (A1w (F3 A45 (B7 E9 (qpv 1) A2) (C3 (C4 (K := K) rfl) (by rfl) T.z_len PySem.boot_len (A0 (qpv 0) A1)) (B9 _)) (Y5 (B5a (A6 (E5 (K := K) T) hr.mo rfl T.m_Lunder T.F_Lunder.kp (F6 T) .nil B5 (A0 (qpv 2) (A0 (A9 (A5 (K := K) rfl) (A9 (A5 (K := K) rfl) (qpv 0) (B7 E9 (qpv 1) A2) (fun _ _ => rfl)) A2 (fun _ _ => rfl)) A1))))))))), ?_⟩
  haveI := T.c2_NOUGHT
  haveI := T.c2_HALF
  haveI := T.c2_ONE
  refine Pu.E8 h ?_
  rintro as Qp ⟨A, i, w, rfl, hA, sw, k⟩
  trivial
  refine ite2 (fun h => ?_) (fun h => ?_)
  · obtain ⟨c, hc⟩ : ∃ c, (bs A)[i + 1]? = some c := ⟨_, List.getElem?_eq_getElem (by omega)⟩
    have sc := hA.gs.sm c (List.mem_of_getElem? hc)
    rw [show (i : Int) + 1 = ((i + 1 : Nat) : Int) by omega]
    refine B8 hc ?_
    trivial
    refine ⟨_, _, rfl, sw.q (by decide) (by decide), sc.1.q (by decide) (by decide), ?_⟩
    trivial
    exact k _
  · exact k _
def B01 : Pu.PSp := fun as Q => ∃ (A : Spr) (i : Nat), as = [.bor ((bs A).map dcn), .d (.int (i : Int))] /\ Sh A.1 A.2 /\ i < (bs A).length /\ ∀ r b : Rat, SmR 280 235 r -> SmR 625 510 b -> Q (.own [dq r, dq b])
theorem A3g (T : Txt K mg D) : FnOk P w K mg base CX0 4 D.a_Lline D.d_Lline ["_law_shape_here", "_law_k"] (Pu.spOf K [.vw, .dat] B01) := by
  refine T.F_Lline.ok sc_Lline (Pu.spOf.len rfl) (fun cdv A outer s H vs Q E hr h => ?_)
  refine ⟨_, (QSs.out (A4 (B3 (i := 2) sc_Lline.nd rfl (Or.inl rfl) (D6 (A0 A2 (A0 A2 A1))))
      (A4 (D0 (B4 A45 (B7 E9 (qpv 1) A2) (C3 (C4 (K := K) rfl) (by rfl) T.z_len PySem.boot_len (A0 (qpv 0) A1)) (B9 _))
        (B0 (B3 (i := 2) sc_Lline.nd rfl (Or.inl rfl) (A6 (A3h (K := K) T) hr.mo rfl T.m_Lfall T.F_Lfall.kp (B0j T) .nil B5 (A0 (A9 (A5 (K := K) rfl) (qpv 0) (qpv 1) (fun _ _ => rfl)) (A0 (A9 (A5 (K := K) rfl) (qpv 0) (B7 E9 (qpv 1) A2) (fun _ _ => rfl)) A1)))))
        C1)
      (B0 (B6 (D3 (A0 (qpv 2) (A0 (A6 (N1 (K := K) T) hr.mo rfl T.m_Lplus T.F_Lplus.kp (R3 T) .nil B5 (A0 (A9 (A5 (K := K) rfl) (A9 (A5 (K := K) rfl) (qpv 0) (qpv 1) (fun _ _ => rfl)) A2 (fun _ _ => rfl)) (A0 (A6 (G8 (K := K) T) hr.mo rfl T.m_Ltimes T.F_Ltimes.kp (L3 T) .nil B5 (A0 (qpv 2) (A0 (A9 (A5 (K := K) rfl) (A9 (A5 (K := K) rfl) (qpv 0) (qpv 1) (fun _ _ => rfl)) A2 (fun _ _ => rfl)) A1))) A1))) A1)))))))), ?_⟩
  haveI := T.c2_NOUGHT
  haveI := T.c2_HALF
  haveI := T.c2_ONE
  refine Pu.E8 h ?_
  rintro as Qp ⟨A, i, rfl, hA, hi, k⟩
  obtain ⟨c, hc⟩ : ∃ c, (bs A)[i]? = some c := ⟨_, List.getElem?_eq_getElem hi⟩
  have sc := hA.gs.sm c (List.mem_of_getElem? hc)
  refine hd fun R hR => ?_
  trivial
  subst hR
  refine G5 (fun e => ∃ r : Rat, e = [some (.bor ((bs A).map dcn)), some (.d (.int (i : Int))), some (.d (dq r))] /\ SmR 280 235 r) (fun R hR => ?_) ?_
  · trivial
    refine ite2 (fun h => ?_) (fun h => ?_)
    · obtain ⟨d, hd⟩ : ∃ c, (bs A)[i + 1]? = some c := ⟨_, List.getElem?_eq_getElem (by omega)⟩
      have sd := hA.gs.sm d (List.mem_of_getElem? hd)
      have lt := (hA.gs.ri i c d hc hd).1
      rw [show (i : Int) + 1 = ((i + 1 : Nat) : Int) by omega]
      refine B8 hc ?_
      trivial
      (try rw [show (i : Int) + 1 = ((i + 1 : Nat) : Int) by omega])
      refine B8 hd ?_
      trivial
      refine ⟨_, _, rfl, lt, sc, sd, ?_⟩
      trivial
      exact hR _ ⟨_, rfl, B6q (hA.on c (List.mem_of_getElem? hc)) (hA.on d (List.mem_of_getElem? hd)) lt⟩
    · exact hR _ ⟨0, rfl, smr0.mono (by decide) (by decide)⟩
  rintro e ⟨r, rfl, sr⟩
  trivial
  refine B8 hc ?_
  trivial
  refine B8 hc ?_
  trivial
  refine .inl ⟨_, _, rfl, sr.q (by decide) (by decide), sc.1.q (by decide) (by decide), ?_⟩
  trivial
  refine ⟨_, _, rfl, sc.2.q (by decide) (by decide), (sr.mul sc.1).q (by decide) (by decide), ?_⟩
  trivial
  exact k _ _ sr ((sc.2.add (sr.mul sc.1)).mono (by decide) (by decide))
def Y9 : Pu.PSp := fun as Q => ∃ A B : Spr, as = [.bor ((bs A).map dcn), .bor ((bs B).map dcn)] /\ Sh A.1 A.2 /\ Sh B.1 B.2 /\ ∀ ws : List Rat, ws.length <= 441 -> (∀ w ∈ ws, SmR 2450 2450 w) -> Q (.own (ws.map dq))
theorem Z3 (T : Txt K mg D) : FnOk P w K mg base CX0 5 D.a_Lcrossings D.d_Lcrossings ["_law_one", "_law_other"] (Pu.spOf K [.vw, .vw] Y9) := by
  refine T.F_Lcrossings.ok sc_Lcrossings (Pu.spOf.len rfl) (fun cdv A outer s H vs Q E hr h => ?_)
  refine ⟨_, (QSs.out (A4 (B3 (i := 2) sc_Lcrossings.nd rfl (Or.inl rfl) (D3 A1))
      (A4 (F8 PassesOwn.never rfl (G4 rfl T.z_range (A0 (C3 (C4 (K := K) rfl) (by rfl) T.z_len PySem.boot_len (A0 (qpv 0) A1)) A1)) (C2 (i := 3) sc_Lcrossings.nd rfl (Or.inl rfl) (Or.inl rfl))
        (B0 (F8 PassesOwn.never rfl (G4 rfl T.z_range (A0 (C3 (C4 (K := K) rfl) (by rfl) T.z_len PySem.boot_len (A0 (qpv 1) A1)) A1)) (C2 (i := 4) sc_Lcrossings.nd rfl (Or.inl rfl) (Or.inl rfl))
          (B0 (D0 (QW.pt (K1 (K2 (D8 (A6 (A0z (K := K) T) hr.mo rfl T.m_Lahead T.F_Lahead.kp (A4o T) .nil B5 (A0 (qpv 0) (A0 (qpv 3) (A0 (A9 (A5 (K := K) rfl) (A9 (A5 (K := K) rfl) (qpv 1) (qpv 4) (fun _ _ => rfl)) A2 (fun _ _ => rfl)) A1)))))) (J0 (K2 (D8 (A6 (A0z (K := K) T) hr.mo rfl T.m_Lahead T.F_Lahead.kp (A4o T) .nil B5 (A0 (qpv 1) (A0 (qpv 4) (A0 (A9 (A5 (K := K) rfl) (A9 (A5 (K := K) rfl) (qpv 0) (qpv 3) (fun _ _ => rfl)) A2 (fun _ _ => rfl)) A1)))))))))
            (A4 (B3 (i := 5) sc_Lcrossings.nd rfl (Or.inl rfl) (A6 (A3g (K := K) T) hr.mo rfl T.m_Lline T.F_Lline.kp (B0h T) .nil B5 (A0 (qpv 0) (A0 (qpv 3) A1))))
            (A4 (B3 (i := 6) sc_Lcrossings.nd rfl (Or.inl rfl) (A6 (A3g (K := K) T) hr.mo rfl T.m_Lline T.F_Lline.kp (B0h T) .nil B5 (A0 (qpv 1) (A0 (qpv 4) A1))))
            (A4 (D0 (D8 (A6 (E5 (K := K) T) hr.mo rfl T.m_Lunder T.F_Lunder.kp (F6 T) .nil B5 (A0 (A9 (A5 (K := K) rfl) (qpv 5) A2 (fun _ _ => rfl)) (A0 (A9 (A5 (K := K) rfl) (qpv 6) A2 (fun _ _ => rfl)) A1))))
              (B0 (K4 (i := 5) (j := 6) rfl sc_Lcrossings.nd rfl rfl (by decide) rfl rfl (A0 (qpv 6) (A0 (qpv 5) A1)) rfl))
              C1)
            (B0 (D0 (QW.pt (K1 (D8 (A6 (E5 (K := K) T) hr.mo rfl T.m_Lunder T.F_Lunder.kp (F6 T) .nil B5 (A0 (A9 (A5 (K := K) rfl) (qpv 6) A2 (fun _ _ => rfl)) (A0 (A9 (A5 (K := K) rfl) (qpv 5) A2 (fun _ _ => rfl)) A1)))) (J0 (D8 (A6 (E5 (K := K) T) hr.mo rfl T.m_Lunder T.F_Lunder.kp (F6 T) .nil B5 (A0 (A9 (A5 (K := K) rfl) (qpv 6) A2 (fun _ _ => rfl)) (A0 (A9 (A5 (K := K) rfl) (qpv 5) A2 (fun _ _ => rfl)) A1)))))))
              (B0 (G1 (J2 (K := K) rfl PySem.F.plainAttrs_list PySem.F.slot_list_append PySem.F.type_list_append F4 (qpv 2) (A0 (A6 (W6 (K := K) T) hr.mo rfl T.m_Lparted T.F_Lparted.kp (A1n T) .nil B5 (A0 (A6 (G9 (K := K) T) hr.mo rfl T.m_Lminus T.F_Lminus.kp (L6 T) .nil B5 (A0 (A9 (A5 (K := K) rfl) (qpv 5) A2 (fun _ _ => rfl)) (A0 (A9 (A5 (K := K) rfl) (qpv 6) A2 (fun _ _ => rfl)) A1))) (A0 (A6 (G9 (K := K) T) hr.mo rfl T.m_Lminus T.F_Lminus.kp (L6 T) .nil B5 (A0 (A9 (A5 (K := K) rfl) (qpv 5) A2 (fun _ _ => rfl)) (A0 (A9 (A5 (K := K) rfl) (qpv 6) A2 (fun _ _ => rfl)) A1))) A1))) A1))))
              C1)))))
            C1)))))
      (B0 (B6 (qpv 2)))))), ?_⟩
  haveI := T.c2_NOUGHT
  haveI := T.c2_HALF
  haveI := T.c2_ONE
  refine Pu.E8 h ?_
  rintro as Qp ⟨A, B, rfl, hA, hB, k⟩
  have lA : (bs A).length <= 21 := by unfold bs; rw [J4]; have := hA.le; omega
  have lB : (bs B).length <= 21 := by unfold bs; rw [J4]; have := hB.le; omega
  refine hd fun R hR => ?_
  trivial
  subst hR
  refine hd fun R hR => ?_
  trivial
  refine ⟨⟨by omega, by omega⟩, U6 (fun i e => ∃ (ws : List Rat) (o3 o4 o5 o6 : Option SV), e = [some (.bor ((bs A).map dcn)), some (.bor ((bs B).map dcn)), some (.own (ws.map dq)), o3, o4, o5, o6] /\ ws.length <= 21 * i /\ ∀ w ∈ ws, SmR 2450 2450 w) ⟨[], _, _, _, _, rfl, Nat.le_refl _, fun w z => (nomatch z)⟩ ?_ ?_⟩
  · rintro i e hi ⟨ws, o3, o4, o5, o6, rfl, hl, hw⟩
    have hi : i < (bs A).length := by omega
    obtain ⟨c, hc⟩ : ∃ c, (bs A)[i]? = some c := ⟨_, List.getElem?_eq_getElem hi⟩
    have sc := hA.gs.sm c (List.mem_of_getElem? hc)
    trivial
    refine ⟨⟨by omega, by omega⟩, U6 (fun j e => ∃ (ws : List Rat) (o4 o5 o6 : Option SV), e = [some (.bor ((bs A).map dcn)), some (.bor ((bs B).map dcn)), some (.own (ws.map dq)), some (.d (.int (i : Int))), o4, o5, o6] /\ ws.length <= 21 * i + j /\ ∀ w ∈ ws, SmR 2450 2450 w) ⟨ws, _, _, _, rfl, by omega, hw⟩ ?_ ?_⟩
    · clear hw hl ws
      rintro j e hj ⟨ws, o4, o5, o6, rfl, hl, hw⟩
      have hj : j < (bs B).length := by omega
      obtain ⟨d, hd'⟩ : ∃ c, (bs B)[j]? = some c := ⟨_, List.getElem?_eq_getElem hj⟩
      have sd := hB.gs.sm d (List.mem_of_getElem? hd')
      trivial
      refine B8 hd' ?_
      trivial
      refine ⟨A, i, d.1, rfl, hA, sd.1, fun q1 => ?_⟩
      trivial
      cases q1 with
      | true =>
        trivial
        exact ⟨ws, _, _, _, rfl, by omega, hw⟩
      | false =>
      trivial
      refine B8 hc ?_
      trivial
      refine ⟨B, j, c.1, rfl, hB, sc.1, fun q2 => ?_⟩
      trivial
      cases q2 with
      | true =>
        trivial
        exact ⟨ws, _, _, _, rfl, by omega, hw⟩
      | false =>
      trivial
      refine ⟨A, i, rfl, hA, hi, fun r1 b1 sr1 sb1 => ?_⟩
      trivial
      refine ⟨B, j, rfl, hB, hj, fun r2 b2 sr2 sb2 => ?_⟩
      trivial
      refine ⟨_, _, rfl, sr1.q (by decide) (by decide), sr2.q (by decide) (by decide), ?_⟩
      trivial
      refine ite2 (fun h0 => ?_) (fun h0 => ?_)
      · skip
        refine ⟨_, _, rfl, sr1.q (by decide) (by decide), sr2.q (by decide) (by decide), ?_⟩
        trivial
        refine ite2 (fun h1 => ?_) (fun h1 => ?_)
        · refine ⟨_, _, rfl, sb1.q (by decide) (by decide), sb2.q (by decide) (by decide), ?_⟩
          trivial
          refine ite2 (fun h2 => ?_) (fun h2 => ?_)
          · refine ⟨_, _, rfl, sb2.q (by decide) (by decide), sb1.q (by decide) (by decide), ?_⟩
            trivial
            refine ⟨_, _, rfl, sr2.q (by decide) (by decide), sr1.q (by decide) (by decide), ?_⟩
            trivial
            refine ⟨_, _, rfl, (sb2.sub sb1).q (by decide) (by decide), (sr2.sub sr1).q (by decide) (by decide), by grind, ?_⟩
            trivial
            refine ⟨by omega, ws ++ [(b2 - b1) / (r2 - r1)], _, _, _, by rw [List.map_append]; rfl, by simp; omega, fun w hw' => ?_⟩
            rcases List.mem_append.mp hw' with z | z
            · exact hw w z
            · cases List.mem_singleton.mp z
              exact ((sb2.sub sb1).div (sr2.sub sr1) (by grind)).mono (by decide) (by decide)
          · exact ⟨ws, _, _, _, rfl, by omega, hw⟩
        · exact ⟨ws, _, _, _, rfl, by omega, hw⟩
      · skip
        refine ⟨_, _, rfl, sr2.q (by decide) (by decide), sr1.q (by decide) (by decide), ?_⟩
        trivial
        refine ite2 (fun h1 => ?_) (fun h1 => ?_)
        · refine ⟨_, _, rfl, sb2.q (by decide) (by decide), sb1.q (by decide) (by decide), ?_⟩
          trivial
          refine ite2 (fun h2 => ?_) (fun h2 => ?_)
          · refine ⟨_, _, rfl, sb1.q (by decide) (by decide), sb2.q (by decide) (by decide), ?_⟩
            trivial
            refine ⟨_, _, rfl, sr1.q (by decide) (by decide), sr2.q (by decide) (by decide), ?_⟩
            trivial
            refine ⟨_, _, rfl, (sb1.sub sb2).q (by decide) (by decide), (sr1.sub sr2).q (by decide) (by decide), by grind, ?_⟩
            trivial
            refine ⟨by omega, ws ++ [(b1 - b2) / (r1 - r2)], _, _, _, by rw [List.map_append]; rfl, by simp; omega, fun w hw' => ?_⟩
            rcases List.mem_append.mp hw' with z | z
            · exact hw w z
            · cases List.mem_singleton.mp z
              exact ((sb1.sub sb2).div (sr1.sub sr2) (by grind)).mono (by decide) (by decide)
          · exact ⟨ws, _, _, _, rfl, by omega, hw⟩
        · exact ⟨ws, _, _, _, rfl, by omega, hw⟩
    · rintro e ⟨ws, o4, o5, o6, rfl, hl, hw⟩
      trivial
      exact ⟨ws, _, _, _, _, rfl, by omega, hw⟩
  · rintro e ⟨ws, o3, o4, o5, o6, rfl, hl, hw⟩
    subst hR
    trivial
    exact k ws (by omega) hw
def A59 : Pu.PSp := fun as Q => ∃ (rs : List Rw) (A B : Spr), as = [.bor (rs.map rwD), .bor ((bs A).map dcn), .bor ((bs B).map dcn)] /\ Sh A.1 A.2 /\ Sh B.1 B.2 /\ rs.length <= 90 /\ (∀ r ∈ rs, SmR 1210 1210 r.1) /\ ∀ ws : List Rat, (∀ w ∈ ws, SmR 2450 2450 w) -> Q (.own (ws.map dq))
theorem A7k (T : Txt K mg D) : FnOk P w K mg base CX0 6 D.a_Lspots D.d_Lspots ["_law_told", "_law_one", "_law_other"] (Pu.spOf K [.vw, .vw, .vw] A59) := by
  refine T.F_Lspots.ok sc_Lspots (Pu.spOf.len rfl) (fun cdv A outer s H vs Q E hr h => ?_)
  refine ⟨_, (QSs.out (A4 (B3 (i := 3) sc_Lspots.nd rfl (Or.inl rfl) (B7 (T8 (K := K) rfl) (M9 rfl (F1 (N' := ["_law_entry"]) (cap := [none]) rfl rfl rfl rfl (by decide +kernel) rfl rfl) (G6 (K := K) rfl (qpv 0)) (fun _ _ _ => (C2 (i := 0) (show (["_law_entry"] : List Str).Nodup from by decide +kernel) rfl (Or.inl rfl) (Or.inr rfl))) (fun _ _ _ => G0) (fun _ _ _ => (A9 (A5 (K := K) rfl) (qpv 0) A2 (fun _ _ => rfl)))) (M9 rfl (F1 (N' := ["_law_bend"]) (cap := [none]) rfl rfl rfl rfl (by decide +kernel) rfl rfl) (G6 (K := K) rfl (B7 (T8 (K := K) rfl) (qpv 1) (qpv 2))) (fun _ _ _ => (C2 (i := 0) (show (["_law_bend"] : List Str).Nodup from by decide +kernel) rfl (Or.inl rfl) (Or.inr rfl))) (fun _ _ _ => G0) (fun _ _ _ => (A9 (A5 (K := K) rfl) (qpv 0) A2 (fun _ _ => rfl))))))
      (A4 (B3 (i := 4) sc_Lspots.nd rfl (Or.inl rfl) (B7 (T8 (K := K) rfl) (D3 (A0 (D6 (A0 A2 (A0 A2 A1))) A1)) (A6 (Z3 (K := K) T) hr.mo rfl T.m_Lcrossings T.F_Lcrossings.kp (A1o T) .nil B5 (A0 (qpv 1) (A0 (qpv 2) A1)))))
      (A4 (F8 PassesOwn.never rfl (G4 rfl T.z_range (A0 (C3 (C4 (K := K) rfl) (by rfl) T.z_len PySem.boot_len (A0 (qpv 3) A1)) A1)) (C2 (i := 5) sc_Lspots.nd rfl (Or.inl rfl) (Or.inl rfl))
        (A4 (B3 (i := 4) sc_Lspots.nd rfl (Or.inl rfl) (B7 (T8 (K := K) rfl) (qpv 4) (D3 (A0 (A9 (A5 (K := K) rfl) (qpv 3) (qpv 5) (fun _ _ => rfl)) (A0 (A6 (N1 (K := K) T) hr.mo rfl T.m_Lplus T.F_Lplus.kp (R3 T) .nil B5 (A0 (A9 (A5 (K := K) rfl) (qpv 3) (qpv 5) (fun _ _ => rfl)) (A0 (D6 (A0 A2 (A0 A2 A1))) A1))) (A0 (A6 (G8 (K := K) T) hr.mo rfl T.m_Ltimes T.F_Ltimes.kp (L3 T) .nil B5 (A0 (A9 (A5 (K := K) rfl) (qpv 3) (qpv 5) (fun _ _ => rfl)) (A0 (D6 (A0 A2 (A0 A2 A1))) A1))) A1))))))
        (B0 (G1 (J2 (K := K) rfl PySem.F.plainAttrs_list PySem.F.slot_list_append PySem.F.type_list_append F4 (qpv 4) (A0 (A6 (G8 (K := K) T) hr.mo rfl T.m_Ltimes T.F_Ltimes.kp (L3 T) .nil B5 (A0 (A6 (N1 (K := K) T) hr.mo rfl T.m_Lplus T.F_Lplus.kp (R3 T) .nil B5 (A0 (A9 (A5 (K := K) rfl) (qpv 3) (qpv 5) (fun _ _ => rfl)) (A0 (A9 (A5 (K := K) rfl) (qpv 3) (B7 R5 (qpv 5) A2) (fun _ _ => rfl)) A1))) (A0 (D6 (A0 A2 (A0 A2 A1))) A1))) A1))))))
      (B0 (B6 (qpv 4))))))), ?_⟩
  haveI := T.c2_NOUGHT
  haveI := T.c2_HALF
  haveI := T.c2_ONE
  refine Pu.E8 h ?_
  rintro as Qp ⟨rs, A, B, rfl, hA, hB, hr, hs, k⟩
  have lA : (bs A).length <= 21 := by unfold bs; rw [J4]; have := hA.le; omega
  have lB : (bs B).length <= 21 := by unfold bs; rw [J4]; have := hB.le; omega
  refine hd fun R hR => ?_
  trivial
  refine ⟨by omega, N4 (fun i e ys => ∃ o : Option SV, e = [o] /\ ys = ((rs.take i).map (·.1)).map dq) ⟨_, rfl, rfl⟩ ?_ ?_⟩
  · rintro i r e ys hc ⟨o, rfl, rfl⟩
    trivial
    rw [U2]
    trivial
    exact ⟨_, rfl, by rw [List.take_succ, hc]; simp⟩
  rintro e ys ⟨o, rfl, rfl⟩
  rw [List.take_length]
  trivial
  refine ⟨by omega, ?_⟩
  rw [<- List.map_append]
  trivial
  refine ⟨by rw [List.length_append]; omega, N4 (fun i e ys => ∃ o : Option SV, e = [o] /\ ys = (((bs A ++ bs B).take i).map (·.1)).map dq) ⟨_, rfl, rfl⟩ ?_ ?_⟩
  · rintro i c e ys hc ⟨o, rfl, rfl⟩
    trivial
    exact ⟨_, rfl, by rw [List.take_succ, hc]; simp⟩
  rintro e ys ⟨o, rfl, rfl⟩
  rw [List.take_length]
  trivial
  refine ⟨by rw [List.length_append]; omega, ?_⟩
  rw [<- List.map_append]
  have hm : ∀ m ∈ rs.map (·.1) ++ (bs A ++ bs B).map (·.1), SmR 1210 1210 m := fun m hm => by
    rcases List.mem_append.mp hm with z | z
    · obtain ⟨r, hr', rfl⟩ := List.mem_map.mp z
      exact hs r hr'
    · obtain ⟨d, hd', rfl⟩ := List.mem_map.mp z
      rcases List.mem_append.mp hd' with y | y
      · exact (hA.gs.sm d y).1.mono (by decide) (by decide)
      · exact (hB.gs.sm d y).1.mono (by decide) (by decide)
  have hml : (rs.map (·.1) ++ (bs A ++ bs B).map (·.1)).length <= 140 := by simp; omega
  generalize rs.map (·.1) ++ (bs A ++ bs B).map (·.1) = ms at hm hml
  subst hR
  refine hd fun R hR => ?_
  trivial
  refine ⟨A, B, rfl, hA, hB, fun ws lw hw => ?_⟩
  trivial
  refine ⟨by omega, ?_⟩
  rw [show dq 0 :: ws.map dq = (0 :: ws).map dq from rfl]
  have hw0 : ∀ w ∈ (0 : Rat) :: ws, SmR 2450 2450 w := fun w h => by
    rcases List.mem_cons.mp h with rfl | z
    · exact smr0.mono (by decide) (by decide)
    · exact hw w z
  have lw0 : ((0 : Rat) :: ws).length <= 442 := by simp; omega
  generalize (0 : Rat) :: ws = ws0 at hw0 lw0
  subst hR
  refine hd fun R hR => ?_
  trivial
  refine ⟨⟨by omega, by omega⟩, U6 (fun i e => ∃ (ws : List Rat) (o : Option SV), e = [some (.bor (rs.map rwD)), some (.bor ((bs A).map dcn)), some (.bor ((bs B).map dcn)), some (.own (ms.map dq)), some (.own (ws.map dq)), o] /\ ws.length <= 442 + 4 * i /\ ∀ w ∈ ws, SmR 2450 2450 w) ⟨ws0, _, rfl, by omega, hw0⟩ ?_ ?_⟩
  · rintro i e hi ⟨ws, o, rfl, hwl, hw⟩
    have hi : i < ms.length := by omega
    obtain ⟨m, hc⟩ : ∃ c, ms[i]? = some c := ⟨_, List.getElem?_eq_getElem hi⟩
    obtain ⟨m', hm', ep⟩ := B5j hi
    have sm := hm m (List.mem_of_getElem? hc)
    have sm' := hm m' hm'
    refine hd fun R2 hR2 => ?_
    trivial
    refine B8 hc ?_
    trivial
    refine B8 hc ?_
    rw [B7j]
    trivial
    refine ⟨_, _, rfl, sm.q (by decide) (by decide), sm_sev.q (by decide) (by decide), ?_⟩
    trivial
    refine B8 hc ?_
    rw [B7d]
    trivial
    refine .inl ⟨_, _, rfl, sm.q (by decide) (by decide), sm_six.q (by decide) (by decide), ?_⟩
    trivial
    refine ⟨by omega, ?_⟩
    have e1 : ws.map dq ++ [dq m, dq (m + Rat.divInt 1 7), dq (m * Rat.divInt 6 7)] = (ws ++ [m, m + Rat.divInt 1 7, m * Rat.divInt 6 7]).map dq := by rw [List.map_append]; rfl
    rw [e1]
    subst hR2
    trivial
    refine B8 hc ?_
    trivial
    refine Q0 ep ?_
    trivial
    refine ⟨_, _, rfl, sm.q (by decide) (by decide), sm'.q (by decide) (by decide), ?_⟩
    trivial
    refine .inl ⟨_, _, rfl, (sm.add sm').q (by decide) (by decide), sm_half.q (by decide) (by decide), ?_⟩
    trivial
    refine ⟨by simp; omega, ws ++ [m, m + Rat.divInt 1 7, m * Rat.divInt 6 7] ++ [(m + m') * Rat.divInt 1 2], _, by rw [List.map_append (l₁ := ws ++ _)]; rfl, by simp; omega, fun w h => ?_⟩
    rcases List.mem_append.mp h with z | z
    · rcases List.mem_append.mp z with z | z
      · exact hw w z
      · rcases List.mem_cons.mp z with rfl | z
        · exact sm.mono (by decide) (by decide)
        · rcases List.mem_cons.mp z with rfl | z
          · exact (sm.add sm_sev).mono (by decide) (by decide)
          · cases List.mem_singleton.mp z; exact (sm.mul sm_six).mono (by decide) (by decide)
    · cases List.mem_singleton.mp z; exact ((sm.add sm').mul sm_half).mono (by decide) (by decide)
  · rintro e ⟨ws, o, rfl, hwl, hw⟩
    subst hR
    trivial
    exact k ws hw
def A44 : Pu.PSp := fun as Q => ∃ (rs : List Rw) (A B : Spr), as = [.bor (rs.map rwD), .bor ((bs A).map dcn), .bor ((bs B).map dcn)] /\ Sh A.1 A.2 /\ Sh B.1 B.2 /\ rs.length <= 90 /\ RwOk rs /\ (∀ r ∈ rs, SmR 1210 1210 r.1 /\ r.2.1 ≠ .no /\ r.2.2 ≠ .no) /\ (∃ r0, rs[0]? = some r0 /\ r0.1 = if B.1.1 < A.1.1 then B.1.1 else A.1.1) /\ Q (.d (.bool true))
theorem A47 (T : Txt K mg D) : FnOk P w K mg base CX0 2 D.a_Linform D.d_Linform ["_law_told", "_law_one", "_law_other"] (Pu.spOf K [.vw, .vw, .vw] A44) := by
  refine T.F_Linform.ok sc_Linform (Pu.spOf.len rfl) (fun cdv A outer s H vs Q E hr h => ?_)
  refine ⟨_, (QSs.out (A4 (B3 (i := 3) sc_Linform.nd rfl (Or.inl rfl) (D3 (A0 C5 (A0 C5 (A0 C5 (A0 C5 (A0 C5 A1)))))))
      (A4 (D0 (QW.pt (L8 (K2 (D8 (C3 (A1e (K := K) rfl) (by rfl) T.z_isinstance (by rfl) (A0 (qpv 0) (A0 (A2v (v := .ty "list") rfl T.z_list (by rfl) rfl) A1))))) (K0 (B4 (D7 (K := K) rfl hr.units) (qpv 0) (D3 A1) (B9 _)))))
        (B0 (B6 R4))
        C1)
      (A4 (F8 PassesOwn.never rfl (G4 rfl T.z_range (A0 (C3 (C4 (K := K) rfl) (by rfl) T.z_len PySem.boot_len (A0 (qpv 0) A1)) A1)) (C2 (i := 4) sc_Linform.nd rfl (Or.inl rfl) (Or.inl rfl))
        (A4 (B3 (i := 5) sc_Linform.nd rfl (Or.inl rfl) (A9 (A5 (K := K) rfl) (qpv 0) (qpv 4) (fun _ _ => rfl)))
        (A4 (D0 (QW.pt (L8 (K2 (D8 (C3 (A1e (K := K) rfl) (by rfl) T.z_isinstance (by rfl) (A0 (qpv 5) (A0 (A2v (v := .ty "tuple") rfl T.z_tuple (by rfl) rfl) A1))))) (L8 (B4 (G7 (K := K) rfl hr.units) (C3 (C4 (K := K) rfl) (by rfl) T.z_len PySem.boot_len (A0 (qpv 5) A1)) A2 (B9 _)) (L8 (B4 (W4 (K := K) rfl hr.units) (A9 (A5 (K := K) rfl) (qpv 5) A2 (fun _ _ => rfl)) (qpv 3) (by with_unfolding_all rfl)) (K0 (B4 (W4 (K := K) rfl hr.units) (A9 (A5 (K := K) rfl) (qpv 5) A2 (fun _ _ => rfl)) (qpv 3) (by with_unfolding_all rfl)))))))
          (B0 (B6 R4))
          C1)
        (A4 (D0 (QW.pt (L8 (B4 (G7 (K := K) rfl hr.units) (A9 (A5 (K := K) rfl) (qpv 5) A2 (fun _ _ => rfl)) (A6 (Q2 (K := K) T) hr.mo rfl T.m_Llow T.F_Llow.kp (X4 T) .nil B5 (A0 (A9 (A5 (K := K) rfl) (A9 (A5 (K := K) rfl) (qpv 5) A2 (fun _ _ => rfl)) A2 (fun _ _ => rfl)) (A0 (A9 (A5 (K := K) rfl) (A9 (A5 (K := K) rfl) (qpv 5) A2 (fun _ _ => rfl)) A2 (fun _ _ => rfl)) A1))) (B9 _)) (K0 (QW.pt (K1 (B4 A0u (qpv 4) A2 (B9 _)) (J0 (K2 (D8 (A6 (E5 (K := K) T) hr.mo rfl T.m_Lunder T.F_Lunder.kp (F6 T) .nil B5 (A0 (A9 (A5 (K := K) rfl) (A9 (A5 (K := K) rfl) (qpv 0) (B7 R5 (qpv 4) A2) (fun _ _ => rfl)) A2 (fun _ _ => rfl)) (A0 (A9 (A5 (K := K) rfl) (qpv 5) A2 (fun _ _ => rfl)) A1)))))))))))
          (B0 (B6 R4))
          C1)
        (B0 (D0 (QW.pt (K1 (B4 A0u (qpv 4) A2 (B9 _)) (K1 (B4 (D7 (K := K) rfl hr.units) (A9 (A5 (K := K) rfl) (qpv 5) A2 (fun _ _ => rfl)) (A9 (A5 (K := K) rfl) (A9 (A5 (K := K) rfl) (qpv 0) (B7 R5 (qpv 4) A2) (fun _ _ => rfl)) A2 (fun _ _ => rfl)) (B9 _)) (J0 (B4 (D7 (K := K) rfl hr.units) (A9 (A5 (K := K) rfl) (qpv 5) A2 (fun _ _ => rfl)) (A9 (A5 (K := K) rfl) (A9 (A5 (K := K) rfl) (qpv 0) (B7 R5 (qpv 4) A2) (fun _ _ => rfl)) A2 (fun _ _ => rfl)) (B9 _))))))
          (B0 (B6 R4))
          C1))))))
      (A4 (B3 (i := 6) sc_Linform.nd rfl (Or.inl rfl) (A9 (A5 (K := K) rfl) (A9 (A5 (K := K) rfl) (qpv 1) A2 (fun _ _ => rfl)) A2 (fun _ _ => rfl)))
      (A4 (D0 (D8 (A6 (E5 (K := K) T) hr.mo rfl T.m_Lunder T.F_Lunder.kp (F6 T) .nil B5 (A0 (A9 (A5 (K := K) rfl) (A9 (A5 (K := K) rfl) (qpv 2) A2 (fun _ _ => rfl)) A2 (fun _ _ => rfl)) (A0 (qpv 6) A1))))
        (B0 (B3 (i := 6) sc_Linform.nd rfl (Or.inl rfl) (A9 (A5 (K := K) rfl) (A9 (A5 (K := K) rfl) (qpv 2) A2 (fun _ _ => rfl)) A2 (fun _ _ => rfl))))
        C1)
      (B0 (B6 (F3 (D7 (K := K) rfl hr.units) (A9 (A5 (K := K) rfl) (A9 (A5 (K := K) rfl) (qpv 0) A2 (fun _ _ => rfl)) A2 (fun _ _ => rfl)) (qpv 6) (B9 _)))))))))), ?_⟩
  haveI := T.c2_NOUGHT
  haveI := T.c2_HALF
  haveI := T.c2_ONE
  refine Pu.E8 h ?_
  rintro as Qp ⟨rs, A, B, rfl, hA, hB, hl, ok, hs, ⟨r0, hr0, er0⟩, k⟩
  have hne : 1 <= rs.length := (List.getElem?_eq_some_iff.mp hr0).1
  have sA := (hA.gs.sm A.1 (F5 _ _)).1
  have sB := (hB.gs.sm B.1 (F5 _ _)).1
  refine hd fun R hR => ?_
  trivial
  subst hR
  refine hd fun R hR => ?_
  trivial
  refine ⟨O0 _, A2c _, ?_⟩
  rw [B7l hne]
  trivial
  subst hR
  refine hd fun R hR => ?_
  trivial
  refine ⟨⟨by omega, by omega⟩, U6 (fun i e => ∃ o4 o5 : Option SV, e = [some (.bor (rs.map rwD)), some (.bor ((bs A).map dcn)), some (.bor ((bs B).map dcn)), some (.own [.str "one", .str "other", .str "less", .str "alike", .str "more"]), o4, o5, none]) ⟨_, _, rfl⟩ ?_ ?_⟩
  · rintro i e hi ⟨o4, o5, rfl⟩
    have hi : i < rs.length := by omega
    obtain ⟨r, hc⟩ : ∃ c, rs[i]? = some c := ⟨_, List.getElem?_eq_getElem hi⟩
    obtain ⟨sr, n1, n2⟩ := hs r (List.mem_of_getElem? hc)
    refine hd fun R2 hR2 => ?_
    trivial
    refine B8 hc ?_
    trivial
    subst hR2
    refine hd fun R2 hR2 => ?_
    trivial
    rw [show tyD (rwD r) = "tuple" from rfl]
    trivial
    rw [B9o]
    trivial
    rw [B38]
    trivial
    refine ⟨lay5, P2 _, ?_⟩
    rw [in5 n1]
    trivial
    rw [X0]
    trivial
    refine ⟨lay5, P2 _, ?_⟩
    rw [in5 n2]
    trivial
    subst hR2
    refine G5 (fun e => e = [some (.bor (rs.map rwD)), some (.bor ((bs A).map dcn)), some (.bor ((bs B).map dcn)), some (.own [.str "one", .str "other", .str "less", .str "alike", .str "more"]), some (.d (.int (i : Int))), some (.d (rwD r)), none]) (fun R2 hR2 => ?_) ?_
    · trivial
      rw [U2]
      trivial
      rw [U2]
      trivial
      rw [U2]
      trivial
      refine ⟨_, _, rfl, denp r.1, (sr.1.mono (by decide)), (sr.2.mono (by decide)), ?_⟩
      rw [C1b]
      trivial
      refine ite2 (fun hp => ?_) (fun hp => hR2 _ (by have : i = 0 := by omega
                                                      subst this; rfl))
      obtain ⟨j, rfl⟩ : ∃ j, i = j + 1 := ⟨i - 1, by omega⟩
      obtain ⟨q, hq⟩ : ∃ c, rs[j]? = some c := ⟨_, List.getElem?_eq_getElem (by omega)⟩
      rw [show ((j + 1 : Nat) : Int) - 1 = ((j : Nat) : Int) by omega]
      refine B8 hq ?_
      trivial
      rw [U2]
      trivial
      rw [U2]
      trivial
      refine ⟨_, _, rfl, (hs q (List.mem_of_getElem? hq)).1.q (by decide) (by decide), sr.q (by decide) (by decide), ?_⟩
      trivial
      rw [if_pos (ok.up j q r hq hc).1]
      exact hR2 _ rfl
    rintro e rfl
    trivial
    refine ite2 (fun hp => ?_) (fun hp => ⟨_, _, rfl⟩)
    obtain ⟨j, rfl⟩ : ∃ j, i = j + 1 := ⟨i - 1, by omega⟩
    obtain ⟨q, hq⟩ : ∃ c, rs[j]? = some c := ⟨_, List.getElem?_eq_getElem (by omega)⟩
    have ej : ((j + 1 : Nat) : Int) - 1 = ((j : Nat) : Int) := by omega
    have nn := (ok.up j q r hq hc).2
    rw [B38]
    trivial
    rw [ej]
    refine B8 hq ?_
    trivial
    rw [X0]
    trivial
    refine ⟨P2 _, P2 _, ?_⟩
    rw [B1l]
    trivial
    refine ite2 (fun g => ?_) (fun g => ⟨_, _, rfl⟩)
    rw [X0]
    trivial
    (try rw [ej])
    refine B8 hq ?_
    trivial
    rw [X0]
    trivial
    refine ⟨P2 _, P2 _, ?_⟩
    rw [B1l]
    trivial
    refine ite2 (fun g2 => absurd ⟨g, g2⟩ nn) (fun g2 => ⟨_, _, rfl⟩)
  · rintro e ⟨o4, o5, rfl⟩
    subst hR
    dsimp only
    refine hd fun R hR => ?_
    trivial
    refine B8 (n := 0) (L1 _ _) ?_
    trivial
    subst hR
    refine G5 (fun e => e = [some (.bor (rs.map rwD)), some (.bor ((bs A).map dcn)), some (.bor ((bs B).map dcn)), some (.own [.str "one", .str "other", .str "less", .str "alike", .str "more"]), o4, o5, some (.d (dq (if B.1.1 < A.1.1 then B.1.1 else A.1.1)))]) (fun R hR => ?_) ?_
    · trivial
      refine B8 (n := 0) (L1 _ _) ?_
      trivial
      refine ⟨_, _, rfl, sB.q (by decide) (by decide), sA.q (by decide) (by decide), ?_⟩
      trivial
      refine ite2 (fun h => ?_) (fun h => hR _ (by rw [if_neg h]))
      refine B8 (n := 0) (L1 _ _) ?_
      trivial
      exact hR _ (by rw [if_pos h])
    rintro e rfl
    trivial
    refine B8 (n := 0) hr0 ?_
    trivial
    rw [U2]
    trivial
    rw [decide_eq_true er0]
    exact k
def A6b : Pu.PSp := fun as Q => ∃ A B : Spr, as = [.bor ((bs A).map dcn), .bor ((bs B).map dcn)] /\ Sh A.1 A.2 /\ Sh B.1 B.2 /\ Q (.d (.bool true))
theorem A7l (T : Txt K mg D) : FnOk P w K mg base CX0 10 D.a_Lright D.d_Lright ["_law_one", "_law_other"] (Pu.spOf K [.vw, .vw] A6b) := by
  refine T.F_Lright.ok sc_Lright (Pu.spOf.len rfl) (fun cdv A outer s H vs Q E hr h => ?_)
  refine ⟨_, (QSs.out (A4 (B3 (i := 2) sc_Lright.nd rfl (Or.inl rfl) (A6 (K8 (K := K) T) hr.mo rfl T.m_sidebyside T.F_sidebyside.kp (M6 T) .nil B5 (A0 (qpv 0) (A0 (qpv 1) A1))))
      (A4 (D0 (K2 (D8 (A6 (A47 (K := K) T) hr.mo rfl T.m_Linform T.F_Linform.kp (B0i T) .nil B5 (A0 (qpv 2) (A0 (qpv 0) (A0 (qpv 1) A1))))))
        (B0 (B6 R4))
        C1)
      (A4 (F8 PassesOwn.never rfl (G6 (K := K) rfl (A6 (A7k (K := K) T) hr.mo rfl T.m_Lspots T.F_Lspots.kp (B1w T) .nil B5 (A0 (qpv 2) (A0 (qpv 0) (A0 (qpv 1) A1))))) (C2 (i := 3) sc_Lright.nd rfl (Or.inl rfl) (Or.inl rfl))
        (B0 (D0 (B4 (G7 (K := K) rfl hr.units) (A6 (A0v (K := K) T) hr.mo rfl T.m_Ltoldword T.F_Ltoldword.kp (A2g T) .nil B5 (A0 (qpv 2) (A0 (qpv 3) A1))) (A6 (B1b (K := K) T) hr.mo rfl T.m_Lword T.F_Lword.kp (B6u T) .nil B5 (A0 (qpv 0) (A0 (qpv 1) (A0 (qpv 3) A1)))) (B9 _))
          (B0 (B6 R4))
          C1)))
      (A4 (B3 (i := 4) sc_Lright.nd rfl (Or.inr rfl) (B7r (QKs.cons (key := .inr "one") (y := .str "other") C5 C5 (QKs.cons (key := .inr "other") (y := .str "one") C5 C5 (QKs.cons (key := .inr "less") (y := .str "more") C5 C5 (QKs.cons (key := .inr "more") (y := .str "less") C5 C5 (QKs.cons (key := .inr "alike") (y := .str "alike") C5 C5 QKs.nil))))) (by decide +kernel) (by decide) (by decide)))
      (A4 (K3 (i := 5) rfl sc_Lright.nd rfl rfl (F1 (N' := ["_law_other_way", "_law_whole", "_law_there", "_law_behind"]) (cap := [some 4, none, none, none]) rfl rfl rfl rfl (by decide +kernel) rfl rfl) (G6 (K := K) rfl (qKp (qpv 2))) (fun _ _ _ => (K6 (K := K) (n := 3) rfl rfl (D2 (C2 (i := 1) (show (["_law_other_way", "_law_whole", "_law_there", "_law_behind"] : List Str).Nodup from by decide +kernel) rfl (Or.inl rfl) (Or.inr rfl)) (D2 (C2 (i := 2) (show (["_law_other_way", "_law_whole", "_law_there", "_law_behind"] : List Str).Nodup from by decide +kernel) rfl (Or.inl rfl) (Or.inr rfl)) (D2 (C2 (i := 3) (show (["_law_other_way", "_law_whole", "_law_there", "_law_behind"] : List Str).Nodup from by decide +kernel) rfl (Or.inl rfl) (Or.inr rfl)) K5))) rfl rfl)) (fun _ _ _ => G0) (fun _ _ _ => (D6 (A0 (qpv 1) (A0 (B19 (qpv 0) (qpv 2) (fun _ _ => rfl)) (A0 (B19 (qpv 0) (qpv 3) (fun _ _ => rfl)) A1))))) rfl)
      (A4 (B3 (i := 6) sc_Lright.nd rfl (Or.inl rfl) (E6 (P3 (K := K) rfl) (by rfl) T.z_list (by rfl) (A0 (qpv 2) A1)))
      (A4 (G1 (B0x (K := K) rfl PySem.F.plainAttrs_list PySem.F.slot_list_clear PySem.F.type_list_clear B1g (qpv 2)))
      (B0 (B6 (A1w (F3 (D7 (K := K) rfl hr.units) (A6 (K8 (K := K) T) hr.mo rfl T.m_sidebyside T.F_sidebyside.kp (M6 T) .nil B5 (A0 (qpv 1) (A0 (qpv 0) A1))) (qpv 5) (B9 _)) (Y5 (F3 (D7 (K := K) rfl hr.units) (A6 (K8 (K := K) T) hr.mo rfl T.m_sidebyside T.F_sidebyside.kp (M6 T) .nil B5 (A0 (qpv 0) (A0 (qpv 1) A1))) (qpv 6) (B9 _)))))))))))))), ?_⟩
  haveI := T.c2_NOUGHT
  haveI := T.c2_HALF
  haveI := T.c2_ONE
  refine Pu.E8 h ?_
  rintro as Qp ⟨A, B, rfl, hA, hB, k⟩
  refine hd fun R hR => ?_
  trivial
  refine ⟨A, B, rfl, hA, hB, fun a r U => ?_⟩
  obtain ⟨s1, s2, s3, s4, s5, s6⟩ := B47 hA hB U
  have uq : ∀ a' r', Us A B a' r' -> sbs A B a' r' = sbs A B a r := fun a' r' U' => by obtain ⟨rfl, rfl⟩ := U'.uniq U; rfl
  have uq2 : ∀ a' r', Us B A a' r' -> sbs B A a' r' = (sbs A B a r).map swr := fun a' r' U' => by obtain ⟨rfl, rfl⟩ := U'.uniq U.comm; exact s6
  generalize sbs A B a r = rs at s1 s2 s3 s4 s5 s6 uq uq2
  trivial
  subst hR
  refine hd fun R hR => ?_
  trivial
  refine ⟨rs, A, B, rfl, hA, hB, s2, s1, s3, s4, ?_⟩
  trivial
  subst hR
  refine hd fun R hR => ?_
  trivial
  refine ⟨rs, A, B, rfl, hA, hB, s2, fun q hq => (s3 q hq).1, fun ws hw => ?_⟩
  trivial
  refine A2a (fun i e => ∃ o3 : Option SV, e = [some (.bor ((bs A).map dcn)), some (.bor ((bs B).map dcn)), some (.own (rs.map rwD)), o3, none, none, none]) ⟨_, rfl⟩ ?_ ?_
  · rintro i w e hwi ⟨o3, rfl⟩
    have sw := hw w (List.mem_of_getElem? hwi)
    trivial
    refine ⟨rs, w, rfl, fun q hq => (s3 q hq).1, sw, ?_⟩
    rw [s5]
    trivial
    refine ⟨A, B, w, rfl, hA, hB, sw, ?_⟩
    trivial
    exact ⟨P2 _, P2 _, _, rfl⟩
  rintro e ⟨o3, rfl⟩
  subst hR
  dsimp only
  refine hd fun R hR => ?_
  trivial
  subst hR
  refine hd fun R hR => ?_
  trivial
  refine ⟨by omega, N4 (fun i e ys => ∃ o1 o2 o3 : Option SV, e = [some (.d (.dict ([(.str "one", .str "other"), (.str "other", .str "one"), (.str "less", .str "more"), (.str "more", .str "less"), (.str "alike", .str "alike")]))), o1, o2, o3] /\ ys = ((rs.take i).map swr).map rwD) ⟨_, _, _, rfl, rfl⟩ ?_ ?_⟩
  · rintro i q e ys hq ⟨o1, o2, o3, rfl, rfl⟩
    obtain ⟨_, n1, n2⟩ := s3 q (List.mem_of_getElem? hq)
    rw [show rwD q = PyData.tuple [dq q.1, .str (wS q.2.1), .str (wS q.2.2)] from rfl]
    trivial
    refine ⟨_, _, _, rfl, rfl, B9m n1, ?_⟩
    trivial
    refine ⟨_, _, _, rfl, rfl, B9m n2, ?_⟩
    trivial
    refine ⟨_, _, _, rfl, ?_⟩
    rw [List.take_succ, hq, List.map_append, List.map_append]; rfl
  rintro e ys ⟨o1, o2, o3', rfl, rfl⟩
  rw [List.take_length]
  trivial
  subst hR
  refine hd fun R hR => ?_
  trivial
  subst hR
  refine hd fun R hR => ?_
  trivial
  subst hR
  trivial
  refine ⟨B, A, rfl, hB, hA, fun a' r' U' => ?_⟩
  rw [uq2 a' r' U']
  trivial
  refine ⟨O0 _, O0 _, A2c _, ?_⟩
  rw [A9t]
  trivial
  refine ⟨A, B, rfl, hA, hB, fun a' r' U' => ?_⟩
  rw [uq a' r' U']
  trivial
  refine ⟨O0 _, O0 _, A2c _, ?_⟩
  rw [A9t]
  exact k
theorem B9a (T : Txt K mg D) : FnOk P w K mg base CX0 11 D.a_law D.d_law ["_law_script"] (B43 K) := by
  refine FnOk.imp (sp := Pu.spOf K [.vw] Pu.pLaw) ?_ Pu.B9s
  refine T.F_law.ok sc_law (Pu.spOf.len rfl) (fun cdv A outer s H vs Q E hr h => ?_)
  refine ⟨_, (QSs.out (A4 (F8 PassesOwn.never rfl (A4x rfl T.z_range (A0 A2 (A0 (C3 (A99 rfl) (by rfl) T.z_max (by rfl) (A0 A2 (A0 (C3 (A97 rfl) (by rfl) T.z_min (by rfl) (A0 (C3 (C4 (K := K) rfl) (by rfl) T.z_len PySem.boot_len (A0 (qpv 0) A1)) (A0 A2 A1))) A1))) (A0 A2 A1)))) (C2 (i := 1) sc_law.nd rfl (Or.inl rfl) (Or.inl rfl))
        (A4 (B3 (i := 2) sc_law.nd rfl (Or.inl rfl) (A6 (A0y (K := K) T) hr.mo rfl T.m_Lbegun T.F_Lbegun.kp (A4n T) .nil B5 (A0 (qpv 0) (A0 (qpv 1) A1))))
        (A4 (B3 (i := 3) sc_law.nd rfl (Or.inl rfl) (A1w (F3 (D7 (K := K) rfl hr.units) (qpv 1) A2 (B9 _)) (Y5 (F3 (D7 (K := K) rfl hr.units) (A6 (G3 (K := K) T) hr.mo rfl T.m_Ltake T.F_Ltake.kp (L4 T) .nil B5 (A0 (qpv 2) (A0 A2 A1))) A2 (B9 _)))))
        (A4 (B3 (i := 4) sc_law.nd rfl (Or.inl rfl) (B7q (qpv 3) (Y5 (F3 (D7 (K := K) rfl hr.units) (A6 (G3 (K := K) T) hr.mo rfl T.m_Ltake T.F_Ltake.kp (L4 T) .nil B5 (A0 (qpv 2) (A0 A2 A1))) A2 (B9 _)))))
        (A4 (B3 (i := 5) sc_law.nd rfl (Or.inl rfl) (A6 (A0w (K := K) T) hr.mo rfl T.m_Lshape T.F_Lshape.kp (A4l T) .nil B5 (A0 (qpv 2) (A0 (A9 (A5 (K := K) rfl) (D3 (A0 A2 (A0 A2 A1))) (E6 M5 (by rfl) T.z_int (by rfl) (A0 (qpv 3) A1)) (fun _ _ => rfl)) (A0 (qpv 4) A1)))))
        (A4 (B3 (i := 6) sc_law.nd rfl (Or.inl rfl) (A6 (G3 (K := K) T) hr.mo rfl T.m_Ltake T.F_Ltake.kp (L4 T) .nil B5 (A0 (qpv 2) (A0 A2 A1))))
        (A4 (B3 (i := 7) sc_law.nd rfl (Or.inl rfl) (A6 (A0w (K := K) T) hr.mo rfl T.m_Lshape T.F_Lshape.kp (A4l T) .nil B5 (A0 (A6 (A0y (K := K) T) hr.mo rfl T.m_Lbegun T.F_Lbegun.kp (A4n T) .nil B5 (A0 (qpv 0) (A0 (B7 E9 (qpv 1) A2) A1))) (A0 (A9 (A5 (K := K) rfl) (D3 (A0 A2 (A0 A2 A1))) (E6 M5 (by rfl) T.z_int (by rfl) (A0 (qpv 3) A1)) (fun _ _ => rfl)) (A0 (qpv 4) A1)))))
        (A4 (D0 (B4 (D7 (K := K) rfl hr.units) (qpv 6) A2 (B9 _))
          (B0 (B3 (i := 7) sc_law.nd rfl (Or.inl rfl) (E6 (P3 (K := K) rfl) (by rfl) T.z_list (by rfl) (A0 (qpv 5) A1))))
          C1)
        (A4 (D0 (B4 (D7 (K := K) rfl hr.units) (qpv 6) A2 (B9 _))
          (A4 (B3 (i := 8) sc_law.nd rfl (Or.inr rfl) (D6 (A0 (B7 E9 A2 (A6 (G3 (K := K) T) hr.mo rfl T.m_Ltake T.F_Ltake.kp (L4 T) .nil B5 (A0 (qpv 2) (A0 A2 A1)))) (A0 A2 A1))))
          (B0 (K3 (i := 7) rfl sc_law.nd rfl rfl (F1 (N' := ["_law_part", "_law_whole", "_law_price_here"]) (cap := [some 8, none, none]) rfl rfl rfl rfl (by decide +kernel) rfl rfl) (G6 (K := K) rfl (qKp (qpv 5))) (fun _ _ _ => (K6 (K := K) (n := 2) rfl rfl (D2 (C2 (i := 1) (show (["_law_part", "_law_whole", "_law_price_here"] : List Str).Nodup from by decide +kernel) rfl (Or.inl rfl) (Or.inr rfl)) (D2 (C2 (i := 2) (show (["_law_part", "_law_whole", "_law_price_here"] : List Str).Nodup from by decide +kernel) rfl (Or.inl rfl) (Or.inr rfl)) K5)) rfl rfl)) (fun _ _ _ => G0) (fun _ _ _ => (D6 (A0 (qpv 1) (A0 (A6 (G8 (K := K) T) hr.mo rfl T.m_Ltimes T.F_Ltimes.kp (L3 T) .nil B5 (A0 (qpv 2) (A0 (qpv 0) A1))) A1)))) rfl)))
          C1)
        (A4 (D0 (B4 (D7 (K := K) rfl hr.units) (qpv 6) A2 (B9 _))
          (B0 (B3 (i := 7) sc_law.nd rfl (Or.inl rfl) (O5 (S5 (K := K) rfl) (qpv 5) (S6 (B7 E7 (C3 (C4 (K := K) rfl) (by rfl) T.z_len PySem.boot_len (A0 (qpv 5) A1)) A2)) S7)))
          C1)
        (A4 (B3 (i := 9) sc_law.nd rfl (Or.inl rfl) (D3 (A0 (E6 (P3 (K := K) rfl) (by rfl) T.z_list (by rfl) (A0 (qpv 5) A1)) (A0 (E6 (P3 (K := K) rfl) (by rfl) T.z_list (by rfl) (A0 (qpv 7) A1)) A1))))
        (B0 (D0 (QW.pt (L8 (K2 (D8 (A6 (A7l (K := K) T) hr.mo rfl T.m_Lright T.F_Lright.kp (B1x T) .nil B5 (A0 (qpv 5) (A0 (qpv 7) A1))))) (K0 (B4 (G7 (K := K) rfl hr.units) (D3 (A0 (qpv 5) (A0 (qpv 7) A1))) (qpv 9) (B9 _)))))
          (B0 (B6 R4))
          C1)))))))))))))
      (B0 (B6 R4)))), ?_⟩
  haveI := T.c2_NOUGHT
  haveI := T.c2_HALF
  haveI := T.c2_ONE
  refine Pu.E8 h ?_
  rintro as Qp ⟨ns, rfl, hns, k⟩
  refine hd fun R hR => ?_
  trivial
  generalize hj : (if (if (12 : Int) < (ns.length : Int) then (12 : Int) else (ns.length : Int)) > 2 then (if (12 : Int) < (ns.length : Int) then (12 : Int) else (ns.length : Int)) else 2) = j
  have hb : 0 <= j /\ j <= 63 := by rw [<- hj]; split <;> (try split) <;> omega
  clear hj
  refine ⟨⟨⟨by decide, by decide⟩, ⟨hb.1, by omega⟩, by decide, by decide⟩, B6o (fun i e => ∃ o1 o2 o3 o4 o5 o6 o7 o8 o9 : Option SV, e = [some (.bor (ns.map .int)), o1, o2, o3, o4, o5, o6, o7, o8, o9]) ⟨_, _, _, _, _, _, _, _, _, rfl⟩ ?_ ?_⟩
  · rintro i e hi ⟨o1, o2, o3, o4, o5, o6, o7, o8, o9, rfl⟩
    have hi : i < 32 := Nat.lt_of_lt_of_le hi (B42 hb.2)
    have hi2 : 0 + (i : Int) * 2 + 1 <= 63 := by omega
    generalize hk : (0 + (i : Nat) * 2 : Int) = kk at hi2
    have kk0 : 0 <= kk := by omega
    refine hd fun R hR => ?_
    trivial
    refine ⟨ns, _, rfl, kk0, by omega, ?_⟩
    trivial
    subst hR
    refine G5 (fun e => ∃ wd : Bool, e = [some (.bor (ns.map .int)), some (.d (.int kk)), some .st, some (.d (.bool wd)), o4, o5, o6, o7, o8, o9]) (fun R hR => ?_) ?_
    · trivial
      refine ite2 (fun h0 => ⟨4, rfl, by decide, sm4 4, fun d d0 d4 => ?_⟩) (fun h0 => hR _ ⟨_, rfl⟩)
      trivial
      exact hR _ ⟨_, rfl⟩
    rintro e ⟨wd, rfl⟩
    refine G5 (fun e => ∃ pl : Bool, e = [some (.bor (ns.map .int)), some (.d (.int kk)), some .st, some (.d (.bool wd)), some (.d (.bool pl)), o5, o6, o7, o8, o9]) (fun R hR => ?_) ?_
    · trivial
      cases wd with
      | true =>
        trivial
        exact hR _ ⟨_, rfl⟩
      | false =>
        trivial
        refine ⟨2, rfl, by decide, sm4 2, fun d d0 d4 => ?_⟩
        trivial
        exact hR _ ⟨_, rfl⟩
    rintro e ⟨pl, rfl⟩
    refine G5 (fun e => ∃ A : Spr, e = [some (.bor (ns.map .int)), some (.d (.int kk)), some .st, some (.d (.bool wd)), some (.d (.bool pl)), some (.own ((bs A).map dcn)), o6, o7, o8, o9] /\ Sh0 A.1 A.2) (fun R hR => ?_) ?_
    · trivial
      cases wd with
      | true =>
        trivial
        exact ⟨_, _, rfl, by decide, by decide, fun c ps h => hR _ ⟨(c, ps), rfl, h⟩⟩
      | false =>
        trivial
        exact ⟨_, _, rfl, by decide, by decide, fun c ps h => hR _ ⟨(c, ps), rfl, h⟩⟩
    rintro e ⟨A, rfl, h0⟩
    have hA := h0.sh
    refine hd fun R hR => ?_
    trivial
    refine ⟨4, rfl, by decide, sm4 4, fun wy w0 w4 => ?_⟩
    trivial
    subst hR
    refine G5 (fun e => ∃ B : Spr, e = [some (.bor (ns.map .int)), some (.d (.int kk)), some .st, some (.d (.bool wd)), some (.d (.bool pl)), some (.own ((bs A).map dcn)), some (.d (.int wy)), some (.own ((bs B).map dcn)), o8, o9] /\ Sh B.1 B.2) (fun R hR => ?_) ?_
    · trivial
      refine ⟨ns, _, rfl, by omega, by omega, ?_⟩
      trivial
      cases wd with
      | true =>
        trivial
        exact ⟨_, _, rfl, by decide, by decide, fun c ps h => hR _ ⟨(c, ps), rfl, h.sh⟩⟩
      | false =>
        trivial
        exact ⟨_, _, rfl, by decide, by decide, fun c ps h => hR _ ⟨(c, ps), rfl, h.sh⟩⟩
    rintro e ⟨B, rfl, hB⟩
    refine G5 (fun e => ∃ (B : Spr) (o8 : Option SV), e = [some (.bor (ns.map .int)), some (.d (.int kk)), some .st, some (.d (.bool wd)), some (.d (.bool pl)), some (.own ((bs A).map dcn)), some (.d (.int wy)), some (.own ((bs B).map dcn)), o8, o9] /\ Sh B.1 B.2) (fun R hR => ?_) ?_
    · trivial
      exact ite2 (fun _ => hR _ ⟨A, _, rfl, hA⟩) (fun _ => hR _ ⟨B, _, rfl, hB⟩)
    clear hB B o8
    rintro e ⟨B, o8, rfl, hB⟩
    refine G5 (fun e => ∃ (B : Spr) (o8 : Option SV), e = [some (.bor (ns.map .int)), some (.d (.int kk)), some .st, some (.d (.bool wd)), some (.d (.bool pl)), some (.own ((bs A).map dcn)), some (.d (.int wy)), some (.own ((bs B).map dcn)), o8, o9] /\ Sh B.1 B.2) (fun R hR => ?_) ?_
    · trivial
      refine ite2 (fun _ => ?_) (fun _ => hR _ ⟨B, _, rfl, hB⟩)
      refine ⟨5, rfl, by decide, sm4 5, fun d d0 d5 => ?_⟩
      trivial
      have lA := hA.gs.le
      have sc := h0.scale (n := 1 + d) (by omega) (by omega)
      refine ⟨by have : (bs A).length <= 60 := lA; omega, N4 (fun i e ys => ∃ x1 x2 : Option SV, e = [some (.d (.tuple [.int (1 + d), .int 5])), x1, x2] /\ ys = (((bs A).take i).map fun q => (q.1, q.2 * Rat.divInt (1 + d) 5)).map dcn) ⟨_, _, rfl, rfl⟩ ?_ ?_⟩
      · rintro i q e ys hq ⟨x1, x2, rfl, rfl⟩
        have sq := hA.gs.sm q (List.mem_of_getElem? hq)
        trivial
        refine .inr ⟨_, _, rfl, sq.2.q (by decide) (by decide), by omega, by omega, ?_⟩
        trivial
        refine ⟨_, _, rfl, ?_⟩
        rw [List.take_succ, hq, List.map_append, List.map_append]; rfl
      rintro e ys ⟨x1, x2, rfl, rfl⟩
      rw [List.take_length, show (bs A).map (fun q => (q.1, q.2 * Rat.divInt (1 + d) 5)) = bs ((A.1.1, A.1.2 * Rat.divInt (1 + d) 5), A.2.map fun p => (p.1, p.2 * Rat.divInt (1 + d) 5)) from (P4 A.2 A.1).symm]
      trivial
      exact hR _ ⟨((A.1.1, A.1.2 * Rat.divInt (1 + d) 5), A.2.map fun p => (p.1, p.2 * Rat.divInt (1 + d) 5)), _, rfl, sc⟩
    clear hB B o8
    rintro e ⟨B, o8, rfl, hB⟩
    refine G5 (fun e => ∃ (B : Spr) (o8 : Option SV), e = [some (.bor (ns.map .int)), some (.d (.int kk)), some .st, some (.d (.bool wd)), some (.d (.bool pl)), some (.own ((bs A).map dcn)), some (.d (.int wy)), some (.own ((bs B).map dcn)), o8, o9] /\ Sh B.1 B.2) (fun R hR => ?_) ?_
    · trivial
      refine ite2 (fun _ => ?_) (fun _ => hR _ ⟨B, _, rfl, hB⟩)
      have l1 : 1 <= (bs A).length := hA.gs.ne
      have hm : (bs A).length / 2 < (bs A).length := by omega
      obtain ⟨B', e, h'⟩ := hA.drop (n := (bs A).length / 2) hm
      have e2 : ((bs A).length : Int).fdiv 2 = (((bs A).length / 2 : Nat) : Int) := by rw [Int.fdiv_eq_ediv_of_nonneg _ (by decide)]; omega
      refine ⟨⟨by decide, by unfold Sm; decide⟩, ?_⟩
      rw [e2, C0d (Nat.le_of_lt hm), show (bs A).drop ((bs A).length / 2) = bs B' from e]
      exact hR _ ⟨B', _, rfl, h'⟩
    clear hB B o8
    rintro e ⟨B, o8, rfl, hB⟩
    refine hd fun R hR => ?_
    trivial
    subst hR
    trivial
    refine ⟨A, B, rfl, hA, hB, ?_⟩
    trivial
    refine ⟨A1u _ _, A1u _ _, B4s _ _, ?_⟩
    rw [PySem.SeqAt.eqv_refl _ (A1u _ _), if_neg (by decide)]
    exact ⟨_, _, _, _, _, _, _, _, _, rfl⟩
  · rintro e ⟨o1, o2, o3, o4, o5, o6, o7, o8, o9, rfl⟩
    subst hR
    trivial
    exact k
end
theorem all_mk {l : PySem.W.OpenLaw} {w : World} {K : PySem.W.Frag} {h : Heap} {mg : Str -> Option Value} {fa : Addr} (X : K.In h) (G : h.Ns mainGlobals mg) (hfa : mg "law" = some (.ref fa))
    {od_commonpart an_commonpart : Option Addr} {sl_commonpart : Array (Option Value)} {oc_commonpart kV_commonpart dc_commonpart pm_commonpart cd_commonpart ct_commonpart : Value} {a_commonpart : Addr}
    {od_plus an_plus : Option Addr} {sl_plus : Array (Option Value)} {oc_plus kV_plus dc_plus pm_plus cd_plus ct_plus : Value} {a_plus : Addr}
    {od_minus an_minus : Option Addr} {sl_minus : Array (Option Value)} {oc_minus kV_minus dc_minus pm_minus cd_minus ct_minus : Value} {a_minus : Addr}
    {od_product an_product : Option Addr} {sl_product : Array (Option Value)} {oc_product kV_product dc_product pm_product cd_product ct_product : Value} {a_product : Addr}
    {od_parted an_parted : Option Addr} {sl_parted : Array (Option Value)} {oc_parted kV_parted dc_parted pm_parted cd_parted ct_parted : Value} {a_parted : Addr}
    {od_isless an_isless : Option Addr} {sl_isless : Array (Option Value)} {oc_isless kV_isless dc_isless pm_isless cd_isless ct_isless : Value} {a_isless : Addr}
    {od_between an_between : Option Addr} {sl_between : Array (Option Value)} {oc_between kV_between dc_between pm_between cd_between ct_between : Value} {a_between : Addr}
    {od_sharebetween an_sharebetween : Option Addr} {sl_sharebetween : Array (Option Value)} {oc_sharebetween kV_sharebetween dc_sharebetween pm_sharebetween cd_sharebetween ct_sharebetween : Value} {a_sharebetween : Addr}
    {od_pieceat an_pieceat : Option Addr} {sl_pieceat : Array (Option Value)} {oc_pieceat kV_pieceat dc_pieceat pm_pieceat cd_pieceat ct_pieceat : Value} {a_pieceat : Addr}
    {od_priceat an_priceat : Option Addr} {sl_priceat : Array (Option Value)} {oc_priceat kV_priceat dc_priceat pm_priceat cd_priceat ct_priceat : Value} {a_priceat : Addr}
    {od_mergedwholes an_mergedwholes : Option Addr} {sl_mergedwholes : Array (Option Value)} {oc_mergedwholes kV_mergedwholes dc_mergedwholes pm_mergedwholes cd_mergedwholes ct_mergedwholes : Value} {a_mergedwholes : Addr}
    {od_wordat an_wordat : Option Addr} {sl_wordat : Array (Option Value)} {oc_wordat kV_wordat dc_wordat pm_wordat cd_wordat ct_wordat : Value} {a_wordat : Addr}
    {od_crossingbetween an_crossingbetween : Option Addr} {sl_crossingbetween : Array (Option Value)} {oc_crossingbetween kV_crossingbetween dc_crossingbetween pm_crossingbetween cd_crossingbetween ct_crossingbetween : Value} {a_crossingbetween : Addr}
    {od_turningwholes an_turningwholes : Option Addr} {sl_turningwholes : Array (Option Value)} {oc_turningwholes kV_turningwholes dc_turningwholes pm_turningwholes cd_turningwholes ct_turningwholes : Value} {a_turningwholes : Addr}
    {od_sidebyside an_sidebyside : Option Addr} {sl_sidebyside : Array (Option Value)} {oc_sidebyside kV_sidebyside dc_sidebyside pm_sidebyside cd_sidebyside ct_sidebyside : Value} {a_sidebyside : Addr}
    {od_Lbegun an_Lbegun : Option Addr} {sl_Lbegun : Array (Option Value)} {oc_Lbegun kV_Lbegun dc_Lbegun pm_Lbegun cd_Lbegun ct_Lbegun : Value} {a_Lbegun : Addr}
    {od_Ltake an_Ltake : Option Addr} {sl_Ltake : Array (Option Value)} {oc_Ltake kV_Ltake dc_Ltake pm_Ltake cd_Ltake ct_Ltake : Value} {a_Ltake : Addr}
    {od_Llow an_Llow : Option Addr} {sl_Llow : Array (Option Value)} {oc_Llow kV_Llow dc_Llow pm_Llow cd_Llow ct_Llow : Value} {a_Llow : Addr}
    {od_Lplus an_Lplus : Option Addr} {sl_Lplus : Array (Option Value)} {oc_Lplus kV_Lplus dc_Lplus pm_Lplus cd_Lplus ct_Lplus : Value} {a_Lplus : Addr}
    {od_Lminus an_Lminus : Option Addr} {sl_Lminus : Array (Option Value)} {oc_Lminus kV_Lminus dc_Lminus pm_Lminus cd_Lminus ct_Lminus : Value} {a_Lminus : Addr}
    {od_Ltimes an_Ltimes : Option Addr} {sl_Ltimes : Array (Option Value)} {oc_Ltimes kV_Ltimes dc_Ltimes pm_Ltimes cd_Ltimes ct_Ltimes : Value} {a_Ltimes : Addr}
    {od_Lunder an_Lunder : Option Addr} {sl_Lunder : Array (Option Value)} {oc_Lunder kV_Lunder dc_Lunder pm_Lunder cd_Lunder ct_Lunder : Value} {a_Lunder : Addr}
    {od_Lamount an_Lamount : Option Addr} {sl_Lamount : Array (Option Value)} {oc_Lamount kV_Lamount dc_Lamount pm_Lamount cd_Lamount ct_Lamount : Value} {a_Lamount : Addr}
    {od_Lshape an_Lshape : Option Addr} {sl_Lshape : Array (Option Value)} {oc_Lshape kV_Lshape dc_Lshape pm_Lshape cd_Lshape ct_Lshape : Value} {a_Lshape : Addr}
    {od_Lparted an_Lparted : Option Addr} {sl_Lparted : Array (Option Value)} {oc_Lparted kV_Lparted dc_Lparted pm_Lparted cd_Lparted ct_Lparted : Value} {a_Lparted : Addr}
    {od_Lfall an_Lfall : Option Addr} {sl_Lfall : Array (Option Value)} {oc_Lfall kV_Lfall dc_Lfall pm_Lfall cd_Lfall ct_Lfall : Value} {a_Lfall : Addr}
    {od_Lprice an_Lprice : Option Addr} {sl_Lprice : Array (Option Value)} {oc_Lprice kV_Lprice dc_Lprice pm_Lprice cd_Lprice ct_Lprice : Value} {a_Lprice : Addr}
    {od_Lword an_Lword : Option Addr} {sl_Lword : Array (Option Value)} {oc_Lword kV_Lword dc_Lword pm_Lword cd_Lword ct_Lword : Value} {a_Lword : Addr}
    {od_Ltoldword an_Ltoldword : Option Addr} {sl_Ltoldword : Array (Option Value)} {oc_Ltoldword kV_Ltoldword dc_Ltoldword pm_Ltoldword cd_Ltoldword ct_Ltoldword : Value} {a_Ltoldword : Addr}
    {od_Lahead an_Lahead : Option Addr} {sl_Lahead : Array (Option Value)} {oc_Lahead kV_Lahead dc_Lahead pm_Lahead cd_Lahead ct_Lahead : Value} {a_Lahead : Addr}
    {od_Lline an_Lline : Option Addr} {sl_Lline : Array (Option Value)} {oc_Lline kV_Lline dc_Lline pm_Lline cd_Lline ct_Lline : Value} {a_Lline : Addr}
    {od_Lcrossings an_Lcrossings : Option Addr} {sl_Lcrossings : Array (Option Value)} {oc_Lcrossings kV_Lcrossings dc_Lcrossings pm_Lcrossings cd_Lcrossings ct_Lcrossings : Value} {a_Lcrossings : Addr}
    {od_Lspots an_Lspots : Option Addr} {sl_Lspots : Array (Option Value)} {oc_Lspots kV_Lspots dc_Lspots pm_Lspots cd_Lspots ct_Lspots : Value} {a_Lspots : Addr}
    {od_Linform an_Linform : Option Addr} {sl_Linform : Array (Option Value)} {oc_Linform kV_Linform dc_Linform pm_Linform cd_Linform ct_Linform : Value} {a_Linform : Addr}
    {od_Lright an_Lright : Option Addr} {sl_Lright : Array (Option Value)} {oc_Lright kV_Lright dc_Lright pm_Lright cd_Lright ct_Lright : Value} {a_Lright : Addr}
    {od_law an_law : Option Addr} {sl_law : Array (Option Value)} {oc_law kV_law dc_law pm_law cd_law ct_law : Value} {a_law : Addr}
    {q_NOUGHT : Addr}
    {q_HALF : Addr}
    {q_ONE : Addr}
    {od_NOUGHT : Option Addr} {its_NOUGHT : Array Value} {n_NOUGHT : Nat} {sl_NOUGHT : Array (Option Value)} {t0_NOUGHT t1_NOUGHT : Tok}
    {od_HALF : Option Addr} {its_HALF : Array Value} {n_HALF : Nat} {sl_HALF : Array (Option Value)} {t0_HALF t1_HALF : Tok}
    {od_ONE : Option Addr} {its_ONE : Array Value} {n_ONE : Nat} {sl_ONE : Array (Option Value)} {t0_ONE t1_ONE : Tok}
    (g_commonpart : PySem.W.nsIn K mainGlobals "common_part" = some (some (.ref a_commonpart)))
    (l_commonpart : K.lookup a_commonpart = some ⟨oc_commonpart, od_commonpart, .func (PySem.W.fnOf "common_part" "common_part" (A8 s_commonpart) (A7 s_commonpart) (A3 s_commonpart) .none kV_commonpart dc_commonpart pm_commonpart an_commonpart cd_commonpart ct_commonpart), sl_commonpart⟩)
    (c_commonpart : PySem.W.codeIn K cd_commonpart "common_part" = true)
    (k_commonpart : PySem.W.keepIn K (.ref a_commonpart) = true)
    (g_plus : PySem.W.nsIn K mainGlobals "plus" = some (some (.ref a_plus)))
    (l_plus : K.lookup a_plus = some ⟨oc_plus, od_plus, .func (PySem.W.fnOf "plus" "plus" (A8 s_plus) (A7 s_plus) (A3 s_plus) .none kV_plus dc_plus pm_plus an_plus cd_plus ct_plus), sl_plus⟩)
    (c_plus : PySem.W.codeIn K cd_plus "plus" = true)
    (k_plus : PySem.W.keepIn K (.ref a_plus) = true)
    (g_minus : PySem.W.nsIn K mainGlobals "minus" = some (some (.ref a_minus)))
    (l_minus : K.lookup a_minus = some ⟨oc_minus, od_minus, .func (PySem.W.fnOf "minus" "minus" (A8 s_minus) (A7 s_minus) (A3 s_minus) .none kV_minus dc_minus pm_minus an_minus cd_minus ct_minus), sl_minus⟩)
    (c_minus : PySem.W.codeIn K cd_minus "minus" = true)
    (k_minus : PySem.W.keepIn K (.ref a_minus) = true)
    (g_product : PySem.W.nsIn K mainGlobals "product" = some (some (.ref a_product)))
    (l_product : K.lookup a_product = some ⟨oc_product, od_product, .func (PySem.W.fnOf "product" "product" (A8 s_product) (A7 s_product) (A3 s_product) .none kV_product dc_product pm_product an_product cd_product ct_product), sl_product⟩)
    (c_product : PySem.W.codeIn K cd_product "product" = true)
    (k_product : PySem.W.keepIn K (.ref a_product) = true)
    (g_parted : PySem.W.nsIn K mainGlobals "parted" = some (some (.ref a_parted)))
    (l_parted : K.lookup a_parted = some ⟨oc_parted, od_parted, .func (PySem.W.fnOf "parted" "parted" (A8 s_parted) (A7 s_parted) (A3 s_parted) .none kV_parted dc_parted pm_parted an_parted cd_parted ct_parted), sl_parted⟩)
    (c_parted : PySem.W.codeIn K cd_parted "parted" = true)
    (k_parted : PySem.W.keepIn K (.ref a_parted) = true)
    (g_isless : PySem.W.nsIn K mainGlobals "is_less" = some (some (.ref a_isless)))
    (l_isless : K.lookup a_isless = some ⟨oc_isless, od_isless, .func (PySem.W.fnOf "is_less" "is_less" (A8 s_isless) (A7 s_isless) (A3 s_isless) .none kV_isless dc_isless pm_isless an_isless cd_isless ct_isless), sl_isless⟩)
    (c_isless : PySem.W.codeIn K cd_isless "is_less" = true)
    (k_isless : PySem.W.keepIn K (.ref a_isless) = true)
    (g_between : PySem.W.nsIn K mainGlobals "between" = some (some (.ref a_between)))
    (l_between : K.lookup a_between = some ⟨oc_between, od_between, .func (PySem.W.fnOf "between" "between" (A8 s_between) (A7 s_between) (A3 s_between) .none kV_between dc_between pm_between an_between cd_between ct_between), sl_between⟩)
    (c_between : PySem.W.codeIn K cd_between "between" = true)
    (k_between : PySem.W.keepIn K (.ref a_between) = true)
    (g_sharebetween : PySem.W.nsIn K mainGlobals "share_between" = some (some (.ref a_sharebetween)))
    (l_sharebetween : K.lookup a_sharebetween = some ⟨oc_sharebetween, od_sharebetween, .func (PySem.W.fnOf "share_between" "share_between" (A8 s_sharebetween) (A7 s_sharebetween) (A3 s_sharebetween) .none kV_sharebetween dc_sharebetween pm_sharebetween an_sharebetween cd_sharebetween ct_sharebetween), sl_sharebetween⟩)
    (c_sharebetween : PySem.W.codeIn K cd_sharebetween "share_between" = true)
    (k_sharebetween : PySem.W.keepIn K (.ref a_sharebetween) = true)
    (g_pieceat : PySem.W.nsIn K mainGlobals "piece_at" = some (some (.ref a_pieceat)))
    (l_pieceat : K.lookup a_pieceat = some ⟨oc_pieceat, od_pieceat, .func (PySem.W.fnOf "piece_at" "piece_at" (A8 s_pieceat) (A7 s_pieceat) (A3 s_pieceat) .none kV_pieceat dc_pieceat pm_pieceat an_pieceat cd_pieceat ct_pieceat), sl_pieceat⟩)
    (c_pieceat : PySem.W.codeIn K cd_pieceat "piece_at" = true)
    (k_pieceat : PySem.W.keepIn K (.ref a_pieceat) = true)
    (g_priceat : PySem.W.nsIn K mainGlobals "price_at" = some (some (.ref a_priceat)))
    (l_priceat : K.lookup a_priceat = some ⟨oc_priceat, od_priceat, .func (PySem.W.fnOf "price_at" "price_at" (A8 s_priceat) (A7 s_priceat) (A3 s_priceat) .none kV_priceat dc_priceat pm_priceat an_priceat cd_priceat ct_priceat), sl_priceat⟩)
    (c_priceat : PySem.W.codeIn K cd_priceat "price_at" = true)
    (k_priceat : PySem.W.keepIn K (.ref a_priceat) = true)
    (g_mergedwholes : PySem.W.nsIn K mainGlobals "merged_wholes" = some (some (.ref a_mergedwholes)))
    (l_mergedwholes : K.lookup a_mergedwholes = some ⟨oc_mergedwholes, od_mergedwholes, .func (PySem.W.fnOf "merged_wholes" "merged_wholes" (A8 s_mergedwholes) (A7 s_mergedwholes) (A3 s_mergedwholes) .none kV_mergedwholes dc_mergedwholes pm_mergedwholes an_mergedwholes cd_mergedwholes ct_mergedwholes), sl_mergedwholes⟩)
    (c_mergedwholes : PySem.W.codeIn K cd_mergedwholes "merged_wholes" = true)
    (k_mergedwholes : PySem.W.keepIn K (.ref a_mergedwholes) = true)
    (g_wordat : PySem.W.nsIn K mainGlobals "word_at" = some (some (.ref a_wordat)))
    (l_wordat : K.lookup a_wordat = some ⟨oc_wordat, od_wordat, .func (PySem.W.fnOf "word_at" "word_at" (A8 s_wordat) (A7 s_wordat) (A3 s_wordat) .none kV_wordat dc_wordat pm_wordat an_wordat cd_wordat ct_wordat), sl_wordat⟩)
    (c_wordat : PySem.W.codeIn K cd_wordat "word_at" = true)
    (k_wordat : PySem.W.keepIn K (.ref a_wordat) = true)
    (g_crossingbetween : PySem.W.nsIn K mainGlobals "crossing_between" = some (some (.ref a_crossingbetween)))
    (l_crossingbetween : K.lookup a_crossingbetween = some ⟨oc_crossingbetween, od_crossingbetween, .func (PySem.W.fnOf "crossing_between" "crossing_between" (A8 s_crossingbetween) (A7 s_crossingbetween) (A3 s_crossingbetween) .none kV_crossingbetween dc_crossingbetween pm_crossingbetween an_crossingbetween cd_crossingbetween ct_crossingbetween), sl_crossingbetween⟩)
    (c_crossingbetween : PySem.W.codeIn K cd_crossingbetween "crossing_between" = true)
    (k_crossingbetween : PySem.W.keepIn K (.ref a_crossingbetween) = true)
    (g_turningwholes : PySem.W.nsIn K mainGlobals "turning_wholes" = some (some (.ref a_turningwholes)))
    (l_turningwholes : K.lookup a_turningwholes = some ⟨oc_turningwholes, od_turningwholes, .func (PySem.W.fnOf "turning_wholes" "turning_wholes" (A8 s_turningwholes) (A7 s_turningwholes) (A3 s_turningwholes) .none kV_turningwholes dc_turningwholes pm_turningwholes an_turningwholes cd_turningwholes ct_turningwholes), sl_turningwholes⟩)
    (c_turningwholes : PySem.W.codeIn K cd_turningwholes "turning_wholes" = true)
    (k_turningwholes : PySem.W.keepIn K (.ref a_turningwholes) = true)
    (g_sidebyside : PySem.W.nsIn K mainGlobals "side_by_side" = some (some (.ref a_sidebyside)))
    (l_sidebyside : K.lookup a_sidebyside = some ⟨oc_sidebyside, od_sidebyside, .func (PySem.W.fnOf "side_by_side" "side_by_side" (A8 s_sidebyside) (A7 s_sidebyside) (A3 s_sidebyside) .none kV_sidebyside dc_sidebyside pm_sidebyside an_sidebyside cd_sidebyside ct_sidebyside), sl_sidebyside⟩)
    (c_sidebyside : PySem.W.codeIn K cd_sidebyside "side_by_side" = true)
    (k_sidebyside : PySem.W.keepIn K (.ref a_sidebyside) = true)
    (g_Lbegun : PySem.W.nsIn K mainGlobals "_law_begun" = some (some (.ref a_Lbegun)))
    (l_Lbegun : K.lookup a_Lbegun = some ⟨oc_Lbegun, od_Lbegun, .func (PySem.W.fnOf "_law_begun" "_law_begun" (A8 s_Lbegun) (A7 s_Lbegun) (A3 s_Lbegun) .none kV_Lbegun dc_Lbegun pm_Lbegun an_Lbegun cd_Lbegun ct_Lbegun), sl_Lbegun⟩)
    (c_Lbegun : PySem.W.codeIn K cd_Lbegun "_law_begun" = true)
    (k_Lbegun : PySem.W.keepIn K (.ref a_Lbegun) = true)
    (g_Ltake : PySem.W.nsIn K mainGlobals "_law_take" = some (some (.ref a_Ltake)))
    (l_Ltake : K.lookup a_Ltake = some ⟨oc_Ltake, od_Ltake, .func (PySem.W.fnOf "_law_take" "_law_take" (A8 s_Ltake) (A7 s_Ltake) (A3 s_Ltake) .none kV_Ltake dc_Ltake pm_Ltake an_Ltake cd_Ltake ct_Ltake), sl_Ltake⟩)
    (c_Ltake : PySem.W.codeIn K cd_Ltake "_law_take" = true)
    (k_Ltake : PySem.W.keepIn K (.ref a_Ltake) = true)
    (g_Llow : PySem.W.nsIn K mainGlobals "_law_low" = some (some (.ref a_Llow)))
    (l_Llow : K.lookup a_Llow = some ⟨oc_Llow, od_Llow, .func (PySem.W.fnOf "_law_low" "_law_low" (A8 s_Llow) (A7 s_Llow) (A3 s_Llow) .none kV_Llow dc_Llow pm_Llow an_Llow cd_Llow ct_Llow), sl_Llow⟩)
    (c_Llow : PySem.W.codeIn K cd_Llow "_law_low" = true)
    (k_Llow : PySem.W.keepIn K (.ref a_Llow) = true)
    (g_Lplus : PySem.W.nsIn K mainGlobals "_law_plus" = some (some (.ref a_Lplus)))
    (l_Lplus : K.lookup a_Lplus = some ⟨oc_Lplus, od_Lplus, .func (PySem.W.fnOf "_law_plus" "_law_plus" (A8 s_Lplus) (A7 s_Lplus) (A3 s_Lplus) .none kV_Lplus dc_Lplus pm_Lplus an_Lplus cd_Lplus ct_Lplus), sl_Lplus⟩)
    (c_Lplus : PySem.W.codeIn K cd_Lplus "_law_plus" = true)
    (k_Lplus : PySem.W.keepIn K (.ref a_Lplus) = true)
    (g_Lminus : PySem.W.nsIn K mainGlobals "_law_minus" = some (some (.ref a_Lminus)))
    (l_Lminus : K.lookup a_Lminus = some ⟨oc_Lminus, od_Lminus, .func (PySem.W.fnOf "_law_minus" "_law_minus" (A8 s_Lminus) (A7 s_Lminus) (A3 s_Lminus) .none kV_Lminus dc_Lminus pm_Lminus an_Lminus cd_Lminus ct_Lminus), sl_Lminus⟩)
    (c_Lminus : PySem.W.codeIn K cd_Lminus "_law_minus" = true)
    (k_Lminus : PySem.W.keepIn K (.ref a_Lminus) = true)
    (g_Ltimes : PySem.W.nsIn K mainGlobals "_law_times" = some (some (.ref a_Ltimes)))
    (l_Ltimes : K.lookup a_Ltimes = some ⟨oc_Ltimes, od_Ltimes, .func (PySem.W.fnOf "_law_times" "_law_times" (A8 s_Ltimes) (A7 s_Ltimes) (A3 s_Ltimes) .none kV_Ltimes dc_Ltimes pm_Ltimes an_Ltimes cd_Ltimes ct_Ltimes), sl_Ltimes⟩)
    (c_Ltimes : PySem.W.codeIn K cd_Ltimes "_law_times" = true)
    (k_Ltimes : PySem.W.keepIn K (.ref a_Ltimes) = true)
    (g_Lunder : PySem.W.nsIn K mainGlobals "_law_under" = some (some (.ref a_Lunder)))
    (l_Lunder : K.lookup a_Lunder = some ⟨oc_Lunder, od_Lunder, .func (PySem.W.fnOf "_law_under" "_law_under" (A8 s_Lunder) (A7 s_Lunder) (A3 s_Lunder) .none kV_Lunder dc_Lunder pm_Lunder an_Lunder cd_Lunder ct_Lunder), sl_Lunder⟩)
    (c_Lunder : PySem.W.codeIn K cd_Lunder "_law_under" = true)
    (k_Lunder : PySem.W.keepIn K (.ref a_Lunder) = true)
    (g_Lamount : PySem.W.nsIn K mainGlobals "_law_amount" = some (some (.ref a_Lamount)))
    (l_Lamount : K.lookup a_Lamount = some ⟨oc_Lamount, od_Lamount, .func (PySem.W.fnOf "_law_amount" "_law_amount" (A8 s_Lamount) (A7 s_Lamount) (A3 s_Lamount) .none kV_Lamount dc_Lamount pm_Lamount an_Lamount cd_Lamount ct_Lamount), sl_Lamount⟩)
    (c_Lamount : PySem.W.codeIn K cd_Lamount "_law_amount" = true)
    (k_Lamount : PySem.W.keepIn K (.ref a_Lamount) = true)
    (g_Lshape : PySem.W.nsIn K mainGlobals "_law_shape" = some (some (.ref a_Lshape)))
    (l_Lshape : K.lookup a_Lshape = some ⟨oc_Lshape, od_Lshape, .func (PySem.W.fnOf "_law_shape" "_law_shape" (A8 s_Lshape) (A7 s_Lshape) (A3 s_Lshape) .none kV_Lshape dc_Lshape pm_Lshape an_Lshape cd_Lshape ct_Lshape), sl_Lshape⟩)
    (c_Lshape : PySem.W.codeIn K cd_Lshape "_law_shape" = true)
    (k_Lshape : PySem.W.keepIn K (.ref a_Lshape) = true)
    (g_Lparted : PySem.W.nsIn K mainGlobals "_law_parted" = some (some (.ref a_Lparted)))
    (l_Lparted : K.lookup a_Lparted = some ⟨oc_Lparted, od_Lparted, .func (PySem.W.fnOf "_law_parted" "_law_parted" (A8 s_Lparted) (A7 s_Lparted) (A3 s_Lparted) .none kV_Lparted dc_Lparted pm_Lparted an_Lparted cd_Lparted ct_Lparted), sl_Lparted⟩)
    (c_Lparted : PySem.W.codeIn K cd_Lparted "_law_parted" = true)
    (k_Lparted : PySem.W.keepIn K (.ref a_Lparted) = true)
    (g_Lfall : PySem.W.nsIn K mainGlobals "_law_fall" = some (some (.ref a_Lfall)))
    (l_Lfall : K.lookup a_Lfall = some ⟨oc_Lfall, od_Lfall, .func (PySem.W.fnOf "_law_fall" "_law_fall" (A8 s_Lfall) (A7 s_Lfall) (A3 s_Lfall) .none kV_Lfall dc_Lfall pm_Lfall an_Lfall cd_Lfall ct_Lfall), sl_Lfall⟩)
    (c_Lfall : PySem.W.codeIn K cd_Lfall "_law_fall" = true)
    (k_Lfall : PySem.W.keepIn K (.ref a_Lfall) = true)
    (g_Lprice : PySem.W.nsIn K mainGlobals "_law_price" = some (some (.ref a_Lprice)))
    (l_Lprice : K.lookup a_Lprice = some ⟨oc_Lprice, od_Lprice, .func (PySem.W.fnOf "_law_price" "_law_price" (A8 s_Lprice) (A7 s_Lprice) (A3 s_Lprice) .none kV_Lprice dc_Lprice pm_Lprice an_Lprice cd_Lprice ct_Lprice), sl_Lprice⟩)
    (c_Lprice : PySem.W.codeIn K cd_Lprice "_law_price" = true)
    (k_Lprice : PySem.W.keepIn K (.ref a_Lprice) = true)
    (g_Lword : PySem.W.nsIn K mainGlobals "_law_word" = some (some (.ref a_Lword)))
    (l_Lword : K.lookup a_Lword = some ⟨oc_Lword, od_Lword, .func (PySem.W.fnOf "_law_word" "_law_word" (A8 s_Lword) (A7 s_Lword) (A3 s_Lword) .none kV_Lword dc_Lword pm_Lword an_Lword cd_Lword ct_Lword), sl_Lword⟩)
    (c_Lword : PySem.W.codeIn K cd_Lword "_law_word" = true)
    (k_Lword : PySem.W.keepIn K (.ref a_Lword) = true)
    (g_Ltoldword : PySem.W.nsIn K mainGlobals "_law_told_word" = some (some (.ref a_Ltoldword)))
    (l_Ltoldword : K.lookup a_Ltoldword = some ⟨oc_Ltoldword, od_Ltoldword, .func (PySem.W.fnOf "_law_told_word" "_law_told_word" (A8 s_Ltoldword) (A7 s_Ltoldword) (A3 s_Ltoldword) .none kV_Ltoldword dc_Ltoldword pm_Ltoldword an_Ltoldword cd_Ltoldword ct_Ltoldword), sl_Ltoldword⟩)
    (c_Ltoldword : PySem.W.codeIn K cd_Ltoldword "_law_told_word" = true)
    (k_Ltoldword : PySem.W.keepIn K (.ref a_Ltoldword) = true)
    (g_Lahead : PySem.W.nsIn K mainGlobals "_law_ahead" = some (some (.ref a_Lahead)))
    (l_Lahead : K.lookup a_Lahead = some ⟨oc_Lahead, od_Lahead, .func (PySem.W.fnOf "_law_ahead" "_law_ahead" (A8 s_Lahead) (A7 s_Lahead) (A3 s_Lahead) .none kV_Lahead dc_Lahead pm_Lahead an_Lahead cd_Lahead ct_Lahead), sl_Lahead⟩)
    (c_Lahead : PySem.W.codeIn K cd_Lahead "_law_ahead" = true)
    (k_Lahead : PySem.W.keepIn K (.ref a_Lahead) = true)
    (g_Lline : PySem.W.nsIn K mainGlobals "_law_line" = some (some (.ref a_Lline)))
    (l_Lline : K.lookup a_Lline = some ⟨oc_Lline, od_Lline, .func (PySem.W.fnOf "_law_line" "_law_line" (A8 s_Lline) (A7 s_Lline) (A3 s_Lline) .none kV_Lline dc_Lline pm_Lline an_Lline cd_Lline ct_Lline), sl_Lline⟩)
    (c_Lline : PySem.W.codeIn K cd_Lline "_law_line" = true)
    (k_Lline : PySem.W.keepIn K (.ref a_Lline) = true)
    (g_Lcrossings : PySem.W.nsIn K mainGlobals "_law_crossings" = some (some (.ref a_Lcrossings)))
    (l_Lcrossings : K.lookup a_Lcrossings = some ⟨oc_Lcrossings, od_Lcrossings, .func (PySem.W.fnOf "_law_crossings" "_law_crossings" (A8 s_Lcrossings) (A7 s_Lcrossings) (A3 s_Lcrossings) .none kV_Lcrossings dc_Lcrossings pm_Lcrossings an_Lcrossings cd_Lcrossings ct_Lcrossings), sl_Lcrossings⟩)
    (c_Lcrossings : PySem.W.codeIn K cd_Lcrossings "_law_crossings" = true)
    (k_Lcrossings : PySem.W.keepIn K (.ref a_Lcrossings) = true)
    (g_Lspots : PySem.W.nsIn K mainGlobals "_law_spots" = some (some (.ref a_Lspots)))
    (l_Lspots : K.lookup a_Lspots = some ⟨oc_Lspots, od_Lspots, .func (PySem.W.fnOf "_law_spots" "_law_spots" (A8 s_Lspots) (A7 s_Lspots) (A3 s_Lspots) .none kV_Lspots dc_Lspots pm_Lspots an_Lspots cd_Lspots ct_Lspots), sl_Lspots⟩)
    (c_Lspots : PySem.W.codeIn K cd_Lspots "_law_spots" = true)
    (k_Lspots : PySem.W.keepIn K (.ref a_Lspots) = true)
    (g_Linform : PySem.W.nsIn K mainGlobals "_law_in_form" = some (some (.ref a_Linform)))
    (l_Linform : K.lookup a_Linform = some ⟨oc_Linform, od_Linform, .func (PySem.W.fnOf "_law_in_form" "_law_in_form" (A8 s_Linform) (A7 s_Linform) (A3 s_Linform) .none kV_Linform dc_Linform pm_Linform an_Linform cd_Linform ct_Linform), sl_Linform⟩)
    (c_Linform : PySem.W.codeIn K cd_Linform "_law_in_form" = true)
    (k_Linform : PySem.W.keepIn K (.ref a_Linform) = true)
    (g_Lright : PySem.W.nsIn K mainGlobals "_law_right" = some (some (.ref a_Lright)))
    (l_Lright : K.lookup a_Lright = some ⟨oc_Lright, od_Lright, .func (PySem.W.fnOf "_law_right" "_law_right" (A8 s_Lright) (A7 s_Lright) (A3 s_Lright) .none kV_Lright dc_Lright pm_Lright an_Lright cd_Lright ct_Lright), sl_Lright⟩)
    (c_Lright : PySem.W.codeIn K cd_Lright "_law_right" = true)
    (k_Lright : PySem.W.keepIn K (.ref a_Lright) = true)
    (g_law : PySem.W.nsIn K mainGlobals "law" = some (some (.ref a_law)))
    (l_law : K.lookup a_law = some ⟨oc_law, od_law, .func (PySem.W.fnOf "law" "law" (A8 s_law) (A7 s_law) (A3 s_law) .none kV_law dc_law pm_law an_law cd_law ct_law), sl_law⟩)
    (c_law : PySem.W.codeIn K cd_law "law" = true)
    (k_law : PySem.W.keepIn K (.ref a_law) = true)
    (gc_NOUGHT : PySem.W.nsIn K mainGlobals "NOUGHT" = some (some (.ref q_NOUGHT)))
    (gc_HALF : PySem.W.nsIn K mainGlobals "HALF" = some (some (.ref q_HALF)))
    (gc_ONE : PySem.W.nsIn K mainGlobals "ONE" = some (some (.ref q_ONE)))
    (z_abs : PySem.W.nsIn K mainGlobals "abs" = some none)
    (z_int : PySem.W.nsIn K mainGlobals "int" = some none)
    (z_isinstance : PySem.W.nsIn K mainGlobals "isinstance" = some none)
    (z_len : PySem.W.nsIn K mainGlobals "len" = some none)
    (z_list : PySem.W.nsIn K mainGlobals "list" = some none)
    (z_max : PySem.W.nsIn K mainGlobals "max" = some none)
    (z_min : PySem.W.nsIn K mainGlobals "min" = some none)
    (z_range : PySem.W.nsIn K mainGlobals "range" = some none)
    (z_tuple : PySem.W.nsIn K mainGlobals "tuple" = some none)
    (z_zip : PySem.W.nsIn K mainGlobals "zip" = some none)
    (lq_NOUGHT : K.lookup q_NOUGHT = some ⟨.type "tuple", od_NOUGHT, .seq its_NOUGHT n_NOUGHT, sl_NOUGHT⟩)
    (vq_NOUGHT : its_NOUGHT = #[Value.int 0 t0_NOUGHT, Value.int 1 t1_NOUGHT])
    (lq_HALF : K.lookup q_HALF = some ⟨.type "tuple", od_HALF, .seq its_HALF n_HALF, sl_HALF⟩)
    (vq_HALF : its_HALF = #[Value.int 1 t0_HALF, Value.int 2 t1_HALF])
    (lq_ONE : K.lookup q_ONE = some ⟨.type "tuple", od_ONE, .seq its_ONE n_ONE, sl_ONE⟩)
    (vq_ONE : its_ONE = #[Value.int 1 t0_ONE, Value.int 1 t1_ONE])
    : ∃ fd : FuncData, (∀ (s : Shared) (v : Value), BindsTo s fd ⟨[v], []⟩ [("_law_script", v)]) /\ ∀ base : Heap, K.In base -> base.Ns mainGlobals mg -> FnOk l.prog w K mg base CX0 11 fa fd ["_law_script"] (sp_law K) := by
  have e := hfa.symm.trans (PySem.W.mg_of X G g_law)
  cases e
  have T : Txt K mg ⟨a_commonpart, PySem.W.fnOf "common_part" "common_part" (A8 s_commonpart) (A7 s_commonpart) (A3 s_commonpart) .none kV_commonpart dc_commonpart pm_commonpart an_commonpart cd_commonpart ct_commonpart, a_plus, PySem.W.fnOf "plus" "plus" (A8 s_plus) (A7 s_plus) (A3 s_plus) .none kV_plus dc_plus pm_plus an_plus cd_plus ct_plus, a_minus, PySem.W.fnOf "minus" "minus" (A8 s_minus) (A7 s_minus) (A3 s_minus) .none kV_minus dc_minus pm_minus an_minus cd_minus ct_minus, a_product, PySem.W.fnOf "product" "product" (A8 s_product) (A7 s_product) (A3 s_product) .none kV_product dc_product pm_product an_product cd_product ct_product, a_parted, PySem.W.fnOf "parted" "parted" (A8 s_parted) (A7 s_parted) (A3 s_parted) .none kV_parted dc_parted pm_parted an_parted cd_parted ct_parted, a_isless, PySem.W.fnOf "is_less" "is_less" (A8 s_isless) (A7 s_isless) (A3 s_isless) .none kV_isless dc_isless pm_isless an_isless cd_isless ct_isless, a_between, PySem.W.fnOf "between" "between" (A8 s_between) (A7 s_between) (A3 s_between) .none kV_between dc_between pm_between an_between cd_between ct_between, a_sharebetween, PySem.W.fnOf "share_between" "share_between" (A8 s_sharebetween) (A7 s_sharebetween) (A3 s_sharebetween) .none kV_sharebetween dc_sharebetween pm_sharebetween an_sharebetween cd_sharebetween ct_sharebetween, a_pieceat, PySem.W.fnOf "piece_at" "piece_at" (A8 s_pieceat) (A7 s_pieceat) (A3 s_pieceat) .none kV_pieceat dc_pieceat pm_pieceat an_pieceat cd_pieceat ct_pieceat, a_priceat, PySem.W.fnOf "price_at" "price_at" (A8 s_priceat) (A7 s_priceat) (A3 s_priceat) .none kV_priceat dc_priceat pm_priceat an_priceat cd_priceat ct_priceat, a_mergedwholes, PySem.W.fnOf "merged_wholes" "merged_wholes" (A8 s_mergedwholes) (A7 s_mergedwholes) (A3 s_mergedwholes) .none kV_mergedwholes dc_mergedwholes pm_mergedwholes an_mergedwholes cd_mergedwholes ct_mergedwholes, a_wordat, PySem.W.fnOf "word_at" "word_at" (A8 s_wordat) (A7 s_wordat) (A3 s_wordat) .none kV_wordat dc_wordat pm_wordat an_wordat cd_wordat ct_wordat, a_crossingbetween, PySem.W.fnOf "crossing_between" "crossing_between" (A8 s_crossingbetween) (A7 s_crossingbetween) (A3 s_crossingbetween) .none kV_crossingbetween dc_crossingbetween pm_crossingbetween an_crossingbetween cd_crossingbetween ct_crossingbetween, a_turningwholes, PySem.W.fnOf "turning_wholes" "turning_wholes" (A8 s_turningwholes) (A7 s_turningwholes) (A3 s_turningwholes) .none kV_turningwholes dc_turningwholes pm_turningwholes an_turningwholes cd_turningwholes ct_turningwholes, a_sidebyside, PySem.W.fnOf "side_by_side" "side_by_side" (A8 s_sidebyside) (A7 s_sidebyside) (A3 s_sidebyside) .none kV_sidebyside dc_sidebyside pm_sidebyside an_sidebyside cd_sidebyside ct_sidebyside, a_Lbegun, PySem.W.fnOf "_law_begun" "_law_begun" (A8 s_Lbegun) (A7 s_Lbegun) (A3 s_Lbegun) .none kV_Lbegun dc_Lbegun pm_Lbegun an_Lbegun cd_Lbegun ct_Lbegun, a_Ltake, PySem.W.fnOf "_law_take" "_law_take" (A8 s_Ltake) (A7 s_Ltake) (A3 s_Ltake) .none kV_Ltake dc_Ltake pm_Ltake an_Ltake cd_Ltake ct_Ltake, a_Llow, PySem.W.fnOf "_law_low" "_law_low" (A8 s_Llow) (A7 s_Llow) (A3 s_Llow) .none kV_Llow dc_Llow pm_Llow an_Llow cd_Llow ct_Llow, a_Lplus, PySem.W.fnOf "_law_plus" "_law_plus" (A8 s_Lplus) (A7 s_Lplus) (A3 s_Lplus) .none kV_Lplus dc_Lplus pm_Lplus an_Lplus cd_Lplus ct_Lplus, a_Lminus, PySem.W.fnOf "_law_minus" "_law_minus" (A8 s_Lminus) (A7 s_Lminus) (A3 s_Lminus) .none kV_Lminus dc_Lminus pm_Lminus an_Lminus cd_Lminus ct_Lminus, a_Ltimes, PySem.W.fnOf "_law_times" "_law_times" (A8 s_Ltimes) (A7 s_Ltimes) (A3 s_Ltimes) .none kV_Ltimes dc_Ltimes pm_Ltimes an_Ltimes cd_Ltimes ct_Ltimes, a_Lunder, PySem.W.fnOf "_law_under" "_law_under" (A8 s_Lunder) (A7 s_Lunder) (A3 s_Lunder) .none kV_Lunder dc_Lunder pm_Lunder an_Lunder cd_Lunder ct_Lunder, a_Lamount, PySem.W.fnOf "_law_amount" "_law_amount" (A8 s_Lamount) (A7 s_Lamount) (A3 s_Lamount) .none kV_Lamount dc_Lamount pm_Lamount an_Lamount cd_Lamount ct_Lamount, a_Lshape, PySem.W.fnOf "_law_shape" "_law_shape" (A8 s_Lshape) (A7 s_Lshape) (A3 s_Lshape) .none kV_Lshape dc_Lshape pm_Lshape an_Lshape cd_Lshape ct_Lshape, a_Lparted, PySem.W.fnOf "_law_parted" "_law_parted" (A8 s_Lparted) (A7 s_Lparted) (A3 s_Lparted) .none kV_Lparted dc_Lparted pm_Lparted an_Lparted cd_Lparted ct_Lparted, a_Lfall, PySem.W.fnOf "_law_fall" "_law_fall" (A8 s_Lfall) (A7 s_Lfall) (A3 s_Lfall) .none kV_Lfall dc_Lfall pm_Lfall an_Lfall cd_Lfall ct_Lfall, a_Lprice, PySem.W.fnOf "_law_price" "_law_price" (A8 s_Lprice) (A7 s_Lprice) (A3 s_Lprice) .none kV_Lprice dc_Lprice pm_Lprice an_Lprice cd_Lprice ct_Lprice, a_Lword, PySem.W.fnOf "_law_word" "_law_word" (A8 s_Lword) (A7 s_Lword) (A3 s_Lword) .none kV_Lword dc_Lword pm_Lword an_Lword cd_Lword ct_Lword, a_Ltoldword, PySem.W.fnOf "_law_told_word" "_law_told_word" (A8 s_Ltoldword) (A7 s_Ltoldword) (A3 s_Ltoldword) .none kV_Ltoldword dc_Ltoldword pm_Ltoldword an_Ltoldword cd_Ltoldword ct_Ltoldword, a_Lahead, PySem.W.fnOf "_law_ahead" "_law_ahead" (A8 s_Lahead) (A7 s_Lahead) (A3 s_Lahead) .none kV_Lahead dc_Lahead pm_Lahead an_Lahead cd_Lahead ct_Lahead, a_Lline, PySem.W.fnOf "_law_line" "_law_line" (A8 s_Lline) (A7 s_Lline) (A3 s_Lline) .none kV_Lline dc_Lline pm_Lline an_Lline cd_Lline ct_Lline, a_Lcrossings, PySem.W.fnOf "_law_crossings" "_law_crossings" (A8 s_Lcrossings) (A7 s_Lcrossings) (A3 s_Lcrossings) .none kV_Lcrossings dc_Lcrossings pm_Lcrossings an_Lcrossings cd_Lcrossings ct_Lcrossings, a_Lspots, PySem.W.fnOf "_law_spots" "_law_spots" (A8 s_Lspots) (A7 s_Lspots) (A3 s_Lspots) .none kV_Lspots dc_Lspots pm_Lspots an_Lspots cd_Lspots ct_Lspots, a_Linform, PySem.W.fnOf "_law_in_form" "_law_in_form" (A8 s_Linform) (A7 s_Linform) (A3 s_Linform) .none kV_Linform dc_Linform pm_Linform an_Linform cd_Linform ct_Linform, a_Lright, PySem.W.fnOf "_law_right" "_law_right" (A8 s_Lright) (A7 s_Lright) (A3 s_Lright) .none kV_Lright dc_Lright pm_Lright an_Lright cd_Lright ct_Lright, fa, PySem.W.fnOf "law" "law" (A8 s_law) (A7 s_law) (A3 s_law) .none kV_law dc_law pm_law an_law cd_law ct_law, q_NOUGHT, q_HALF, q_ONE⟩ := ⟨C8 (st := s_commonpart) l_commonpart c_commonpart k_commonpart, PySem.W.mg_of X G g_commonpart, C8 (st := s_plus) l_plus c_plus k_plus, PySem.W.mg_of X G g_plus, C8 (st := s_minus) l_minus c_minus k_minus, PySem.W.mg_of X G g_minus, C8 (st := s_product) l_product c_product k_product, PySem.W.mg_of X G g_product, C8 (st := s_parted) l_parted c_parted k_parted, PySem.W.mg_of X G g_parted, C8 (st := s_isless) l_isless c_isless k_isless, PySem.W.mg_of X G g_isless, C8 (st := s_between) l_between c_between k_between, PySem.W.mg_of X G g_between, C8 (st := s_sharebetween) l_sharebetween c_sharebetween k_sharebetween, PySem.W.mg_of X G g_sharebetween, C8 (st := s_pieceat) l_pieceat c_pieceat k_pieceat, PySem.W.mg_of X G g_pieceat, C8 (st := s_priceat) l_priceat c_priceat k_priceat, PySem.W.mg_of X G g_priceat, C8 (st := s_mergedwholes) l_mergedwholes c_mergedwholes k_mergedwholes, PySem.W.mg_of X G g_mergedwholes, C8 (st := s_wordat) l_wordat c_wordat k_wordat, PySem.W.mg_of X G g_wordat, C8 (st := s_crossingbetween) l_crossingbetween c_crossingbetween k_crossingbetween, PySem.W.mg_of X G g_crossingbetween, C8 (st := s_turningwholes) l_turningwholes c_turningwholes k_turningwholes, PySem.W.mg_of X G g_turningwholes, C8 (st := s_sidebyside) l_sidebyside c_sidebyside k_sidebyside, PySem.W.mg_of X G g_sidebyside, C8 (st := s_Lbegun) l_Lbegun c_Lbegun k_Lbegun, PySem.W.mg_of X G g_Lbegun, C8 (st := s_Ltake) l_Ltake c_Ltake k_Ltake, PySem.W.mg_of X G g_Ltake, C8 (st := s_Llow) l_Llow c_Llow k_Llow, PySem.W.mg_of X G g_Llow, C8 (st := s_Lplus) l_Lplus c_Lplus k_Lplus, PySem.W.mg_of X G g_Lplus, C8 (st := s_Lminus) l_Lminus c_Lminus k_Lminus, PySem.W.mg_of X G g_Lminus, C8 (st := s_Ltimes) l_Ltimes c_Ltimes k_Ltimes, PySem.W.mg_of X G g_Ltimes, C8 (st := s_Lunder) l_Lunder c_Lunder k_Lunder, PySem.W.mg_of X G g_Lunder, C8 (st := s_Lamount) l_Lamount c_Lamount k_Lamount, PySem.W.mg_of X G g_Lamount, C8 (st := s_Lshape) l_Lshape c_Lshape k_Lshape, PySem.W.mg_of X G g_Lshape, C8 (st := s_Lparted) l_Lparted c_Lparted k_Lparted, PySem.W.mg_of X G g_Lparted, C8 (st := s_Lfall) l_Lfall c_Lfall k_Lfall, PySem.W.mg_of X G g_Lfall, C8 (st := s_Lprice) l_Lprice c_Lprice k_Lprice, PySem.W.mg_of X G g_Lprice, C8 (st := s_Lword) l_Lword c_Lword k_Lword, PySem.W.mg_of X G g_Lword, C8 (st := s_Ltoldword) l_Ltoldword c_Ltoldword k_Ltoldword, PySem.W.mg_of X G g_Ltoldword, C8 (st := s_Lahead) l_Lahead c_Lahead k_Lahead, PySem.W.mg_of X G g_Lahead, C8 (st := s_Lline) l_Lline c_Lline k_Lline, PySem.W.mg_of X G g_Lline, C8 (st := s_Lcrossings) l_Lcrossings c_Lcrossings k_Lcrossings, PySem.W.mg_of X G g_Lcrossings, C8 (st := s_Lspots) l_Lspots c_Lspots k_Lspots, PySem.W.mg_of X G g_Lspots, C8 (st := s_Linform) l_Linform c_Linform k_Linform, PySem.W.mg_of X G g_Linform, C8 (st := s_Lright) l_Lright c_Lright k_Lright, PySem.W.mg_of X G g_Lright, C8 (st := s_law) l_law c_law k_law, PySem.W.mg_of X G g_law, PySem.W.mg_of X G gc_NOUGHT, PySem.W.mg_of X G gc_HALF, PySem.W.mg_of X G gc_ONE, PySem.W.mg_none_of X G z_abs, PySem.W.mg_none_of X G z_int, PySem.W.mg_none_of X G z_isinstance, PySem.W.mg_none_of X G z_len, PySem.W.mg_none_of X G z_list, PySem.W.mg_none_of X G z_max, PySem.W.mg_none_of X G z_min, PySem.W.mg_none_of X G z_range, PySem.W.mg_none_of X G z_tuple, PySem.W.mg_none_of X G z_zip, ⟨fun H => .tup (.inr ⟨_, its_NOUGHT, n_NOUGHT, lq_NOUGHT, rfl, rfl, by rw [vq_NOUGHT]; show 2 <= sizeLine; decide, by rw [vq_NOUGHT]; exact .cons ⟨_, rfl⟩ (.cons ⟨_, rfl⟩ .nil)⟩) (.cons (.int _) (.cons (.int _) .nil))⟩, ⟨fun H => .tup (.inr ⟨_, its_HALF, n_HALF, lq_HALF, rfl, rfl, by rw [vq_HALF]; show 2 <= sizeLine; decide, by rw [vq_HALF]; exact .cons ⟨_, rfl⟩ (.cons ⟨_, rfl⟩ .nil)⟩) (.cons (.int _) (.cons (.int _) .nil))⟩, ⟨fun H => .tup (.inr ⟨_, its_ONE, n_ONE, lq_ONE, rfl, rfl, by rw [vq_ONE]; show 2 <= sizeLine; decide, by rw [vq_ONE]; exact .cons ⟨_, rfl⟩ (.cons ⟨_, rfl⟩ .nil)⟩) (.cons (.int _) (.cons (.int _) .nil))⟩⟩
  exact ⟨PySem.W.fnOf "law" "law" (A8 s_law) (A7 s_law) (A3 s_law) .none kV_law dc_law pm_law an_law cd_law ct_law, fun s v => .of_eq rfl, fun base _ _ => B9a T⟩
theorem walk {l : PySem.W.OpenLaw} {q : Program} {loose : List Str} {XP : (Str -> Option Value) -> Heap -> Prop} {YP : World -> Heap -> Prop} {d : DefRec} {K : Params -> PySem.W.Frag} (hn : l.most = some 63) (hdf : d.params.defaults = [])
    (hY : ∀ (w : World) (h : Heap), YP w h -> (K w.params).In h)
    (F : ∀ (w : World) (mg : Str -> Option Value) (fa : Addr) (h : Heap), (K w.params).In h -> h.Ns mainGlobals mg -> mg d.name = some (.ref fa) ->
      ∃ fd : FuncData, (∀ (s : Shared) (u : Value), BindsTo s fd ⟨[u], []⟩ [("_law_script", u)]) /\ ∀ base : Heap, (K w.params).In base -> base.Ns mainGlobals mg -> FnOk l.prog w (K w.params) mg base CX0 11 fa fd ["_law_script"] (sp_law (K w.params))) :
    PySem.W.WalkO q loose XP YP l.row.toRowW d [] (fun f vs => PySem.call f vs) :=
  L2.B4q (n := 63) (k := 11) (x := "_law_script") (CX := fun _ => CX0) (sp := fun w => sp_law (K w.params)) hn (by decide) hdf ⟨rfl, rfl, by decide, by decide⟩ hY F (fun _ _ a ns hl _ hS => ⟨a, ns, rfl, hS, hl, fun _ => rfl⟩) fun _ _ _ _ _ z => z
end Prf
open PySem PySem.W PyProof.Rows
set_option maxRecDepth 100000 in
set_option maxHeartbeats 0 in
theorem PySem.Challenge.cw_hurryprice_k52_side_by_side_holds : PySem.Challenge.rw_hurryprice_k52_side_by_side.Holds := by
  refine holds_law Prf.said fun ws => ?_
  refine holds_open (q := Prf.qq) (loose := []) (Xt := Prf.xt) (XP := XL Prf.qq []) (Yf := Prf.hh.obs)
    (Ya := Prf.hh.val) (YP := Prf.hh.says) (N := 3320) Prf.left Prf.hh.of Prf.hh.keeps
    (fun s e => xl_of s (Bool.and_eq_true_iff.mp e).1) XL.keeps
    (by rfl) (by rfl) (by rfl) (fun s e => recFacts_of (Bool.and_eq_true_iff.mp e).2)
    (by rfl) ws (by decide +kernel)
    ⟨rfl, rfl, rfl, rfl, rfl, by decide +kernel⟩ ?hw ?hc
  case hw => w_witness2
  refine Prf.walk (l := PySem.Challenge.rw_hurryprice_k52_side_by_side) (K := Prf.kk) rfl rfl (fun w h Y => PySem.W.kIn_of Y) ?F
  case F =>
    intro w mg fa h KX G hmg
    k_fill
    refine' Prf.all_mk KX G hmg ?g_commonpart ?l_commonpart ?c_commonpart ?k_commonpart ?g_plus ?l_plus ?c_plus ?k_plus ?g_minus ?l_minus ?c_minus ?k_minus ?g_product ?l_product ?c_product ?k_product ?g_parted ?l_parted ?c_parted ?k_parted ?g_isless ?l_isless ?c_isless ?k_isless ?g_between ?l_between ?c_between ?k_between ?g_sharebetween ?l_sharebetween ?c_sharebetween ?k_sharebetween ?g_pieceat ?l_pieceat ?c_pieceat ?k_pieceat ?g_priceat ?l_priceat ?c_priceat ?k_priceat ?g_mergedwholes ?l_mergedwholes ?c_mergedwholes ?k_mergedwholes ?g_wordat ?l_wordat ?c_wordat ?k_wordat ?g_crossingbetween ?l_crossingbetween ?c_crossingbetween ?k_crossingbetween ?g_turningwholes ?l_turningwholes ?c_turningwholes ?k_turningwholes ?g_sidebyside ?l_sidebyside ?c_sidebyside ?k_sidebyside ?g_Lbegun ?l_Lbegun ?c_Lbegun ?k_Lbegun ?g_Ltake ?l_Ltake ?c_Ltake ?k_Ltake ?g_Llow ?l_Llow ?c_Llow ?k_Llow ?g_Lplus ?l_Lplus ?c_Lplus ?k_Lplus ?g_Lminus ?l_Lminus ?c_Lminus ?k_Lminus ?g_Ltimes ?l_Ltimes ?c_Ltimes ?k_Ltimes ?g_Lunder ?l_Lunder ?c_Lunder ?k_Lunder ?g_Lamount ?l_Lamount ?c_Lamount ?k_Lamount ?g_Lshape ?l_Lshape ?c_Lshape ?k_Lshape ?g_Lparted ?l_Lparted ?c_Lparted ?k_Lparted ?g_Lfall ?l_Lfall ?c_Lfall ?k_Lfall ?g_Lprice ?l_Lprice ?c_Lprice ?k_Lprice ?g_Lword ?l_Lword ?c_Lword ?k_Lword ?g_Ltoldword ?l_Ltoldword ?c_Ltoldword ?k_Ltoldword ?g_Lahead ?l_Lahead ?c_Lahead ?k_Lahead ?g_Lline ?l_Lline ?c_Lline ?k_Lline ?g_Lcrossings ?l_Lcrossings ?c_Lcrossings ?k_Lcrossings ?g_Lspots ?l_Lspots ?c_Lspots ?k_Lspots ?g_Linform ?l_Linform ?c_Linform ?k_Linform ?g_Lright ?l_Lright ?c_Lright ?k_Lright ?g_law ?l_law ?c_law ?k_law ?gc_NOUGHT ?gc_HALF ?gc_ONE ?z_abs ?z_int ?z_isinstance ?z_len ?z_list ?z_max ?z_min ?z_range ?z_tuple ?z_zip ?lq_NOUGHT ?vq_NOUGHT ?lq_HALF ?vq_HALF ?lq_ONE ?vq_ONE
    (case g_commonpart => k_is)
    (case l_commonpart => k_is)
    (case c_commonpart => k_is)
    (case k_commonpart => k_is)
    (case g_plus => k_is)
    (case l_plus => k_is)
    (case c_plus => k_is)
    (case k_plus => k_is)
    (case g_minus => k_is)
    (case l_minus => k_is)
    (case c_minus => k_is)
    (case k_minus => k_is)
    (case g_product => k_is)
    (case l_product => k_is)
    (case c_product => k_is)
    (case k_product => k_is)
    (case g_parted => k_is)
    (case l_parted => k_is)
    (case c_parted => k_is)
    (case k_parted => k_is)
    (case g_isless => k_is)
    (case l_isless => k_is)
    (case c_isless => k_is)
    (case k_isless => k_is)
    (case g_between => k_is)
    (case l_between => k_is)
    (case c_between => k_is)
    (case k_between => k_is)
    (case g_sharebetween => k_is)
    (case l_sharebetween => k_is)
    (case c_sharebetween => k_is)
    (case k_sharebetween => k_is)
    (case g_pieceat => k_is)
    (case l_pieceat => k_is)
    (case c_pieceat => k_is)
    (case k_pieceat => k_is)
    (case g_priceat => k_is)
    (case l_priceat => k_is)
    (case c_priceat => k_is)
    (case k_priceat => k_is)
    (case g_mergedwholes => k_is)
    (case l_mergedwholes => k_is)
    (case c_mergedwholes => k_is)
    (case k_mergedwholes => k_is)
    (case g_wordat => k_is)
    (case l_wordat => k_is)
    (case c_wordat => k_is)
    (case k_wordat => k_is)
    (case g_crossingbetween => k_is)
    (case l_crossingbetween => k_is)
    (case c_crossingbetween => k_is)
    (case k_crossingbetween => k_is)
    (case g_turningwholes => k_is)
    (case l_turningwholes => k_is)
    (case c_turningwholes => k_is)
    (case k_turningwholes => k_is)
    (case g_sidebyside => k_is)
    (case l_sidebyside => k_is)
    (case c_sidebyside => k_is)
    (case k_sidebyside => k_is)
    (case g_Lbegun => k_is)
    (case l_Lbegun => k_is)
    (case c_Lbegun => k_is)
    (case k_Lbegun => k_is)
    (case g_Ltake => k_is)
    (case l_Ltake => k_is)
    (case c_Ltake => k_is)
    (case k_Ltake => k_is)
    (case g_Llow => k_is)
    (case l_Llow => k_is)
    (case c_Llow => k_is)
    (case k_Llow => k_is)
    (case g_Lplus => k_is)
    (case l_Lplus => k_is)
    (case c_Lplus => k_is)
    (case k_Lplus => k_is)
    (case g_Lminus => k_is)
    (case l_Lminus => k_is)
    (case c_Lminus => k_is)
    (case k_Lminus => k_is)
    (case g_Ltimes => k_is)
    (case l_Ltimes => k_is)
    (case c_Ltimes => k_is)
    (case k_Ltimes => k_is)
    (case g_Lunder => k_is)
    (case l_Lunder => k_is)
    (case c_Lunder => k_is)
    (case k_Lunder => k_is)
    (case g_Lamount => k_is)
    (case l_Lamount => k_is)
    (case c_Lamount => k_is)
    (case k_Lamount => k_is)
    (case g_Lshape => k_is)
    (case l_Lshape => k_is)
    (case c_Lshape => k_is)
    (case k_Lshape => k_is)
    (case g_Lparted => k_is)
    (case l_Lparted => k_is)
    (case c_Lparted => k_is)
    (case k_Lparted => k_is)
    (case g_Lfall => k_is)
    (case l_Lfall => k_is)
    (case c_Lfall => k_is)
    (case k_Lfall => k_is)
    (case g_Lprice => k_is)
    (case l_Lprice => k_is)
    (case c_Lprice => k_is)
    (case k_Lprice => k_is)
    (case g_Lword => k_is)
    (case l_Lword => k_is)
    (case c_Lword => k_is)
    (case k_Lword => k_is)
    (case g_Ltoldword => k_is)
    (case l_Ltoldword => k_is)
    (case c_Ltoldword => k_is)
    (case k_Ltoldword => k_is)
    (case g_Lahead => k_is)
    (case l_Lahead => k_is)
    (case c_Lahead => k_is)
    (case k_Lahead => k_is)
    (case g_Lline => k_is)
    (case l_Lline => k_is)
    (case c_Lline => k_is)
    (case k_Lline => k_is)
    (case g_Lcrossings => k_is)
    (case l_Lcrossings => k_is)
    (case c_Lcrossings => k_is)
    (case k_Lcrossings => k_is)
    (case g_Lspots => k_is)
    (case l_Lspots => k_is)
    (case c_Lspots => k_is)
    (case k_Lspots => k_is)
    (case g_Linform => k_is)
    (case l_Linform => k_is)
    (case c_Linform => k_is)
    (case k_Linform => k_is)
    (case g_Lright => k_is)
    (case l_Lright => k_is)
    (case c_Lright => k_is)
    (case k_Lright => k_is)
    (case g_law => k_is)
    (case l_law => k_is)
    (case c_law => k_is)
    (case k_law => k_is)
    (case gc_NOUGHT => k_is)
    (case gc_HALF => k_is)
    (case gc_ONE => k_is)
    (case z_abs => k_is)
    (case z_int => k_is)
    (case z_isinstance => k_is)
    (case z_len => k_is)
    (case z_list => k_is)
    (case z_max => k_is)
    (case z_min => k_is)
    (case z_range => k_is)
    (case z_tuple => k_is)
    (case z_zip => k_is)
    (case lq_NOUGHT => k_is)
    (case vq_NOUGHT => exact rfl)
    (case lq_HALF => k_is)
    (case vq_HALF => exact rfl)
    (case lq_ONE => k_is)
    (case vq_ONE => exact rfl)
