import PyProof.Rows.All
import Wide.All
import OpenK.AllK
import Wide.FinOn
import Lean
import PyProof.EqAt
import PyProof.EqKinds
import PyProof.TupleCall
import PySem.Challenge.RW_hurryprice_k55_shapes_joined
set_option Elab.async false
set_option linter.all false
set_option maxRecDepth 100000
set_option maxHeartbeats 4000000
namespace L2
open PySem PySem.Spec PyProof.Rows
def A9 (s : Stmt) : Arguments := match s with
  | .FunctionDef _ a _ _ _ _ _ _ _ _ => a
  | _ => { posonlyargs := [], args := [], vararg := none, kwonlyargs := [], kw_defaults := [], kwarg := none, defaults := [] }
def A8 (s : Stmt) : List Stmt := match s with
  | .FunctionDef _ _ b _ _ _ _ _ _ _ => b
  | _ => []
def A3 (s : Stmt) : Scope := match s with
  | .FunctionDef _ _ _ _ _ _ sc _ _ _ => sc
  | _ => { kind := .function, names := [], isGenerator := false, isCoroutine := false }
end L2
namespace L2
open PySem PySem.W PySem.Spec PyProof.Rows
def P0 (tb : String -> Option Builtin) (p : Program) (w : World) (m : Nat) (ann : Option Value) : Nat -> SharedT -> Thread -> Option SharedT
  | 0, _, _ => none
  | n + 1, s, t => match through t with
    | true => some s
    | false => match stepOk m ann t with
      | false => none
      | true => match stepT (denote tb) p w s t with
        | some x => P0 tb p w m ann n x.1 x.2
        | none => none
theorem X1 {tb : String -> Option Builtin} {p : Program} {w : World} {m : Nat} {ann : Option Value} : ∀ (n : Nat) (s r : SharedT) (t : Thread), P0 tb p w m ann n s t = some r -> topRun tb p w m ann n s.abs t = some r.abs
  | 0, _, _, _, h => by cases h
  | n + 1, s, r, t, h => by
    unfold P0 at h
    unfold topRun
    cases a : through t with
    | true => rw [a] at h; cases h; rfl
    | false =>
      rw [a] at h
      cases b : stepOk m ann t with
      | false => rw [b] at h; cases h
      | true =>
        rw [b] at h
        cases c : stepT (denote tb) p w s t with
        | none => rw [c] at h; cases h
        | some x =>
          rw [c] at h
          rw [stepT_spec (s' := x.1) (t' := x.2) c]
          exact X1 n x.1 r x.2 h
def mkT (os : List Obj) : Nat -> Nat -> Nat -> BT
  | 0, _, _ => .nil
  | k + 1, a, b => match os[b]? with
    | some o => .node o (mkT os k (2 * a) (a + b)) (mkT os k (2 * a) (2 * a + b))
    | none => .nil
noncomputable def A5h (w : World) (os : OsState) : Shared := ⟨boot_heap w.params, Array.mk [], boot_drawn, boot_toks, os⟩
noncomputable def B1k (w : World) (os : OsState) : SharedT := ⟨mkT (boot_heap w.params).objs.toList 12 1 0, (boot_heap w.params).objs.size, (boot_heap w.params).life, Array.mk [], boot_drawn, boot_toks, os⟩
theorem B1j (w : World) (os : OsState) : (B1k w os).abs = A5h w os := by kernel_rfl
theorem B6i (w : World) (os : OsState) : ((A5h w os).heap.isNs mainGlobals && (A5h w os).gens.size == 0) = true := by kernel_rfl
theorem C0l {p q : Program} {loose : List Str} {Xt : Shared -> Bool} {α : Type} {Yf : Shared -> α} {Ya : World -> α} {N : Nat} (ho : opening p = plainProg p.main.scope.names) (hN : Nat.ble 600 N = true) (hf : ∀ s, fenceModules? p s = some s)
    (run : ∀ (w : World) (os : OsState), (P0 treeTable p w (boot_heap w.params).objs.size ((boot_heap w.params).nsMap mainGlobals "__annotations__") N (B1k w os) (topStub p)).map
      (fun x => (staticsOk (importedModules p.main.body) (boot_heap w.params) x.abs.heap && namesBound p x.abs.heap && gensDone x.abs && laidKept (boot_heap w.params) x.abs.heap, openSeen q loose (importedModules p.main.body) Xt true x.abs, Yf x.abs)) = some (true, openGood q loose, Ya w)) :
    LeftO p q loose Xt Yf Ya N := fun w => by
  obtain ⟨⟨h, gs, d, k, os⟩, e, z⟩ := Option.map_eq_some_iff.mp (boot_open ho hN hf w)
  obtain ⟨rfl, rfl, rfl, rfl⟩ : h = boot_heap w.params /\ gs = Array.mk [] /\ d = boot_drawn /\ k = boot_toks := by simpa using z
  obtain ⟨x, r, v⟩ := Option.map_eq_some_iff.mp (run w os)
  have r := X1 _ _ _ _ r
  rw [B1j] at r
  obtain ⟨v1, v2⟩ := Prod.mk.inj v
  obtain ⟨v2, v3⟩ := Prod.mk.inj v2
  show ((fencedOpening treeTable p w N).bind (topFrom treeTable p w N)).map _ = _
  rw [e]
  show (topFrom treeTable p w N (A5h w os)).map _ = _
  have t : topFrom treeTable p w N (A5h w os) = some x.abs := by
    unfold topFrom
    rw [B6i]
    show (topRun treeTable p w (boot_heap w.params).objs.size ((boot_heap w.params).nsMap mainGlobals "__annotations__") N (A5h w os) (topStub p)).bind _ = _
    rw [r]
    show (match staticsOk (importedModules p.main.body) (boot_heap w.params) x.abs.heap && namesBound p x.abs.heap && gensDone x.abs && laidKept (boot_heap w.params) x.abs.heap with | true => some x.abs | false => none) = _
    rw [v1]
  rw [t]
  show some (openSeen q loose (importedModules p.main.body) Xt true x.abs, Yf x.abs) = _
  rw [v2, v3]
noncomputable abbrev ranT (p : Program) (N : Nat) (w : World) (os : OsState) : Option SharedT := P0 treeTable p w (boot_heap w.params).objs.size ((boot_heap w.params).nsMap mainGlobals "__annotations__") N (B1k w os) (topStub p)
theorem B82 {p q : Program} {loose : List Str} {Xt : Shared -> Bool} {α : Type} {Yf : Shared -> α} {Ya : World -> α} {N : Nat} (ho : opening p = plainProg p.main.scope.names) (hN : Nat.ble 600 N = true) (hf : ∀ s, fenceModules? p s = some s)
    (a : ∀ (w : World) (os : OsState), (ranT p N w os).map (fun x => staticsOk (importedModules p.main.body) (boot_heap w.params) x.abs.heap && namesBound p x.abs.heap && gensDone x.abs && laidKept (boot_heap w.params) x.abs.heap) = some true)
    (b : ∀ (w : World) (os : OsState), (ranT p N w os).map (fun x => openSeen q loose (importedModules p.main.body) Xt true x.abs) = some (openGood q loose))
    (c : ∀ (w : World) (os : OsState), (ranT p N w os).map (fun x => Yf x.abs) = some (Ya w)) : LeftO p q loose Xt Yf Ya N :=
  C0l ho hN hf fun w os => by
    obtain ⟨x, r, e⟩ := Option.map_eq_some_iff.mp (a w os)
    have r' : P0 treeTable p w (boot_heap w.params).objs.size ((boot_heap w.params).nsMap mainGlobals "__annotations__") N (B1k w os) (topStub p) = some x := r
    have f : openSeen q loose (importedModules p.main.body) Xt true x.abs = openGood q loose := by have z := b w os; rw [r] at z; exact Option.some.inj z
    have g : Yf x.abs = Ya w := by have z := c w os; rw [r] at z; exact Option.some.inj z
    rw [r']
    show some (_, _, _) = _
    rw [e, f, g]
theorem B81 {p q : Program} {loose : List Str} {Xt : Shared -> Bool} {α : Type} {Yf : Shared -> α} {Ya : World -> α} {N : Nat} (ho : opening p = plainProg p.main.scope.names) (hN : Nat.ble 600 N = true) (hf : ∀ s, fenceModules? p s = some s)
    (a : ∀ (w : World) (os : OsState), (ranT p N w os).map (fun x => staticsOk (importedModules p.main.body) (boot_heap w.params) x.abs.heap && namesBound p x.abs.heap && gensDone x.abs && laidKept (boot_heap w.params) x.abs.heap) = some true)
    (b : ∀ (w : World) (os : OsState), (ranT p N w os).map (fun x => (openSeen q loose (importedModules p.main.body) Xt true x.abs).1) = some (openGood q loose).1)
    (b' : ∀ (w : World) (os : OsState), (ranT p N w os).map (fun x => (openSeen q loose (importedModules p.main.body) Xt true x.abs).2) = some (openGood q loose).2)
    (c : ∀ (w : World) (os : OsState), (ranT p N w os).map (fun x => Yf x.abs) = some (Ya w)) : LeftO p q loose Xt Yf Ya N :=
  B82 ho hN hf a (fun w os => by
    obtain ⟨x, r, e⟩ := Option.map_eq_some_iff.mp (b w os)
    have z := b' w os
    rw [r] at z ⊢
    exact congrArg some (Prod.ext e (Option.some.inj z))) c
end L2
namespace Prf
open PySem L2
def top (i : Nat) : Stmt := PySem.Challenge.pw_hurryprice_k55_shapes_joined.main.body.getD i (.Pass ⟨0, 0, 0, 0⟩)
abbrev s_commonpart : Stmt := top 4
abbrev s_plus : Stmt := top 6
abbrev s_minus : Stmt := top 7
abbrev s_product : Stmt := top 8
abbrev s_parted : Stmt := top 9
abbrev s_isless : Stmt := top 10
abbrev s_larger : Stmt := top 11
abbrev s_between : Stmt := top 13
abbrev s_sharebetween : Stmt := top 14
abbrev s_pieceat : Stmt := top 16
abbrev s_priceat : Stmt := top 17
abbrev s_mergedwholes : Stmt := top 18
abbrev s_shapesbeside : Stmt := top 20
abbrev s_piecesof : Stmt := top 21
abbrev s_issteeper : Stmt := top 22
abbrev s_byfallingrates : Stmt := top 23
abbrev s_shapesbehind : Stmt := top 24
abbrev s_shapescaled : Stmt := top 25
abbrev s_Lbegun : Stmt := top 27
abbrev s_Ltake : Stmt := top 28
abbrev s_Llow : Stmt := top 29
abbrev s_Lplus : Stmt := top 30
abbrev s_Lminus : Stmt := top 31
abbrev s_Ltimes : Stmt := top 32
abbrev s_Lunder : Stmt := top 33
abbrev s_Lamount : Stmt := top 34
abbrev s_Lshape : Stmt := top 35
abbrev s_Lparted : Stmt := top 36
abbrev s_Lfall : Stmt := top 37
abbrev s_Lprice : Stmt := top 38
abbrev s_Lisshape : Stmt := top 39
abbrev s_Lspots : Stmt := top 40
abbrev s_Lbesideright : Stmt := top 41
abbrev s_Lpartedprice : Stmt := top 42
abbrev s_Lbehindright : Stmt := top 43
abbrev s_Lalltold : Stmt := top 44
abbrev s_law : Stmt := top 45
abbrev nE (P : Params) (x : Str) (t : Tok) (v : Value) : DictEntry := ⟨PyData.keyHash P x, .str x t, v⟩
noncomputable def kk : Params -> PySem.W.Frag := fun P =>
  (nat_lit 3, ⟨(.type "dict"), none, (.dict #[nE P "__name__" 165 (.str "law_hurryprice_k55_shapes_joined" 390), nE P "__doc__" 166 .none, nE P "__package__" 167 .none, nE P "__loader__" 168 (.builtin "__main__.__loader__#opaque"), nE P "__spec__" 169 .none, nE P "__annotations__" 170 (.ref 6), nE P "__builtins__" 171 (.ref 4), nE P "__file__" 173 (.str "/claim/cut.py" 172), nE P "__cached__" 174 .none, nE P "HurryError" 206 (.ref 24), nE P "NoNumber" 222 (.ref 37), nE P "common_part" 232 (.ref 46), nE P "plus" 247 (.ref 53), nE P "minus" 255 (.ref 60), nE P "product" 265 (.ref 67), nE P "parted" 275 (.ref 74), nE P "is_less" 283 (.ref 81), nE P "larger" 291 (.ref 88), nE P "between" 302 (.ref 95), nE P "share_between" 311 (.ref 102), nE P "piece_at" 319 (.ref 107), nE P "price_at" 328 (.ref 114), nE P "merged_wholes" 334 (.ref 119), nE P "shapes_beside" 342 (.ref 124), nE P "pieces_of" 348 (.ref 129), nE P "is_steeper" 356 (.ref 136), nE P "by_falling_rates" 369 (.ref 143), nE P "shapes_behind" 383 (.ref 150), nE P "shape_scaled" 389 (.ref 155), nE P "_law_begun" 400 (.ref 162), nE P "_law_take" 411 (.ref 169), nE P "_law_low" 421 (.ref 176), nE P "_law_plus" 429 (.ref 183), nE P "_law_minus" 437 (.ref 190), nE P "_law_times" 445 (.ref 197), nE P "_law_under" 453 (.ref 204), nE P "_law_amount" 464 (.ref 211), nE P "_law_shape" 470 (.ref 216), nE P "_law_parted" 478 (.ref 223), nE P "_law_fall" 486 (.ref 230), nE P "_law_price" 497 (.ref 237), nE P "_law_is_shape" 503 (.ref 242), nE P "_law_spots" 512 (.ref 249), nE P "_law_beside_right" 518 (.ref 254), nE P "_law_parted_price" 524 (.ref 259), nE P "_law_behind_right" 530 (.ref 264), nE P "_law_all_told" 541 (.ref 271), nE P "law" 547 (.ref 276)] 48), #[]⟩) ::
  (nat_lit 45, ⟨(.type "code"), none, (.fields #[(.str "common_part" 225), (.str "common_part" 226), (.str "/claim/cut.py" 227), (.int 7 0), (.int 2 0), (.int 0 0), (.int 0 0), (.int 3 0), (.ref 40), (.bool true), (.int 181 0), (.ref 41), .none, (.ref 42), (.ref 43), (.ref 44), (.int 230 0), (.int 7 0), (.str "/claim/cut.py" 231)]), #[]⟩) ::
  (nat_lit 46, ⟨(.type "function"), none, (.func (PySem.W.fnOf "common_part" "common_part" (A9 s_commonpart) (A8 s_commonpart) (A3 s_commonpart) .none .none .none (.str "hurryprice.names" 223) none (.ref 45) .none)), #[]⟩) ::
  (nat_lit 52, ⟨(.type "code"), none, (.fields #[(.str "plus" 235), (.str "plus" 236), (.str "/claim/cut.py" 237), (.int 13 0), (.int 2 0), (.int 0 0), (.int 0 0), (.int 3 0), (.ref 47), (.bool true), (.int 181 0), (.ref 48), .none, (.ref 49), (.ref 50), (.ref 51), (.int 245 0), (.int 13 0), (.str "/claim/cut.py" 246)]), #[]⟩) ::
  (nat_lit 53, ⟨(.type "function"), none, (.func (PySem.W.fnOf "plus" "plus" (A9 s_plus) (A8 s_plus) (A3 s_plus) .none .none .none (.str "hurryprice.ratios" 233) none (.ref 52) .none)), #[]⟩) ::
  (nat_lit 59, ⟨(.type "code"), none, (.fields #[(.str "minus" 248), (.str "minus" 249), (.str "/claim/cut.py" 250), (.int 19 0), (.int 2 0), (.int 0 0), (.int 0 0), (.int 3 0), (.ref 54), (.bool true), (.int 181 0), (.ref 55), .none, (.ref 56), (.ref 57), (.ref 58), (.int 253 0), (.int 19 0), (.str "/claim/cut.py" 254)]), #[]⟩) ::
  (nat_lit 60, ⟨(.type "function"), none, (.func (PySem.W.fnOf "minus" "minus" (A9 s_minus) (A8 s_minus) (A3 s_minus) .none .none .none (.str "hurryprice.ratios" 233) none (.ref 59) .none)), #[]⟩) ::
  (nat_lit 66, ⟨(.type "code"), none, (.fields #[(.str "product" 256), (.str "product" 257), (.str "/claim/cut.py" 258), (.int 21 0), (.int 2 0), (.int 0 0), (.int 0 0), (.int 3 0), (.ref 61), (.bool true), (.int 181 0), (.ref 62), .none, (.ref 63), (.ref 64), (.ref 65), (.int 263 0), (.int 21 0), (.str "/claim/cut.py" 264)]), #[]⟩) ::
  (nat_lit 67, ⟨(.type "function"), none, (.func (PySem.W.fnOf "product" "product" (A9 s_product) (A8 s_product) (A3 s_product) .none .none .none (.str "hurryprice.ratios" 233) none (.ref 66) .none)), #[]⟩) ::
  (nat_lit 73, ⟨(.type "code"), none, (.fields #[(.str "parted" 266), (.str "parted" 267), (.str "/claim/cut.py" 268), (.int 24 0), (.int 2 0), (.int 0 0), (.int 0 0), (.int 3 0), (.ref 68), (.bool true), (.int 181 0), (.ref 69), .none, (.ref 70), (.ref 71), (.ref 72), (.int 273 0), (.int 24 0), (.str "/claim/cut.py" 274)]), #[]⟩) ::
  (nat_lit 74, ⟨(.type "function"), none, (.func (PySem.W.fnOf "parted" "parted" (A9 s_parted) (A8 s_parted) (A3 s_parted) .none .none .none (.str "hurryprice.ratios" 233) none (.ref 73) .none)), #[]⟩) ::
  (nat_lit 80, ⟨(.type "code"), none, (.fields #[(.str "is_less" 276), (.str "is_less" 277), (.str "/claim/cut.py" 278), (.int 29 0), (.int 2 0), (.int 0 0), (.int 0 0), (.int 3 0), (.ref 75), (.bool true), (.int 181 0), (.ref 76), .none, (.ref 77), (.ref 78), (.ref 79), (.int 281 0), (.int 29 0), (.str "/claim/cut.py" 282)]), #[]⟩) ::
  (nat_lit 81, ⟨(.type "function"), none, (.func (PySem.W.fnOf "is_less" "is_less" (A9 s_isless) (A8 s_isless) (A3 s_isless) .none .none .none (.str "hurryprice.ratios" 233) none (.ref 80) .none)), #[]⟩) ::
  (nat_lit 87, ⟨(.type "code"), none, (.fields #[(.str "larger" 284), (.str "larger" 285), (.str "/claim/cut.py" 286), (.int 31 0), (.int 2 0), (.int 0 0), (.int 0 0), (.int 3 0), (.ref 82), (.bool true), (.int 181 0), (.ref 83), .none, (.ref 84), (.ref 85), (.ref 86), (.int 289 0), (.int 31 0), (.str "/claim/cut.py" 290)]), #[]⟩) ::
  (nat_lit 88, ⟨(.type "function"), none, (.func (PySem.W.fnOf "larger" "larger" (A9 s_larger) (A8 s_larger) (A3 s_larger) .none .none .none (.str "hurryprice.ratios" 233) none (.ref 87) .none)), #[]⟩) ::
  (nat_lit 94, ⟨(.type "code"), none, (.fields #[(.str "between" 294), (.str "between" 295), (.str "/claim/cut.py" 296), (.int 34 0), (.int 3 0), (.int 0 0), (.int 0 0), (.int 3 0), (.ref 89), (.bool true), (.int 181 0), (.ref 90), .none, (.ref 91), (.ref 92), (.ref 93), (.int 300 0), (.int 34 0), (.str "/claim/cut.py" 301)]), #[]⟩) ::
  (nat_lit 95, ⟨(.type "function"), none, (.func (PySem.W.fnOf "between" "between" (A9 s_between) (A8 s_between) (A3 s_between) .none .none .none (.str "hurryprice.plans" 292) none (.ref 94) .none)), #[]⟩) ::
  (nat_lit 101, ⟨(.type "code"), none, (.fields #[(.str "share_between" 303), (.str "share_between" 304), (.str "/claim/cut.py" 305), (.int 36 0), (.int 3 0), (.int 0 0), (.int 0 0), (.int 3 0), (.ref 96), (.bool true), (.int 181 0), (.ref 97), .none, (.ref 98), (.ref 99), (.ref 100), (.int 309 0), (.int 36 0), (.str "/claim/cut.py" 310)]), #[]⟩) ::
  (nat_lit 102, ⟨(.type "function"), none, (.func (PySem.W.fnOf "share_between" "share_between" (A9 s_sharebetween) (A8 s_sharebetween) (A3 s_sharebetween) .none .none .none (.str "hurryprice.plans" 292) none (.ref 101) .none)), #[]⟩) ::
  (nat_lit 106, ⟨(.type "code"), none, (.fields #[(.str "piece_at" 314), (.str "piece_at" 315), (.str "/claim/cut.py" 316), (.int 39 0), (.int 2 0), (.int 0 0), (.int 0 0), (.int 3 0), (.ref 103), (.bool true), (.int 181 0), (.ref 104), .none, .none, .none, (.ref 105), (.int 317 0), (.int 39 0), (.str "/claim/cut.py" 318)]), #[]⟩) ::
  (nat_lit 107, ⟨(.type "function"), none, (.func (PySem.W.fnOf "piece_at" "piece_at" (A9 s_pieceat) (A8 s_pieceat) (A3 s_pieceat) .none .none .none (.str "hurryprice.shapes" 312) none (.ref 106) .none)), #[]⟩) ::
  (nat_lit 113, ⟨(.type "code"), none, (.fields #[(.str "price_at" 320), (.str "price_at" 321), (.str "/claim/cut.py" 322), (.int 42 0), (.int 2 0), (.int 0 0), (.int 0 0), (.int 3 0), (.ref 108), (.bool true), (.int 181 0), (.ref 109), .none, (.ref 110), (.ref 111), (.ref 112), (.int 326 0), (.int 42 0), (.str "/claim/cut.py" 327)]), #[]⟩) ::
  (nat_lit 114, ⟨(.type "function"), none, (.func (PySem.W.fnOf "price_at" "price_at" (A9 s_priceat) (A8 s_priceat) (A3 s_priceat) .none .none .none (.str "hurryprice.shapes" 312) none (.ref 113) .none)), #[]⟩) ::
  (nat_lit 118, ⟨(.type "code"), none, (.fields #[(.str "merged_wholes" 329), (.str "merged_wholes" 330), (.str "/claim/cut.py" 331), (.int 49 0), (.int 2 0), (.int 0 0), (.int 0 0), (.int 3 0), (.ref 115), (.bool true), (.int 181 0), (.ref 116), .none, .none, .none, (.ref 117), (.int 332 0), (.int 49 0), (.str "/claim/cut.py" 333)]), #[]⟩) ::
  (nat_lit 119, ⟨(.type "function"), none, (.func (PySem.W.fnOf "merged_wholes" "merged_wholes" (A9 s_mergedwholes) (A8 s_mergedwholes) (A3 s_mergedwholes) .none .none .none (.str "hurryprice.shapes" 312) none (.ref 118) .none)), #[]⟩) ::
  (nat_lit 123, ⟨(.type "code"), none, (.fields #[(.str "shapes_beside" 337), (.str "shapes_beside" 338), (.str "/claim/cut.py" 339), (.int 61 0), (.int 2 0), (.int 0 0), (.int 0 0), (.int 3 0), (.ref 120), (.bool true), (.int 181 0), (.ref 121), .none, .none, .none, (.ref 122), (.int 340 0), (.int 61 0), (.str "/claim/cut.py" 341)]), #[]⟩) ::
  (nat_lit 124, ⟨(.type "function"), none, (.func (PySem.W.fnOf "shapes_beside" "shapes_beside" (A9 s_shapesbeside) (A8 s_shapesbeside) (A3 s_shapesbeside) .none .none .none (.str "hurryprice.shapejoins" 335) none (.ref 123) .none)), #[]⟩) ::
  (nat_lit 128, ⟨(.type "code"), none, (.fields #[(.str "pieces_of" 343), (.str "pieces_of" 344), (.str "/claim/cut.py" 345), (.int 65 0), (.int 1 0), (.int 0 0), (.int 0 0), (.int 3 0), (.ref 125), (.bool true), (.int 181 0), (.ref 126), .none, .none, .none, (.ref 127), (.int 346 0), (.int 65 0), (.str "/claim/cut.py" 347)]), #[]⟩) ::
  (nat_lit 129, ⟨(.type "function"), none, (.func (PySem.W.fnOf "pieces_of" "pieces_of" (A9 s_piecesof) (A8 s_piecesof) (A3 s_piecesof) .none .none .none (.str "hurryprice.shapejoins" 335) none (.ref 128) .none)), #[]⟩) ::
  (nat_lit 135, ⟨(.type "code"), none, (.fields #[(.str "is_steeper" 349), (.str "is_steeper" 350), (.str "/claim/cut.py" 351), (.int 67 0), (.int 2 0), (.int 0 0), (.int 0 0), (.int 3 0), (.ref 130), (.bool true), (.int 181 0), (.ref 131), .none, (.ref 132), (.ref 133), (.ref 134), (.int 354 0), (.int 67 0), (.str "/claim/cut.py" 355)]), #[]⟩) ::
  (nat_lit 136, ⟨(.type "function"), none, (.func (PySem.W.fnOf "is_steeper" "is_steeper" (A9 s_issteeper) (A8 s_issteeper) (A3 s_issteeper) .none .none .none (.str "hurryprice.shapejoins" 335) none (.ref 135) .none)), #[]⟩) ::
  (nat_lit 142, ⟨(.type "code"), none, (.fields #[(.str "by_falling_rates" 357), (.str "by_falling_rates" 358), (.str "/claim/cut.py" 359), (.int 69 0), (.int 2 0), (.int 0 0), (.int 0 0), (.int 3 0), (.ref 137), (.bool true), (.int 181 0), (.ref 138), .none, (.ref 139), (.ref 140), (.ref 141), (.int 367 0), (.int 69 0), (.str "/claim/cut.py" 368)]), #[]⟩) ::
  (nat_lit 143, ⟨(.type "function"), none, (.func (PySem.W.fnOf "by_falling_rates" "by_falling_rates" (A9 s_byfallingrates) (A8 s_byfallingrates) (A3 s_byfallingrates) .none .none .none (.str "hurryprice.shapejoins" 335) none (.ref 142) .none)), #[]⟩) ::
  (nat_lit 149, ⟨(.type "code"), none, (.fields #[(.str "shapes_behind" 370), (.str "shapes_behind" 371), (.str "/claim/cut.py" 372), (.int 81 0), (.int 3 0), (.int 0 0), (.int 0 0), (.int 3 0), (.ref 144), (.bool true), (.int 181 0), (.ref 145), .none, (.ref 146), (.ref 147), (.ref 148), (.int 381 0), (.int 81 0), (.str "/claim/cut.py" 382)]), #[]⟩) ::
  (nat_lit 150, ⟨(.type "function"), none, (.func (PySem.W.fnOf "shapes_behind" "shapes_behind" (A9 s_shapesbehind) (A8 s_shapesbehind) (A3 s_shapesbehind) .none .none .none (.str "hurryprice.shapejoins" 335) none (.ref 149) .none)), #[]⟩) ::
  (nat_lit 154, ⟨(.type "code"), none, (.fields #[(.str "shape_scaled" 384), (.str "shape_scaled" 385), (.str "/claim/cut.py" 386), (.int 88 0), (.int 3 0), (.int 0 0), (.int 0 0), (.int 3 0), (.ref 151), (.bool true), (.int 181 0), (.ref 152), .none, .none, .none, (.ref 153), (.int 387 0), (.int 88 0), (.str "/claim/cut.py" 388)]), #[]⟩) ::
  (nat_lit 155, ⟨(.type "function"), none, (.func (PySem.W.fnOf "shape_scaled" "shape_scaled" (A9 s_shapescaled) (A8 s_shapescaled) (A3 s_shapescaled) .none .none .none (.str "hurryprice.shapejoins" 335) none (.ref 154) .none)), #[]⟩) ::
  (nat_lit 161, ⟨(.type "code"), none, (.fields #[(.str "_law_begun" 392), (.str "_law_begun" 393), (.str "/claim/cut.py" 394), (.int 91 0), (.int 2 0), (.int 0 0), (.int 0 0), (.int 3 0), (.ref 156), (.bool true), (.int 181 0), (.ref 157), .none, (.ref 158), (.ref 159), (.ref 160), (.int 398 0), (.int 91 0), (.str "/claim/cut.py" 399)]), #[]⟩) ::
  (nat_lit 162, ⟨(.type "function"), none, (.func (PySem.W.fnOf "_law_begun" "_law_begun" (A9 s_Lbegun) (A8 s_Lbegun) (A3 s_Lbegun) .none .none .none (.str "law_hurryprice_k55_shapes_joined" 390) none (.ref 161) .none)), #[]⟩) ::
  (nat_lit 168, ⟨(.type "code"), none, (.fields #[(.str "_law_take" 401), (.str "_law_take" 402), (.str "/claim/cut.py" 403), (.int 96 0), (.int 2 0), (.int 0 0), (.int 0 0), (.int 3 0), (.ref 163), (.bool true), (.int 181 0), (.ref 164), .none, (.ref 165), (.ref 166), (.ref 167), (.int 409 0), (.int 96 0), (.str "/claim/cut.py" 410)]), #[]⟩) ::
  (nat_lit 169, ⟨(.type "function"), none, (.func (PySem.W.fnOf "_law_take" "_law_take" (A9 s_Ltake) (A8 s_Ltake) (A3 s_Ltake) .none .none .none (.str "law_hurryprice_k55_shapes_joined" 390) none (.ref 168) .none)), #[]⟩) ::
  (nat_lit 175, ⟨(.type "code"), none, (.fields #[(.str "_law_low" 412), (.str "_law_low" 413), (.str "/claim/cut.py" 414), (.int 107 0), (.int 2 0), (.int 0 0), (.int 0 0), (.int 3 0), (.ref 170), (.bool true), (.int 181 0), (.ref 171), .none, (.ref 172), (.ref 173), (.ref 174), (.int 419 0), (.int 107 0), (.str "/claim/cut.py" 420)]), #[]⟩) ::
  (nat_lit 176, ⟨(.type "function"), none, (.func (PySem.W.fnOf "_law_low" "_law_low" (A9 s_Llow) (A8 s_Llow) (A3 s_Llow) .none .none .none (.str "law_hurryprice_k55_shapes_joined" 390) none (.ref 175) .none)), #[]⟩) ::
  (nat_lit 182, ⟨(.type "code"), none, (.fields #[(.str "_law_plus" 422), (.str "_law_plus" 423), (.str "/claim/cut.py" 424), (.int 113 0), (.int 2 0), (.int 0 0), (.int 0 0), (.int 3 0), (.ref 177), (.bool true), (.int 181 0), (.ref 178), .none, (.ref 179), (.ref 180), (.ref 181), (.int 427 0), (.int 113 0), (.str "/claim/cut.py" 428)]), #[]⟩) ::
  (nat_lit 183, ⟨(.type "function"), none, (.func (PySem.W.fnOf "_law_plus" "_law_plus" (A9 s_Lplus) (A8 s_Lplus) (A3 s_Lplus) .none .none .none (.str "law_hurryprice_k55_shapes_joined" 390) none (.ref 182) .none)), #[]⟩) ::
  (nat_lit 189, ⟨(.type "code"), none, (.fields #[(.str "_law_minus" 430), (.str "_law_minus" 431), (.str "/claim/cut.py" 432), (.int 115 0), (.int 2 0), (.int 0 0), (.int 0 0), (.int 3 0), (.ref 184), (.bool true), (.int 181 0), (.ref 185), .none, (.ref 186), (.ref 187), (.ref 188), (.int 435 0), (.int 115 0), (.str "/claim/cut.py" 436)]), #[]⟩) ::
  (nat_lit 190, ⟨(.type "function"), none, (.func (PySem.W.fnOf "_law_minus" "_law_minus" (A9 s_Lminus) (A8 s_Lminus) (A3 s_Lminus) .none .none .none (.str "law_hurryprice_k55_shapes_joined" 390) none (.ref 189) .none)), #[]⟩) ::
  (nat_lit 196, ⟨(.type "code"), none, (.fields #[(.str "_law_times" 438), (.str "_law_times" 439), (.str "/claim/cut.py" 440), (.int 117 0), (.int 2 0), (.int 0 0), (.int 0 0), (.int 3 0), (.ref 191), (.bool true), (.int 181 0), (.ref 192), .none, (.ref 193), (.ref 194), (.ref 195), (.int 443 0), (.int 117 0), (.str "/claim/cut.py" 444)]), #[]⟩) ::
  (nat_lit 197, ⟨(.type "function"), none, (.func (PySem.W.fnOf "_law_times" "_law_times" (A9 s_Ltimes) (A8 s_Ltimes) (A3 s_Ltimes) .none .none .none (.str "law_hurryprice_k55_shapes_joined" 390) none (.ref 196) .none)), #[]⟩) ::
  (nat_lit 203, ⟨(.type "code"), none, (.fields #[(.str "_law_under" 446), (.str "_law_under" 447), (.str "/claim/cut.py" 448), (.int 119 0), (.int 2 0), (.int 0 0), (.int 0 0), (.int 3 0), (.ref 198), (.bool true), (.int 181 0), (.ref 199), .none, (.ref 200), (.ref 201), (.ref 202), (.int 451 0), (.int 119 0), (.str "/claim/cut.py" 452)]), #[]⟩) ::
  (nat_lit 204, ⟨(.type "function"), none, (.func (PySem.W.fnOf "_law_under" "_law_under" (A9 s_Lunder) (A8 s_Lunder) (A3 s_Lunder) .none .none .none (.str "law_hurryprice_k55_shapes_joined" 390) none (.ref 203) .none)), #[]⟩) ::
  (nat_lit 210, ⟨(.type "code"), none, (.fields #[(.str "_law_amount" 454), (.str "_law_amount" 455), (.str "/claim/cut.py" 456), (.int 121 0), (.int 3 0), (.int 0 0), (.int 0 0), (.int 3 0), (.ref 205), (.bool true), (.int 181 0), (.ref 206), .none, (.ref 207), (.ref 208), (.ref 209), (.int 462 0), (.int 121 0), (.str "/claim/cut.py" 463)]), #[]⟩) ::
  (nat_lit 211, ⟨(.type "function"), none, (.func (PySem.W.fnOf "_law_amount" "_law_amount" (A9 s_Lamount) (A8 s_Lamount) (A3 s_Lamount) .none .none .none (.str "law_hurryprice_k55_shapes_joined" 390) none (.ref 210) .none)), #[]⟩) ::
  (nat_lit 215, ⟨(.type "code"), none, (.fields #[(.str "_law_shape" 465), (.str "_law_shape" 466), (.str "/claim/cut.py" 467), (.int 127 0), (.int 3 0), (.int 0 0), (.int 0 0), (.int 3 0), (.ref 212), (.bool true), (.int 181 0), (.ref 213), .none, .none, .none, (.ref 214), (.int 468 0), (.int 127 0), (.str "/claim/cut.py" 469)]), #[]⟩) ::
  (nat_lit 216, ⟨(.type "function"), none, (.func (PySem.W.fnOf "_law_shape" "_law_shape" (A9 s_Lshape) (A8 s_Lshape) (A3 s_Lshape) .none .none .none (.str "law_hurryprice_k55_shapes_joined" 390) none (.ref 215) .none)), #[]⟩) ::
  (nat_lit 222, ⟨(.type "code"), none, (.fields #[(.str "_law_parted" 471), (.str "_law_parted" 472), (.str "/claim/cut.py" 473), (.int 143 0), (.int 2 0), (.int 0 0), (.int 0 0), (.int 3 0), (.ref 217), (.bool true), (.int 181 0), (.ref 218), .none, (.ref 219), (.ref 220), (.ref 221), (.int 476 0), (.int 143 0), (.str "/claim/cut.py" 477)]), #[]⟩) ::
  (nat_lit 223, ⟨(.type "function"), none, (.func (PySem.W.fnOf "_law_parted" "_law_parted" (A9 s_Lparted) (A8 s_Lparted) (A3 s_Lparted) .none .none .none (.str "law_hurryprice_k55_shapes_joined" 390) none (.ref 222) .none)), #[]⟩) ::
  (nat_lit 229, ⟨(.type "code"), none, (.fields #[(.str "_law_fall" 479), (.str "_law_fall" 480), (.str "/claim/cut.py" 481), (.int 145 0), (.int 2 0), (.int 0 0), (.int 0 0), (.int 3 0), (.ref 224), (.bool true), (.int 181 0), (.ref 225), .none, (.ref 226), (.ref 227), (.ref 228), (.int 484 0), (.int 145 0), (.str "/claim/cut.py" 485)]), #[]⟩) ::
  (nat_lit 230, ⟨(.type "function"), none, (.func (PySem.W.fnOf "_law_fall" "_law_fall" (A9 s_Lfall) (A8 s_Lfall) (A3 s_Lfall) .none .none .none (.str "law_hurryprice_k55_shapes_joined" 390) none (.ref 229) .none)), #[]⟩) ::
  (nat_lit 236, ⟨(.type "code"), none, (.fields #[(.str "_law_price" 487), (.str "_law_price" 488), (.str "/claim/cut.py" 489), (.int 147 0), (.int 2 0), (.int 0 0), (.int 0 0), (.int 3 0), (.ref 231), (.bool true), (.int 181 0), (.ref 232), .none, (.ref 233), (.ref 234), (.ref 235), (.int 495 0), (.int 147 0), (.str "/claim/cut.py" 496)]), #[]⟩) ::
  (nat_lit 237, ⟨(.type "function"), none, (.func (PySem.W.fnOf "_law_price" "_law_price" (A9 s_Lprice) (A8 s_Lprice) (A3 s_Lprice) .none .none .none (.str "law_hurryprice_k55_shapes_joined" 390) none (.ref 236) .none)), #[]⟩) ::
  (nat_lit 241, ⟨(.type "code"), none, (.fields #[(.str "_law_is_shape" 498), (.str "_law_is_shape" 499), (.str "/claim/cut.py" 500), (.int 156 0), (.int 1 0), (.int 0 0), (.int 0 0), (.int 3 0), (.ref 238), (.bool true), (.int 181 0), (.ref 239), .none, .none, .none, (.ref 240), (.int 501 0), (.int 156 0), (.str "/claim/cut.py" 502)]), #[]⟩) ::
  (nat_lit 242, ⟨(.type "function"), none, (.func (PySem.W.fnOf "_law_is_shape" "_law_is_shape" (A9 s_Lisshape) (A8 s_Lisshape) (A3 s_Lisshape) .none .none .none (.str "law_hurryprice_k55_shapes_joined" 390) none (.ref 241) .none)), #[]⟩) ::
  (nat_lit 248, ⟨(.type "code"), none, (.fields #[(.str "_law_spots" 504), (.str "_law_spots" 505), (.str "/claim/cut.py" 506), (.int 173 0), (.int 1 0), (.int 0 0), (.int 0 0), (.int 3 0), (.ref 243), (.bool true), (.int 181 0), (.ref 244), .none, (.ref 245), (.ref 246), (.ref 247), (.int 510 0), (.int 173 0), (.str "/claim/cut.py" 511)]), #[]⟩) ::
  (nat_lit 249, ⟨(.type "function"), none, (.func (PySem.W.fnOf "_law_spots" "_law_spots" (A9 s_Lspots) (A8 s_Lspots) (A3 s_Lspots) .none .none .none (.str "law_hurryprice_k55_shapes_joined" 390) none (.ref 248) .none)), #[]⟩) ::
  (nat_lit 253, ⟨(.type "code"), none, (.fields #[(.str "_law_beside_right" 513), (.str "_law_beside_right" 514), (.str "/claim/cut.py" 515), (.int 179 0), (.int 3 0), (.int 0 0), (.int 0 0), (.int 3 0), (.ref 250), (.bool true), (.int 181 0), (.ref 251), .none, .none, .none, (.ref 252), (.int 516 0), (.int 179 0), (.str "/claim/cut.py" 517)]), #[]⟩) ::
  (nat_lit 254, ⟨(.type "function"), none, (.func (PySem.W.fnOf "_law_beside_right" "_law_beside_right" (A9 s_Lbesideright) (A8 s_Lbesideright) (A3 s_Lbesideright) .none .none .none (.str "law_hurryprice_k55_shapes_joined" 390) none (.ref 253) .none)), #[]⟩) ::
  (nat_lit 258, ⟨(.type "code"), none, (.fields #[(.str "_law_parted_price" 519), (.str "_law_parted_price" 520), (.str "/claim/cut.py" 521), (.int 190 0), (.int 3 0), (.int 0 0), (.int 0 0), (.int 3 0), (.ref 255), (.bool true), (.int 181 0), (.ref 256), .none, .none, .none, (.ref 257), (.int 522 0), (.int 190 0), (.str "/claim/cut.py" 523)]), #[]⟩) ::
  (nat_lit 259, ⟨(.type "function"), none, (.func (PySem.W.fnOf "_law_parted_price" "_law_parted_price" (A9 s_Lpartedprice) (A8 s_Lpartedprice) (A3 s_Lpartedprice) .none .none .none (.str "law_hurryprice_k55_shapes_joined" 390) none (.ref 258) .none)), #[]⟩) ::
  (nat_lit 263, ⟨(.type "code"), none, (.fields #[(.str "_law_behind_right" 525), (.str "_law_behind_right" 526), (.str "/claim/cut.py" 527), (.int 199 0), (.int 4 0), (.int 0 0), (.int 0 0), (.int 3 0), (.ref 260), (.bool true), (.int 181 0), (.ref 261), .none, .none, .none, (.ref 262), (.int 528 0), (.int 199 0), (.str "/claim/cut.py" 529)]), #[]⟩) ::
  (nat_lit 264, ⟨(.type "function"), none, (.func (PySem.W.fnOf "_law_behind_right" "_law_behind_right" (A9 s_Lbehindright) (A8 s_Lbehindright) (A3 s_Lbehindright) .none .none .none (.str "law_hurryprice_k55_shapes_joined" 390) none (.ref 263) .none)), #[]⟩) ::
  (nat_lit 270, ⟨(.type "code"), none, (.fields #[(.str "_law_all_told" 531), (.str "_law_all_told" 532), (.str "/claim/cut.py" 533), (.int 208 0), (.int 5 0), (.int 0 0), (.int 0 0), (.int 3 0), (.ref 265), (.bool true), (.int 181 0), (.ref 266), .none, (.ref 267), (.ref 268), (.ref 269), (.int 539 0), (.int 208 0), (.str "/claim/cut.py" 540)]), #[]⟩) ::
  (nat_lit 271, ⟨(.type "function"), none, (.func (PySem.W.fnOf "_law_all_told" "_law_all_told" (A9 s_Lalltold) (A8 s_Lalltold) (A3 s_Lalltold) .none .none .none (.str "law_hurryprice_k55_shapes_joined" 390) none (.ref 270) .none)), #[]⟩) ::
  (nat_lit 275, ⟨(.type "code"), none, (.fields #[(.str "law" 542), (.str "law" 543), (.str "/claim/cut.py" 544), (.int 210 0), (.int 1 0), (.int 0 0), (.int 0 0), (.int 3 0), (.ref 272), (.bool true), (.int 181 0), (.ref 273), .none, .none, .none, (.ref 274), (.int 545 0), (.int 210 0), (.str "/claim/cut.py" 546)]), #[]⟩) ::
  (nat_lit 276, ⟨(.type "function"), none, (.func (PySem.W.fnOf "law" "law" (A9 s_law) (A8 s_law) (A3 s_law) .none .none .none (.str "law_hurryprice_k55_shapes_joined" 390) none (.ref 275) .none)), #[]⟩) :: []
def qq : Program := PySem.W.view PySem.Challenge.pw_hurryprice_k55_shapes_joined [1, 2, 4, 6, 7, 8, 9, 10, 11, 13, 14, 16, 17, 18, 20, 21, 22, 23, 24, 25, 27, 28, 29, 30, 31, 32, 33, 34, 35, 36, 37, 38, 39, 40, 41, 42, 43, 44, 45]
def aa : List Nat := [3, 45, 46, 52, 53, 59, 60, 66, 67, 73, 74, 80, 81, 87, 88, 94, 95, 101, 102, 106, 107, 113, 114, 118, 119, 123, 124, 128, 129, 135, 136, 142, 143, 149, 150, 154, 155, 161, 162, 168, 169, 175, 176, 182, 183, 189, 190, 196, 197, 203, 204, 210, 211, 215, 216, 222, 223, 229, 230, 236, 237, 241, 242, 248, 249, 253, 254, 258, 259, 263, 264, 270, 271, 275, 276]
theorem C0o : ∀ P : Params, aa = (kk P).map (·.1) := fun P => by kernel_rfl
noncomputable abbrev hh : PySem.W.Hook := PySem.W.kHook kk aa C0o
abbrev xt (s : Shared) : Bool := PySem.W.xlAt qq [] s && PySem.W.recOk (PySem.W.RowW.records PySem.Challenge.rw_hurryprice_k55_shapes_joined.row.toRowW) s
theorem run1 (w : World) (os : OsState) : (L2.ranT PySem.Challenge.pw_hurryprice_k55_shapes_joined 3260 w os).map (fun x => PySem.W.staticsOk (importedModules PySem.Challenge.pw_hurryprice_k55_shapes_joined.main.body) (PySem.W.boot_heap w.params) x.abs.heap && PySem.W.namesBound PySem.Challenge.pw_hurryprice_k55_shapes_joined x.abs.heap && PySem.W.gensDone x.abs && PySem.W.laidKept (PySem.W.boot_heap w.params) x.abs.heap) = some true := by kernel_rfl
theorem run2 (w : World) (os : OsState) : (L2.ranT PySem.Challenge.pw_hurryprice_k55_shapes_joined 3260 w os).map (fun x => (PySem.W.openSeen qq [] (importedModules PySem.Challenge.pw_hurryprice_k55_shapes_joined.main.body) xt true x.abs).1) = some (PySem.W.openGood qq []).1 := by kernel_rfl
theorem run4 (w : World) (os : OsState) : (L2.ranT PySem.Challenge.pw_hurryprice_k55_shapes_joined 3260 w os).map (fun x => (PySem.W.openSeen qq [] (importedModules PySem.Challenge.pw_hurryprice_k55_shapes_joined.main.body) xt true x.abs).2) = some (PySem.W.openGood qq []).2 := by kernel_rfl
theorem run3 (w : World) (os : OsState) : (L2.ranT PySem.Challenge.pw_hurryprice_k55_shapes_joined 3260 w os).map (fun x => hh.obs x.abs) = some (hh.val w) := by kernel_rfl
theorem left : PySem.W.LeftO PySem.Challenge.pw_hurryprice_k55_shapes_joined qq [] xt hh.obs hh.val 3260 := L2.B81 (by kernel_rfl) (by decide) (fun s => by kernel_rfl) run1 run2 run4 run3
theorem said : PySem.Challenge.rw_hurryprice_k55_shapes_joined.wellSaid = true := by decide +kernel
end Prf
namespace L2
open PySem PySem.Spec PyProof.Rows
abbrev Key := Sum Int Str
def B88 : Key -> Value -> Bool
  | .inl k, v => Value.isInt k v
  | .inr x, v => Value.isStrOf x v
def keyH (w : World) : Key -> Int
  | .inl k => hashInt k
  | .inr x => hashStr w x
theorem D6 : ∀ {k : Key} {v : Value}, B88 k v = true -> (∃ i t, k = Sum.inl i /\ v = Value.int i t) \/ (∃ x t, k = Sum.inr x /\ v = Value.str x t)
  | .inl i, v, h => by
    obtain ⟨t, e⟩ := Value.isInt_shape (k := i) (v := v) h
    exact .inl ⟨i, t, rfl, e⟩
  | .inr x, v, h => by
    obtain ⟨t, e⟩ := Value.isStrOf_shape (x := x) (v := v) h
    exact .inr ⟨x, t, rfl, e⟩
theorem B87 (a b : Int) : decide ((Sum.inl a : Key) = Sum.inl b) = (a == b) := by
  by_cases e : a = b
  · subst e; simp
  · have h : ¬ (Sum.inl a : Key) = Sum.inl b := fun q => e (Sum.inl.inj q)
    rw [decide_eq_false h]
    exact (beq_eq_false_iff_ne.mpr e).symm
theorem B84 (a b : Str) : decide ((Sum.inr a : Key) = Sum.inr b) = decide (a = b) := by
  by_cases e : a = b
  · subst e; simp
  · have h : ¬ (Sum.inr a : Key) = Sum.inr b := fun q => e (Sum.inr.inj q)
    rw [decide_eq_false h, decide_eq_false e]
theorem B86 (a : Int) (b : Str) : decide ((Sum.inl a : Key) = Sum.inr b) = false := decide_eq_false (fun q => nomatch q)
theorem B85 (a : Str) (b : Int) : decide ((Sum.inr a : Key) = Sum.inl b) = false := decide_eq_false (fun q => nomatch q)
def A2h (prog : Program) (w : World) : PySem.KeyKind prog w Key where
  is := B88
  hash := keyH w
  inj := fun v a b ha hb => by
    rcases D6 ha with ⟨i, t, rfl, rfl⟩ | ⟨x, t, rfl, rfl⟩
    · rcases D6 hb with ⟨j, u, rfl, e⟩ | ⟨y, u, rfl, e⟩
      · injection e with e1 _; rw [e1]
      · exact nomatch e
    · rcases D6 hb with ⟨j, u, rfl, e⟩ | ⟨y, u, rfl, e⟩
      · exact nomatch e
      · injection e with e1 _; rw [e1]
  byValue := fun k v h => by
    rcases D6 h with ⟨i, t, rfl, rfl⟩ | ⟨x, t, rfl, rfl⟩ <;> rfl
  pyHash := fun hv h => by
    rcases D6 hv with ⟨i, t, rfl, rfl⟩ | ⟨x, t, rfl, rfl⟩
    · exact wpAny_pyHash_int h
    · exact wpAny_pyHash_str h
  eqBool := fun hu hv h => by
    rcases D6 hu with ⟨i, t, rfl, rfl⟩ | ⟨x, t, rfl, rfl⟩
    · rcases D6 hv with ⟨j, u, rfl, rfl⟩ | ⟨y, u, rfl, rfl⟩
      · rw [B87] at h; exact wpAny_eqBool_int h
      · rw [B86] at h; exact SeqAt.EqAt.int_str i t y u _ _ _ _ h
    · rcases D6 hv with ⟨j, u, rfl, rfl⟩ | ⟨y, u, rfl, rfl⟩
      · rw [B85] at h; exact SeqAt.EqAt.str_int x t j u _ _ _ _ h
      · rw [B84] at h; exact wpAny_eqBool_str h
  «strs» := fun k x t v h => by
    rcases D6 h with ⟨i, u, rfl, e⟩ | ⟨y, u, rfl, e⟩
    · exact nomatch e
    · injection e with e1 _
      subst e1
      cases v <;> rfl
end L2
namespace L2
open PySem PySem.Spec PyProof.Rows
inductive V where
  | non | bl (b : Bool) | int (i : Int) | str (x : Str) | byt (b : Array UInt8) | flt (b : UInt64) | ref (a : Addr) | ty (n : String)
  deriving DecidableEq
def RelV : V -> Value -> Prop
  | .non, u => u = Value.none
  | .bl b, u => u = Value.bool b
  | .int i, u => ∃ t, u = Value.int i t
  | .str x, u => ∃ t, u = Value.str x t
  | .byt b, u => ∃ t, u = Value.bytes b t
  | .flt b, u => ∃ t, u = Value.float b t
  | .ref a, u => u = Value.ref a
  | .ty n, u => u = Value.type n
abbrev Vals : List V -> List Value -> Prop := Paired RelV
theorem Vals.length {xs : List V} {us : List Value} (r : Vals xs us) : xs.length = us.length := Paired.length r
theorem Vals.get : ∀ {xs : List V} {us : List Value} {i : Nat} {x : V}, Vals xs us -> xs[i]? = some x -> ∃ u, us[i]? = some u /\ RelV x u
  | _, _, _, _, .nil, e => by simp at e
  | _, _, 0, _, .cons r _, e => by simp at e; subst e; exact ⟨_, rfl, r⟩
  | _, _, i + 1, x, .cons _ t, e => by
    obtain ⟨u, h1, h2⟩ := Vals.get (i := i) (x := x) t (by simpa using e)
    exact ⟨u, by simpa using h1, h2⟩
theorem Vals.set {x : V} {u : Value} (r : RelV x u) : ∀ {xs : List V} {us : List Value} (i : Nat), Vals xs us -> Vals (xs.set i x) (us.set i u)
  | _, _, _, .nil => .nil
  | _, _, 0, .cons _ t => .cons r t
  | _, _, i + 1, .cons q t => .cons q (Vals.set r i t)
theorem Vals.append : ∀ {xs ys : List V} {us ws : List Value}, Vals xs us -> Vals ys ws -> Vals (xs ++ ys) (us ++ ws)
  | _, _, _, _, .nil, s => s
  | _, _, _, _, .cons r t, s => .cons r (Vals.append t s)
theorem Vals.take : ∀ {xs : List V} {us : List Value} (n : Nat), Vals xs us -> Vals (xs.take n) (us.take n)
  | _, _, 0, _ => .nil
  | _, _, _ + 1, .nil => .nil
  | _, _, n + 1, .cons r t => .cons r (Vals.take n t)
theorem Vals.drop : ∀ {xs : List V} {us : List Value} (n : Nat), Vals xs us -> Vals (xs.drop n) (us.drop n)
  | _, _, 0, r => r
  | _, _, _ + 1, .nil => .nil
  | _, _, n + 1, .cons _ t => Vals.drop n t
theorem Vals.none_of : ∀ {xs : List V} {us : List Value} {i : Nat}, Vals xs us -> xs[i]? = none -> us[i]? = none := fun {xs us i} r e => by
  have h1 := r.length
  have h2 : xs.length <= i := List.getElem?_eq_none_iff.mp e
  exact List.getElem?_eq_none_iff.mpr (by omega)
def RelO : Option V -> Option Value -> Prop
  | some v, some u => RelV v u
  | none, none => True
  | _, _ => False
def KV {κ : Type} : List (κ × V) -> List (κ × Value) -> Prop := Paired fun (p : κ × V) (q : κ × Value) => p.1 = q.1 /\ RelV p.2 q.2
def kV : Key -> V
  | .inl i => .int i
  | .inr x => .str x
inductive HO where
    | lst (xs : List V)
    | tup (xs : List V)
    | dK (kvs : List (Key × V)) | dT (kvs : List (List Key × V))
    | set (S : Int -> Bool) (n : Nat)
    | ins (C dx : Addr) (fs : List (Str × V))
    | own (x : Addr)
    | xd (fs : List (Str × V))
    | met (f x : Addr)
    | rng (lo hi : Int)
    | frz (o : Obj) (u : HO)
    | tbl (ps : Array Value)
    | ext (φ : Heap -> Prop)
abbrev Hp := Addr -> Option HO
def upd (H : Hp) (a : Addr) (o : HO) : Hp := fun b => if b = a then some o else H b
theorem C7 {H : Hp} {a : Addr} {o : HO} : upd H a o a = some o := by unfold upd; rw [if_pos rfl]
theorem C3 {H : Hp} {a b : Addr} {o : HO} (h : b ≠ a) : upd H a o b = H b := by unfold upd; rw [if_neg h]
theorem D0 {H : Hp} {a b : Addr} {o : HO} (h : H a = some o) (h' : H b = none) : a ≠ b := by
  intro e; subst e; rw [h] at h'; cases h'
section
variable (P : Program) (w : World)
def ObjOk (H : Hp) (h : Heap) (a : Addr) : HO -> Prop
  | .lst xs => xs.length <= sizeLine /\ ∃ (its : List Value) (n : Nat), Vals xs its /\ h.get? a = some { cls := .type "list", data := .seq its.toArray n }
  | .tup xs => xs.length <= sizeLine /\ ∃ its : List Value, Vals xs its /\ IsTup h a its.toArray
  | .dK kvs => kvs.length <= sizeLine /\ (a == sysModules) = false /\ ∃ vs, KV kvs vs /\ h.DictOf (A2h P w) a vs
  | .dT kvs => kvs.length <= sizeLine /\ (a == sysModules) = false /\ ∃ xs : List (List Key × Addr × Value),
      Paired (fun (p : List Key × V) (q : List Key × Addr × Value) => p.1 = q.1 /\ H q.2.1 = some (.tup (p.1.map kV)) /\ RelV p.2 q.2.2) kvs xs /\
      ∃ o es ep, h.get? a = some o /\ o.ExactDict /\ o.data = .dict es ep /\ es.toList = xs.map (entryOfKey (tupleKind (A2h P w))) /\ (xs.map (·.1)).Nodup
  | .set S n => h.SetOf (intKind P w) a S n
  | .ins C dx fs => H dx = some (.own a) /\ fs.length <= 1000 /\ dx ≠ a /\ h.get? a = some (PySem.W.instObj C dx) /\
      ∃ mA, h.Ns1 dx mA /\ (∀ f, RelO (fs.lookup f) (mA f)) /\ PySem.Within mA (fs.map (·.1))
  | .own _ => ∃ o, h.get? a = some o
  | .xd fs => ∃ mA, h.Ns1 a mA /\ ∀ f, RelO (fs.lookup f) (mA f)
  | .rng lo hi => ∃ t u v, h.get? a = some { cls := .type "range", data := .fields #[.int lo t, .int hi u, .int 1 v] }
  | .frz o u => h.get? a = some o /\ ObjOk H h a u
  | .tbl ps => h.get? a = some { cls := .none, data := .fields ps }
  | .met f x => h.get? a = some (PySem.W.methodObj (.ref f) (.ref x))
  | .ext φ => φ h /\ (∃ o, h.get? a = some o) /\ ∀ h1 h2 : Heap, φ h1 -> (∀ o, h1.get? a = some o -> h2.get? a = some o) -> φ h2
def HOk (H : Hp) (h : Heap) : Prop := ∀ a o, H a = some o -> ObjOk P w H h a o
end
section
variable {P : Program} {w : World} {H H' : Hp} {h h' : Heap} {a : Addr} {o : HO}
theorem ObjOk.lt (x : ObjOk P w H h a o) : a < h.objs.size := by
  cases o with
  | lst xs => obtain ⟨_, _, _, _, e⟩ := x; exact Heap.lt_size e
  | tup xs => obtain ⟨_, _, _, p⟩ := x; exact p.lt
  | dK kvs => obtain ⟨_, _, _, _, o, _, _, e, _⟩ := x; exact Heap.lt_size e
  | dT kvs => obtain ⟨_, _, _, _, o, _, _, e, _⟩ := x; exact Heap.lt_size e
  | set S n => obtain ⟨o, _, _, _, e, _⟩ := x; exact Heap.lt_size e
  | ins C dx fs => obtain ⟨_, _, _, e, _⟩ := x; exact Heap.lt_size e
  | own y => obtain ⟨_, e⟩ := x; exact Heap.lt_size e
  | xd fs => obtain ⟨_, ⟨_, _, _, e, _⟩, _⟩ := x; exact Heap.lt_size e
  | rng lo hi => obtain ⟨_, _, _, e⟩ := x; exact Heap.lt_size e
  | frz ob u => obtain ⟨e, _⟩ := x; exact Heap.lt_size e
  | tbl ps => exact Heap.lt_size (show h.get? a = some _ from x)
  | met f y => exact Heap.lt_size (show h.get? a = some _ from x)
  | ext φ => obtain ⟨_, ⟨_, e⟩, _⟩ := x; exact Heap.lt_size e
theorem Paired.mapP {α β : Type} {F G : α -> β -> Prop} : ∀ {l₁ : List α} {l₂ : List β}, Paired F l₁ l₂ -> (∀ a b, F a b -> G a b) -> Paired G l₁ l₂
  | _, _, .nil, _ => .nil
  | _, _, .cons r t, f => .cons (f _ _ r) (Paired.mapP t f)
theorem ObjOk.stay (x : ObjOk P w H h a o) (k : ∀ b u, (b = a \/ H b = some (.own a)) -> h.get? b = some u -> h'.get? b = some u)
    (ho : ∀ b, H b = some (.own a) -> H' b = some (.own a)) (ht : ∀ b xs, H b = some (.tup xs) -> H' b = some (.tup xs)) : ObjOk P w H' h' a o := by
  induction o with
  | lst xs => obtain ⟨z, its, n, r, e⟩ := x; exact ⟨z, its, n, r, k _ _ (.inl rfl) e⟩
  | tup xs => obtain ⟨z, its, r, ob, e, c⟩ := x; exact ⟨z, its, r, ob, k _ _ (.inl rfl) e, c⟩
  | dK kvs => obtain ⟨z, y, vs, r, ob, es, ep, e, c⟩ := x; exact ⟨z, y, vs, r, ob, es, ep, k _ _ (.inl rfl) e, c⟩
  | dT kvs =>
    obtain ⟨z, y, xs, r, ob, es, ep, e, c⟩ := x
    exact ⟨z, y, xs, Paired.mapP r fun p q z => ⟨z.1, ht _ _ z.2.1, z.2.2⟩, ob, es, ep, k _ _ (.inl rfl) e, c⟩
  | set S n => obtain ⟨ob, es, ep, t, e, c⟩ := x; exact ⟨ob, es, ep, t, k _ _ (.inl rfl) e, c⟩
  | ins C dx fs =>
    obtain ⟨d, z, ne, e, mA, ⟨od, es, ep, e2, c⟩, r⟩ := x
    exact ⟨ho _ d, z, ne, k _ _ (.inl rfl) e, mA, ⟨od, es, ep, k _ _ (.inr d) e2, c⟩, r⟩
  | own y => obtain ⟨ob, e⟩ := x; exact ⟨ob, k _ _ (.inl rfl) e⟩
  | xd fs => obtain ⟨mA, ⟨od, es, ep, e, c⟩, r⟩ := x; exact ⟨mA, ⟨od, es, ep, k _ _ (.inl rfl) e, c⟩, r⟩
  | rng lo hi => obtain ⟨t, u, v, e⟩ := x; exact ⟨t, u, v, k _ _ (.inl rfl) e⟩
  | frz ob u ih => obtain ⟨e, q⟩ := x; exact ⟨k _ _ (.inl rfl) e, ih q⟩
  | tbl ps =>
    have e : h.get? a = some { cls := .none, data := .fields ps } := x
    show h'.get? a = some { cls := .none, data := .fields ps }
    exact k a _ (.inl rfl) e
  | met f y =>
    have e : h.get? a = some (PySem.W.methodObj (.ref f) (.ref y)) := x
    show h'.get? a = some (PySem.W.methodObj (.ref f) (.ref y))
    exact k a _ (.inl rfl) e
  | ext φ => obtain ⟨p, ⟨o, e⟩, st⟩ := x; exact ⟨st _ _ p fun o q => k _ _ (.inl rfl) q, ⟨o, k _ _ (.inl rfl) e⟩, st⟩
theorem HOk.lt (x : HOk P w H h) (e : H a = some o) : a < h.objs.size := (x a o e).lt
theorem HOk.fresh (x : HOk P w H h) (e : h.objs.size <= a) : H a = none := by
  cases q : H a with
  | none => rfl
  | some u => exact absurd (Nat.lt_of_lt_of_le (x.lt q) e) (Nat.lt_irrefl _)
theorem HOk.kept (x : HOk P w H h) (k : ∀ b u, h.get? b = some u -> h'.get? b = some u) : HOk P w H h' := fun a o e =>
  (x a o e).stay (fun b u _ q => k b u q) (fun _ q => q) fun _ _ q => q
theorem HOk.laid (x : HOk P w H h) (k : ∀ b u, h.get? b = some u -> h'.get? b = some u) (hp : h.objs.size <= a) (new : ObjOk P w (upd H a o) h' a o) : HOk P w (upd H a o) h' := fun b u e => by
  have hn := x.fresh hp
  by_cases hb : b = a
  · subst hb; rw [C7] at e; cases e; exact new
  · rw [C3 hb] at e
    exact (x b u e).stay (fun c v _ q => k c v q) (fun c q => by rw [C3 (D0 q hn)]; exact q) fun c xs q => by rw [C3 (D0 q hn)]; exact q
end
def Rd (H : Hp) (a : Addr) (u : HO) : Prop := H a = some u \/ ∃ o, H a = some (.frz o u)
theorem Rd.ok {P : Program} {w : World} {H : Hp} {h : Heap} {a : Addr} {u : HO} (r : Rd H a u) (x : HOk P w H h) : ObjOk P w H h a u := by
  rcases r with r | ⟨o, r⟩
  · exact x a u r
  · obtain ⟨_, q⟩ := x a _ r
    exact q
def Mut : Option HO -> Prop
  | some (.lst _) => True
  | some (.dK _) => True
  | some (.dT _) => True
  | some (.set _ _) => True
  | some (.ins _ _ _) => True
  | some (.ext _) => True
  | _ => False
section
variable {P : Program} {w : World} {H : Hp} {h h' : Heap} {x e : Addr} {o' : HO}
theorem HOk.write (ok : HOk P w H h) (mu : Mut (H x)) (he : e = x \/ H e = some (.own x)) (k : ∀ b u, b ≠ e -> h.get? b = some u -> h'.get? b = some u) (heo : ∃ u, h'.get? e = some u)
    (new : ObjOk P w (upd H x o') h' x o') : HOk P w (upd H x o') h' := fun b u q => by
  have nown : ∀ c y, H c = some (.own y) -> c ≠ x := fun c y r z => by subst z; rw [r] at mu; exact mu
  have ntup : ∀ c xs, H c = some (.tup xs) -> c ≠ x := fun c xs r z => by subst z; rw [r] at mu; exact mu
  by_cases hb : b = x
  · subst hb; rw [C7] at q; cases q; exact new
  · rw [C3 hb] at q
    by_cases hbe : b = e
    · have q' : H b = some (.own x) := by
        rcases he with z | z
        · exact absurd (hbe.trans z) hb
        · rw [hbe]; exact z
      rw [q] at q'; cases q'
      obtain ⟨v, hv⟩ := heo
      exact ⟨v, by rw [hbe]; exact hv⟩
    · refine (ok b u q).stay (fun c v hc r => k c v ?_ r) (fun c r => by rw [C3 (nown c b r)]; exact r) fun c xs r => by rw [C3 (ntup c xs r)]; exact r
      rcases hc with rfl | hc
      · exact hbe
      · rintro rfl
        rcases he with z | z
        · exact nown c b hc z
        · rw [hc] at z; cases z; exact hb rfl
end
structure Un (fs ex : List Addr) (H H' : Hp) (h h' : Heap) : Prop where
  keep : ∀ b o, h.get? b = some o -> H b = none -> b ∉ fs -> b ∉ ex -> h'.get? b = some o
  slot : ∀ b o, h.get? b = some o -> H b = none -> b ∈ fs -> b ∉ ex -> ∃ sl, h'.get? b = some { o with slots := sl }
  free : ∀ b o, h.get? b = some o -> H b = none -> b ∉ ex -> H' b = none
  there : ∀ b o, h.get? b = some o -> b ∉ ex -> ∃ o', h'.get? b = some o'
  tups : ∀ b xs, H b = some (.tup xs) -> H' b = some (.tup xs)
  frzs : ∀ b o u, H b = some (.frz o u) -> H' b = some (.frz o u)
  tbls : ∀ b ps, H b = some (.tbl ps) -> ∃ more, H' b = some (.tbl (ps ++ more))
section
variable {fs fs' ex ex' : List Addr} {H H1 H2 : Hp} {h h1 h2 h' : Heap} {a x e : Addr} {o : HO}
theorem Un.any (u : Un fs ex H H1 h h1) {b : Addr} {ob : Obj} (q : h.get? b = some ob) (n : H b = none) (hx : b ∉ ex) : ∃ sl, h1.get? b = some { ob with slots := sl } := by
  by_cases hb : b ∈ fs
  · exact u.slot b ob q n hb hx
  · exact ⟨ob.slots, u.keep b ob q n hb hx⟩
theorem Un.kept (k : ∀ b u, h.get? b = some u -> h'.get? b = some u) : Un fs ex H H h h' :=
  ⟨fun b ob q _ _ _ => k b ob q, fun b ob q _ _ _ => ⟨ob.slots, k b ob q⟩, fun _ _ _ n _ => n, fun b ob q _ => ⟨ob, k b ob q⟩, fun _ _ q => q, fun _ _ _ q => q, fun _ ps q => ⟨#[], by rw [q]; simp⟩⟩
theorem Un.refl : Un fs ex H H h h := Un.kept fun _ _ q => q
theorem Un.laid (k : ∀ b u, h.get? b = some u -> h'.get? b = some u) (hp : h.objs.size <= a) (hn : H a = none) : Un fs ex H (upd H a o) h h' where
  keep := fun b u q _ _ _ => k b u q
  slot := fun b u q _ _ _ => ⟨u.slots, k b u q⟩
  free := fun b u q n _ => by rw [C3 (Nat.ne_of_lt (Nat.lt_of_lt_of_le (Heap.lt_size q) hp))]; exact n
  there := fun b u q _ => ⟨u, k b u q⟩
  tups := fun b xs q => by rw [C3 (D0 q hn)]; exact q
  frzs := fun b u xs q => by rw [C3 (D0 q hn)]; exact q
  tbls := fun b ps q => ⟨#[], by rw [C3 (D0 q hn), q]; simp⟩
theorem Un.write (mu : Mut (H x)) (he : e = x \/ H e = some (.own x)) (k : ∀ b u, b ≠ e -> h.get? b = some u -> h'.get? b = some u) (heo : ∃ u, h'.get? e = some u) : Un fs ex H (upd H x o) h h' := by
  have hx : ∀ b, H b = none -> b ≠ x := fun b n z => by subst z; rw [n] at mu; exact mu
  have hb : ∀ b, H b = none -> b ≠ e := fun b n z => by
    subst z
    rcases he with r | r
    · exact hx b n r
    · rw [n] at r; cases r
  have hm : ∀ b u, H b = some u -> ¬ Mut (some u) -> b ≠ x := fun b u q nm z => by subst z; rw [q] at mu; exact nm mu
  refine ⟨fun b u q n _ _ => k b u (hb b n) q, fun b u q n _ _ => ⟨u.slots, k b u (hb b n) q⟩, fun b u q n _ => by rw [C3 (hx b n)]; exact n, fun b u q _ => ?_,
    fun b xs q => by rw [C3 (hm b _ q fun z => z)]; exact q, fun b u xs q => by rw [C3 (hm b _ q fun z => z)]; exact q, fun b ps q => ⟨#[], by rw [C3 (hm b _ q fun z => z), q]; simp⟩⟩
  by_cases hbe : b = e
  · subst hbe; exact heo
  · exact ⟨u, k b u hbe q⟩
end
def trk (h : Heap) (H : Hp) : List Addr := (List.range h.objs.size).filter fun a => (H a).isSome
def hidT (h : Heap) (H : Hp) : Heap := PySem.W.hideAll h (trk h H)
theorem A9h (h : Heap) (H : Hp) : (hidT h H).objs.size = h.objs.size := PySem.W.hideAll_size _ _
theorem B1d {h : Heap} {H : Hp} {b : Addr} {o : Obj} (e : h.get? b = some o) (n : H b = none) : (hidT h H).get? b = some o :=
  PySem.W.hideAll_get _ e fun hm => by
    have q : (H b).isSome = true := (List.mem_filter.mp hm).2
    rw [n] at q; simp at q
theorem B50 {h : Heap} {H : Hp} {b : Addr} {o : Obj} (e : (hidT h H).get? b = some o) : h.get? b = some o /\ H b = none := by
  have e' : h.get? b = some o := PySem.W.of_hideAll (trk h H) e
  refine ⟨e', ?_⟩
  cases q : H b with
  | none => rfl
  | some x =>
    have hm : b ∈ trk h H := List.mem_filter.mpr ⟨List.mem_range.mpr (Heap.lt_size e'), by simp [q]⟩
    have z : (hidT h H).get? b = none := PySem.W.hideAll_none (trk h H) hm
    rw [z] at e; cases e
def B6k (g h : Heap) (L : Addr) : List (Addr × Obj) := (List.range h.objs.size).filterMap fun a => if a = L \/ (g.get? a).isSome = true then none else (h.get? a).map fun o => (a, o)
def rest (g h : Heap) (L d : Addr) : List (Addr × Obj) := (B6k g h L).filter fun p => decide (p.1 ≠ d)
end L2
namespace L2
open PySem PySem.Spec PyProof.Rows
structure Mod (K : PySem.W.Frag) (mg : Str -> Option Value) (base : Heap) : Prop where
  kin : K.In base
  glob : base.Ns mainGlobals mg
  blt : ∃ mb, base.Ns builtinsNs mb /\ ∀ x : Str, x ≠ "__name__" -> mb x = bootBuiltins x
  nolimit : base.NoLimit
structure Cx where
  prog : Program
  w : World
  K : PySem.W.Frag
  mg : Str -> Option Value
  base : Heap
  A : Around
  N : List Str
  s₀ : Shared
  H₀ : Hp
  env : Env
  outer : List Env
  stack : List Env
  ex : List Addr
  fn : Str -> Bool
  calm : Bool
  pn : List (Addr × Obj)
  xe : Value -> Shared -> Prop
def frs (l : List Env) : List Addr := l.filterMap (·.frame)
abbrev Cx.fs (X : Cx) : List Addr := frs X.outer
def Vis (sc : Scope) (x : Str) : Prop := sc.names.lookup x = some .local \/ sc.names.lookup x = some .cell \/ sc.names.lookup x = some .free
def Loc (sc : Scope) (x : Str) : Prop := sc.names.lookup x = some .local \/ sc.names.lookup x = some .cell
def Look (env : Env) (h : Heap) (m : Str -> Option Value) (x : Str) (u : Value) : Prop :=
  (env.kindOf x = some .local /\ m x = some u) \/ ((env.kindOf x = some .cell \/ env.kindOf x = some .free) /\ ∃ c, env.cells.lookup x = some c /\ h.IsCell c (some u))
structure Cx.Ok (X : Cx) : Prop where
  mod : Mod X.K X.mg X.base
  kind : X.env.scope.kind = .function
  glob : X.env.globals = mainGlobals
  blt : X.env.builtins = builtinsNs
  above : X.s₀.heap.objs.size <= X.env.locals
  inj : ∀ x y c, X.env.cells.lookup x = some c -> X.env.cells.lookup y = some c -> x = y
  has : ∀ x, (X.env.kindOf x = some .cell \/ X.env.kindOf x = some .free) -> ∃ c, X.env.cells.lookup x = some c
  cab : ∀ x c, X.fn x = true -> X.env.cells.lookup x = some c -> X.s₀.heap.objs.size <= c
  hd : X.calm = true -> X.A.handled = none
  frames : X.A.frames = some X.stack
  stk : X.stack = X.outer \/ (X.stack = X.env :: X.outer /\ X.env.frame = some X.env.locals)
  exf : ∀ b ∈ X.ex, b ≠ X.env.locals /\ ∀ x c, X.env.cells.lookup x = some c -> c ≠ b
  bs : ∀ b o, X.base.get? b = some o -> X.s₀.heap.get? b = some o /\ X.H₀ b = none
  bsz : X.base.objs.size <= X.s₀.heap.objs.size
  noex : ∀ b o, X.base.get? b = some o -> b ∉ X.ex
  exfs : ∀ b ∈ X.ex, b ∉ X.fs
  funs : X.s₀.heap.FunFrames X.base X.outer
  frf : ∀ b ∈ X.fs, X.H₀ b = none
structure Inv (X : Cx) (pins : List (Addr × Obj)) (σ : List (Option V)) (H : Hp) (s : Shared) : Prop where
  ok : X.Ok
  os : s.os = X.s₀.os
  bare : AllBare s.gens
  base : Un X.fs X.ex X.H₀ H X.s₀.heap s.heap
  loc : ∃ m, s.heap.Ns X.env.locals m /\ ∀ (i : Nat) (x : Str) (v : V), X.N[i]? = some x -> σ[i]? = some (some v) -> Vis X.env.scope x -> ∃ u, RelV v u /\ Look X.env s.heap m x u
  cell : ∀ x c, X.env.cells.lookup x = some c -> ∃ v, s.heap.IsCell c v
  free : H X.env.locals = none
  freeC : ∀ x c, X.env.cells.lookup x = some c -> H c = none
  pin : ∀ p ∈ X.pn ++ pins, s.heap.get? p.1 = some p.2 /\ H p.1 = none /\ p.1 ≠ X.env.locals /\ p.1 ∉ X.fs /\ ∀ v, p.2.data ≠ .cell v
  hok : HOk X.prog X.w H s.heap
  len : σ.length = X.N.length
section
variable {X : Cx} {pins : List (Addr × Obj)} {σ : List (Option V)} {H H' : Hp} {s : Shared} {h' : Heap}
theorem Cx.Ok.nofr (ok : X.Ok) {b : Addr} {o : Obj} (e : X.base.get? b = some o) : b ∉ X.fs := fun hb => by
  have := (ok.funs.mem hb).1
  rw [e] at this; cases this
theorem Inv.bs (I : Inv X pins σ H s) : ∀ b o, X.base.get? b = some o -> s.heap.get? b = some o /\ H b = none := fun b o e =>
  ⟨I.base.keep b o (I.ok.bs b o e).1 (I.ok.bs b o e).2 (I.ok.nofr e) (I.ok.noex b o e), I.base.free b o (I.ok.bs b o e).1 (I.ok.bs b o e).2 (I.ok.noex b o e)⟩
theorem Inv.bk (I : Inv X pins σ H s) : ∀ b o, X.base.get? b = some o -> s.heap.get? b = some o := fun b o e => (I.bs b o e).1
theorem Inv.mod (I : Inv X pins σ H s) : Mod X.K X.mg X.base := I.ok.mod
theorem Inv.kIn (I : Inv X pins σ H s) : X.K.In s.heap := I.ok.mod.kin.keeps I.bk
theorem Inv.lt (I : Inv X pins σ H s) : X.env.locals < s.heap.objs.size := let ⟨_, hn, _⟩ := I.loc; hn.lt
theorem Inv.sz (I : Inv X pins σ H s) : X.s₀.heap.objs.size <= s.heap.objs.size := Nat.le_trans I.ok.above (Nat.le_of_lt I.lt)
theorem Inv.nofs (I : Inv X pins σ H s) {a : Addr} (h : s.heap.objs.size <= a) : a ∉ X.fs := fun hb => by
  obtain ⟨_, o, ho, _⟩ := I.ok.funs.mem hb
  exact absurd (Nat.lt_of_lt_of_le (Heap.lt_size ho) (Nat.le_trans I.sz h)) (Nat.lt_irrefl _)
theorem Inv.cne (I : Inv X pins σ H s) : ∀ x c, X.env.cells.lookup x = some c -> c ≠ X.env.locals := fun x c e z => by
  obtain ⟨v, o, ho, hd⟩ := I.cell x c e
  obtain ⟨m, ⟨o', es, ep, ho', hd', _⟩, _⟩ := I.loc
  rw [z, ho'] at ho; cases ho; rw [hd'] at hd; cases hd
theorem Inv.funs (I : Inv X pins σ H s) : s.heap.FunFrames X.base X.outer := by
  have all : ∀ (l : List Env), (∀ b ∈ frs l, b ∈ X.fs) -> X.s₀.heap.FunFrames X.base l -> s.heap.FunFrames X.base l := by
    intro l
    induction l with
    | nil => intro _ _; trivial
    | cons env r ih =>
      intro hs hl
      obtain ⟨hk, ⟨L, o, hf, hn, ho, hd⟩, hr⟩ := hl
      have hL : L ∈ X.fs := hs L (by unfold frs; rw [List.filterMap_cons, hf]; exact List.mem_cons_self)
      obtain ⟨sl, e⟩ := I.base.slot L o ho (I.ok.frf L hL) hL fun z => I.ok.exfs L z hL
      exact ⟨hk, ⟨L, _, hf, hn, e, hd⟩, ih (fun b hb => hs b (by unfold frs; rw [List.filterMap_cons, hf]; exact List.mem_cons_of_mem _ hb)) hr⟩
  exact all X.outer (fun _ hb => hb) I.ok.funs
theorem Inv.stack (I : Inv X pins σ H s) : s.heap.FunFrames X.base X.stack := by
  rcases I.ok.stk with e | ⟨e, hf⟩
  · rw [e]; exact I.funs
  · rw [e]
    obtain ⟨m, hn, _⟩ := I.loc
    refine .cons (by rw [I.ok.kind]; decide) hf hn ?_ I.funs
    exact Heap.get?_none_of_le (Nat.le_trans I.ok.bsz I.ok.above)
theorem Inv.stkSub (I : Inv X pins σ H s) : ∀ b ∈ frs X.stack, b ∈ X.env.locals :: X.fs := fun b hb => by
  rcases I.ok.stk with e | ⟨e, hf⟩
  · rw [e] at hb; exact List.mem_cons_of_mem _ hb
  · rw [e] at hb
    unfold frs at hb
    rw [List.filterMap_cons, hf] at hb
    exact hb
theorem Inv.stkFree (I : Inv X pins σ H s) : ∀ b ∈ frs X.stack, H b = none := fun b hb => by
  rcases List.mem_cons.mp (I.stkSub b hb) with e | hb
  · rw [e]; exact I.free
  · obtain ⟨_, o, ho, _⟩ := I.ok.funs.mem hb
    exact I.base.free b o ho (I.ok.frf b hb) fun z => I.ok.exfs b z hb
theorem Inv.step {g' : Array GenState} {t' : Nat} {d' : Drawn} {ch : List Addr} (I : Inv X pins σ H s)
    (hch : ∀ b ∈ ch, (b ∈ X.ex \/ X.s₀.heap.objs.size <= b) /\ b ≠ X.env.locals /\ (∀ x c, X.env.cells.lookup x = some c -> c ≠ b) /\ ∀ p ∈ X.pn ++ pins, p.1 ≠ b)
    (keep : ∀ b o, b ≠ X.env.locals -> b ∉ X.fs -> b ∉ ch -> s.heap.get? b = some o -> H b = none -> h'.get? b = some o)
    (slot : ∀ b o, b ≠ X.env.locals -> b ∈ X.fs -> b ∉ ch -> s.heap.get? b = some o -> H b = none -> ∃ sl, h'.get? b = some { o with slots := sl }) (free : ∀ b o, b ∉ ch -> s.heap.get? b = some o -> H b = none -> H' b = none)
    (there : ∀ b o, b ∉ ch -> s.heap.get? b = some o -> ∃ o', h'.get? b = some o')
    (tups : ∀ b xs, H b = some (.tup xs) -> H' b = some (.tup xs)) (frzs : ∀ b o u, H b = some (.frz o u) -> H' b = some (.frz o u)) (tbls : ∀ b ps, H b = some (.tbl ps) -> ∃ more, H' b = some (.tbl (ps ++ more)))
    (ns : ∀ m, s.heap.Ns X.env.locals m -> h'.Ns X.env.locals m) (hok : HOk X.prog X.w H' h') (hg : AllBare g') :
    Inv X pins σ H' { s with heap := h', gens := g', drawn := d', toks := t' } := by
  have neL : ∀ b o, X.s₀.heap.get? b = some o -> b ≠ X.env.locals := fun b o e => Nat.ne_of_lt (Nat.lt_of_lt_of_le (Heap.lt_size e) I.ok.above)
  have neC : ∀ b o, X.s₀.heap.get? b = some o -> b ∉ X.ex -> b ∉ ch := fun b o e hx hb => by
    rcases (hch b hb).1 with z | z
    · exact hx z
    · exact absurd (Nat.lt_of_lt_of_le (Heap.lt_size e) z) (Nat.lt_irrefl _)
  have cellK : ∀ x c, X.env.cells.lookup x = some c -> ∀ v, s.heap.IsCell c v -> h'.IsCell c v := fun x c e v ⟨o, ho, hd⟩ => by
    have nch : c ∉ ch := fun z => (hch c z).2.2.1 x c e rfl
    by_cases hc : c ∈ X.fs
    · obtain ⟨sl, q⟩ := slot c o (I.cne x c e) hc nch ho (I.freeC x c e)
      exact ⟨_, q, hd⟩
    · exact ⟨o, keep c o (I.cne x c e) hc nch ho (I.freeC x c e), hd⟩
  refine ⟨I.ok, I.os, hg, ⟨fun b o e n hb hx => ?_, fun b o e n hb hx => ?_, fun b o e n hx => ?_, fun b o e hx => ?_, fun b xs e => tups b xs (I.base.tups b xs e), fun b o xs e => frzs b o xs (I.base.frzs b o xs e), fun b ps e => ?_⟩, ?_, fun x c e => ?_, ?_, fun x c e => ?_, fun p hp => ?_, hok, I.len⟩
  · exact keep b o (neL b o e) hb (neC b o e hx) (I.base.keep b o e n hb hx) (I.base.free b o e n hx)
  · obtain ⟨sl, e1⟩ := I.base.slot b o e n hb hx
    obtain ⟨sl', e2⟩ := slot b _ (neL b o e) hb (neC b o e hx) e1 (I.base.free b o e n hx)
    exact ⟨sl', e2⟩
  · obtain ⟨o', e1⟩ := I.base.there b o e hx
    exact free b o' (neC b o e hx) e1 (I.base.free b o e n hx)
  · obtain ⟨o', e1⟩ := I.base.there b o e hx
    exact there b o' (neC b o e hx) e1
  · obtain ⟨m1, e1⟩ := I.base.tbls b ps e
    obtain ⟨m2, e2⟩ := tbls b _ e1
    exact ⟨m1 ++ m2, by rw [e2, Array.append_assoc]⟩
  · obtain ⟨m, hn, hl⟩ := I.loc
    refine ⟨m, ns m hn, fun i x v e1 e2 e3 => ?_⟩
    obtain ⟨u, r, l⟩ := hl i x v e1 e2 e3
    refine ⟨u, r, ?_⟩
    rcases l with l | ⟨k, c, e, z⟩
    · exact .inl l
    · exact .inr ⟨k, c, e, cellK x c e _ z⟩
  · obtain ⟨v, z⟩ := I.cell x c e
    exact ⟨v, cellK x c e v z⟩
  · obtain ⟨m, ⟨o, _, _, ho, _⟩, _⟩ := I.loc
    exact free _ o (fun z => (hch _ z).2.1 rfl) ho I.free
  · obtain ⟨v, o, ho, hd⟩ := I.cell x c e
    exact free c o (fun z => (hch c z).2.2.1 x c e rfl) ho (I.freeC x c e)
  · obtain ⟨e, n, ne, nf, d⟩ := I.pin p hp
    have nch : p.1 ∉ ch := fun z => (hch p.1 z).2.2.2 p hp rfl
    exact ⟨keep p.1 p.2 ne nf nch e n, free p.1 p.2 nch e n, ne, nf, d⟩
theorem Inv.un {t' : Nat} (I : Inv X pins σ H s) (u : Un X.fs [] H H' s.heap h') (hok : HOk X.prog X.w H' h') : Inv X pins σ H' { s with heap := h', toks := t' } := by
  obtain ⟨m, ⟨o, es, ep, ho, r⟩, _⟩ := id I.loc
  obtain ⟨sl, hL⟩ := u.any ho I.free (by simp)
  exact I.step (g' := s.gens) (d' := s.drawn) (ch := []) (fun _ z => nomatch z) (fun b o _ hb _ e n => u.keep b o e n hb (by simp)) (fun b o _ hb _ e n => u.slot b o e n hb (by simp)) (fun b o _ e n => u.free b o e n (by simp)) (fun b o _ e => u.there b o e (by simp)) u.tups u.frzs u.tbls (fun m' hm => by
    obtain ⟨o', es', ep', ho', r'⟩ := hm
    rw [ho] at ho'; cases ho'
    exact ⟨_, es', ep', hL, r'⟩) hok I.bare
theorem Inv.call {g' : Array GenState} {t' : Nat} {d' : Drawn} {ch : List Addr} (I : Inv X pins σ H s) (u : Un (frs X.stack) ch H H' s.heap h') (hok : HOk X.prog X.w H' h') (hg : AllBare g')
    (hch : ∀ b ∈ ch, (b ∈ X.ex \/ X.s₀.heap.objs.size <= b) /\ b ≠ X.env.locals /\ (∀ x c, X.env.cells.lookup x = some c -> c ≠ b) /\ ∀ p ∈ X.pn ++ pins, p.1 ≠ b) :
    Inv X pins σ H' { s with heap := h', gens := g', drawn := d', toks := t' } := by
  obtain ⟨m, ⟨o, es, ep, ho, r⟩, _⟩ := id I.loc
  obtain ⟨sl, hL⟩ := u.any ho I.free fun z => (hch _ z).2.1 rfl
  exact I.step (ch := ch) hch (fun b o hL hb hc e n => u.keep b o e n (fun z => (List.mem_cons.mp (I.stkSub b z)).elim hL hb) hc) (fun b o _ _ hc e n => u.any e n hc) (fun b o hc e n => u.free b o e n hc) (fun b o hc e => u.there b o e hc) u.tups u.frzs u.tbls (fun m' hm => by
    obtain ⟨o', es', ep', ho', r'⟩ := hm
    rw [ho] at ho'; cases ho'
    exact ⟨_, es', ep', hL, r'⟩) hok hg
theorem Inv.turned {t' : Nat} {it : Addr} (I : Inv X pins σ H s) (k : ∀ b o, b ≠ it -> s.heap.get? b = some o -> h'.get? b = some o) (hn : H it = none) (hL : it ≠ X.env.locals)
    (h1 : it ∈ X.ex \/ X.s₀.heap.objs.size <= it) (h2 : ∀ x c, X.env.cells.lookup x = some c -> c ≠ it) (h3 : ∀ p ∈ X.pn ++ pins, p.1 ≠ it) : Inv X pins σ H { s with heap := h', toks := t' } := by
  have nit : ∀ b u, H b = some u -> b ≠ it := fun b u e z => by rw [z, hn] at e; cases e
  refine I.step (g' := s.gens) (d' := s.drawn) (ch := [it]) (fun b hb => ?_) (fun b o _ _ hc e _ => k b o (fun z => hc (by simp [z])) e) (fun b o _ _ hc e _ => ⟨o.slots, k b o (fun z => hc (by simp [z])) e⟩) (fun _ _ _ _ n => n)
    (fun b o hc e => ⟨o, k b o (fun z => hc (by simp [z])) e⟩) (fun _ _ e => e) (fun _ _ _ e => e) (fun b ps e => ⟨#[], by rw [e]; simp⟩) (fun m hm => ?_) (fun b u e => ?_) I.bare
  · have e : b = it := by simpa using hb
    subst e
    exact ⟨h1, hL, h2, h3⟩
  · obtain ⟨o, es, ep, ho, r⟩ := hm
    exact ⟨o, es, ep, k _ o (Ne.symm hL) ho, r⟩
  · refine (I.hok b u e).stay (fun c v hc q => k c v ?_ q) (fun _ q => q) fun _ _ q => q
    rcases hc with z | z
    · rw [z]; exact nit b u e
    · exact nit c _ z
theorem Inv.tok (I : Inv X pins σ H s) (t : Nat) : Inv X pins σ H { s with toks := t } := I.un (h' := s.heap) (t' := t) Un.refl I.hok
theorem Inv.kept {t' : Nat} (I : Inv X pins σ H s) (k : ∀ b u, s.heap.get? b = some u -> h'.get? b = some u) : Inv X pins σ H { s with heap := h', toks := t' } := I.un (Un.kept k) (I.hok.kept k)
theorem Inv.laid {a : Addr} {o : HO} {t' : Nat} (I : Inv X pins σ H s) (k : ∀ b u, s.heap.get? b = some u -> h'.get? b = some u) (hp : s.heap.objs.size <= a) (new : ObjOk X.prog X.w (upd H a o) h' a o) :
    Inv X pins σ (upd H a o) { s with heap := h', toks := t' } := I.un (Un.laid k hp (I.hok.fresh hp)) (I.hok.laid k hp new)
theorem Inv.write {x e : Addr} {o : HO} {t' : Nat} (I : Inv X pins σ H s) (mu : Mut (H x)) (he : e = x \/ H e = some (.own x)) (k : ∀ b u, b ≠ e -> s.heap.get? b = some u -> h'.get? b = some u) (heo : ∃ u, h'.get? e = some u)
    (new : ObjOk X.prog X.w (upd H x o) h' x o) : Inv X pins σ (upd H x o) { s with heap := h', toks := t' } := I.un (Un.write mu he k heo) (I.hok.write mu he k heo new)
theorem Inv.pins_of {pins' : List (Addr × Obj)} (I : Inv X pins σ H s) (h : ∀ p ∈ pins', s.heap.get? p.1 = some p.2 /\ H p.1 = none /\ p.1 ≠ X.env.locals /\ p.1 ∉ X.fs /\ ∀ v, p.2.data ≠ .cell v) : Inv X pins' σ H s :=
  ⟨I.ok, I.os, I.bare, I.base, I.loc, I.cell, I.free, I.freeC, fun p hp => (List.mem_append.mp hp).elim (fun z => I.pin p (List.mem_append_left _ z)) (h p), I.hok, I.len⟩
theorem A3z {N : List Str} (hN : N.Nodup) {i j : Nat} {x : Str} (a : N[i]? = some x) (b : N[j]? = some x) : i = j := by
  obtain ⟨h1, e1⟩ := List.getElem?_eq_some_iff.mp a
  obtain ⟨h2, e2⟩ := List.getElem?_eq_some_iff.mp b
  exact (List.getElem_inj hN).mp (e1.trans e2.symm)
theorem A0l {M : Model} {A : Around} {E : Value -> Shared -> Prop} {i : Nat} {x : Str} {v : V} {u : Value} {Q : Unit -> Shared -> Prop} (I : Inv X pins σ H s) (hN : X.N.Nodup) (hi : X.N[i]? = some x) (hx : Loc X.env.scope x) (r : RelV v u)
    (h : ∀ s', Inv X pins (σ.set i (some v)) H s' -> (∃ a, Heap.SameBut a s.heap s'.heap /\ (a = X.env.locals \/ X.env.cells.lookup x = some a)) -> Q () s') (hf : X.fn x = true \/ X.env.scope.names.lookup x = some .local := by first | exact .inl rfl | exact .inr rfl | assumption) : wpAny M A (storeName X.env x u) Q E s := by
  obtain ⟨m, hn, hl⟩ := id I.loc
  have hcls : (X.env.scope.kind == .class || (X.env.scope.kind == .module && X.env.locals != X.env.globals)) = false := by rw [I.ok.kind]; rfl
  have hiσ : i < σ.length := by rw [I.len]; exact (List.getElem?_eq_some_iff.mp hi).1
  have cne := I.cne
  have tracked : ∀ {a : Addr} {h' : Heap}, (∃ o, s.heap.get? a = some o /\ H a = none) -> Heap.SameBut a s.heap h' -> HOk X.prog X.w H h' := fun {a h'} ha hs b ob e => by
    obtain ⟨_, _, hfree⟩ := ha
    refine (I.hok b ob e).stay (fun c w' hc q => (hs.2 c ?_).trans q) (fun _ q => q) fun _ _ q => q
    rintro rfl
    rcases hc with rfl | hc
    · rw [hfree] at e; cases e
    · rw [hfree] at hc; cases hc
  rcases hx with hk | hk
  · refine wpAny_storeName_local hk hn (fun h' hn' hs => ?_) hcls
    obtain ⟨oL, _, _, hoL, _⟩ := id hn
    refine h _ ⟨I.ok, I.os, I.bare, ⟨fun b o e n hb hx => ?_, fun b o e n hb hx => ?_, I.base.free, fun b o e hx => ?_, I.base.tups, I.base.frzs, I.base.tbls⟩, ⟨_, hn', fun j y v' e1 e2 e3 => ?_⟩, fun y c e => ?_, I.free, I.freeC, fun p hp => ?_, tracked ⟨oL, hoL, I.free⟩ hs, by simpa using I.len⟩ ⟨_, hs, .inl rfl⟩
    · exact (hs.2 b (Nat.ne_of_lt (Nat.lt_of_lt_of_le (Heap.lt_size e) I.ok.above))).trans (I.base.keep b o e n hb hx)
    · obtain ⟨sl, e1⟩ := I.base.slot b o e n hb hx
      exact ⟨sl, (hs.2 b (Nat.ne_of_lt (Nat.lt_of_lt_of_le (Heap.lt_size e) I.ok.above))).trans e1⟩
    · obtain ⟨o', e1⟩ := I.base.there b o e hx
      exact ⟨o', (hs.2 b (Nat.ne_of_lt (Nat.lt_of_lt_of_le (Heap.lt_size e) I.ok.above))).trans e1⟩
    · by_cases hj : j = i
      · subst hj
        rw [hi] at e1; cases e1
        rw [List.getElem?_set_self hiσ] at e2
        cases e2
        exact ⟨u, r, .inl ⟨hk, by simp⟩⟩
      · rw [List.getElem?_set_ne (Ne.symm hj)] at e2
        obtain ⟨u', r', q⟩ := hl j y v' e1 e2 e3
        refine ⟨u', r', ?_⟩
        rcases q with ⟨k, e⟩ | ⟨k, c, e, z⟩
        · refine .inl ⟨k, ?_⟩
          have : y ≠ x := fun e => hj (A3z hN e1 (e ▸ hi))
          simp [this, e]
        · exact .inr ⟨k, c, e, z.sameBut hs (cne y c e)⟩
    · obtain ⟨w', z⟩ := I.cell y c e
      exact ⟨w', z.sameBut hs (cne y c e)⟩
    · obtain ⟨e, n, ne, nf, d⟩ := I.pin p hp
      exact ⟨(hs.2 p.1 ne).trans e, n, ne, nf, d⟩
  · have hfn : X.fn x = true := by
      rcases hf with z | z
      · exact z
      · rw [z] at hk; cases hk
    obtain ⟨c, hc⟩ := I.ok.has x (.inl hk)
    obtain ⟨w', z⟩ := I.cell x c hc
    refine wpAny_storeName_cell I.ok.kind hk hc z (fun h' hc' hs => ?_)
    obtain ⟨oc, hoc, hocd⟩ := id z
    refine h { s with heap := h' } ⟨I.ok, I.os, I.bare, ⟨fun b o e n hb hx => ?_, fun b o e n hb hx => ?_, I.base.free, fun b o e hx => ?_, I.base.tups, I.base.frzs, I.base.tbls⟩, ⟨m, hn.sameBut hs (Ne.symm (cne x c hc)), fun j y v' e1 e2 e3 => ?_⟩, fun y c' e => ?_, I.free, I.freeC, fun p hp => ?_, tracked ⟨oc, hoc, I.freeC x c hc⟩ hs, by simpa using I.len⟩ ⟨c, hs, .inr hc⟩
    · exact (hs.2 b (Nat.ne_of_lt (Nat.lt_of_lt_of_le (Heap.lt_size e) (I.ok.cab x c hfn hc)))).trans (I.base.keep b o e n hb hx)
    · obtain ⟨sl, e1⟩ := I.base.slot b o e n hb hx
      exact ⟨sl, (hs.2 b (Nat.ne_of_lt (Nat.lt_of_lt_of_le (Heap.lt_size e) (I.ok.cab x c hfn hc)))).trans e1⟩
    · obtain ⟨o', e1⟩ := I.base.there b o e hx
      exact ⟨o', (hs.2 b (Nat.ne_of_lt (Nat.lt_of_lt_of_le (Heap.lt_size e) (I.ok.cab x c hfn hc)))).trans e1⟩
    · by_cases hj : j = i
      · subst hj
        rw [hi] at e1; cases e1
        rw [List.getElem?_set_self hiσ] at e2
        cases e2
        exact ⟨u, r, .inr ⟨.inl hk, c, hc, hc'⟩⟩
      · rw [List.getElem?_set_ne (Ne.symm hj)] at e2
        obtain ⟨u', r', q⟩ := hl j y v' e1 e2 e3
        refine ⟨u', r', ?_⟩
        rcases q with q | ⟨k, c', e, z'⟩
        · exact .inl q
        · refine .inr ⟨k, c', e, z'.sameBut hs ?_⟩
          rintro rfl
          exact hj (A3z hN e1 (I.ok.inj _ _ _ e hc ▸ hi))
    · by_cases hcc : c' = c
      · subst hcc; exact ⟨_, hc'⟩
      · obtain ⟨w2, z2⟩ := I.cell y c' e
        exact ⟨w2, z2.sameBut hs hcc⟩
    · obtain ⟨e, n, ne, nf, d⟩ := I.pin p hp
      refine ⟨(hs.2 p.1 ?_).trans e, n, ne, nf, d⟩
      intro q
      rw [q, hoc] at e
      have q' : oc = p.2 := Option.some.inj e
      exact d w' (by rw [<- q']; exact hocd)
theorem R3 {M : Model} {A : Around} {E : Value -> Shared -> Prop} {i : Nat} {x : Str} {v : V} {u : Value} {Q : Unit -> Shared -> Prop} (I : Inv X pins σ H s) (hN : X.N.Nodup) (hi : X.N[i]? = some x) (hx : Loc X.env.scope x) (r : RelV v u)
    (h : ∀ s', Inv X pins (σ.set i (some v)) H s' -> Q () s') (hf : X.fn x = true \/ X.env.scope.names.lookup x = some .local := by first | exact .inl rfl | exact .inr rfl | assumption) : wpAny M A (storeName X.env x u) Q E s :=
  A0l I hN hi hx r (fun s' I' _ => h s' I') hf
theorem Inv.call' {s' : Shared} {ch : List Addr} (I : Inv X pins σ H s) (ho : s'.os = s.os) (u : Un (frs X.stack) ch H H' s.heap s'.heap) (hok : HOk X.prog X.w H' s'.heap) (hg : AllBare s'.gens)
    (hch : ∀ b ∈ ch, (b ∈ X.ex \/ X.s₀.heap.objs.size <= b) /\ b ≠ X.env.locals /\ (∀ x c, X.env.cells.lookup x = some c -> c ≠ b) /\ ∀ p ∈ X.pn ++ pins, p.1 ≠ b) : Inv X pins σ H' s' := by
  obtain ⟨h', g', d', t', o'⟩ := s'
  have e : o' = s.os := ho
  subst e
  exact I.call (g' := g') (t' := t') (d' := d') u hok hg hch
end
abbrev XK := Value -> Option Addr -> Hp -> Prop
abbrev St := List (Option V)
abbrev VK := V -> Hp -> Prop
abbrev TE := St -> Hp -> VK -> Prop
abbrev TT := St -> Hp -> (Bool -> Hp -> Prop) -> Prop
abbrev TA := St -> Hp -> (List V -> Hp -> Prop) -> Prop
structure Ends where
  nx : St -> Hp -> Prop
  rt : VK
  bk : St -> Hp -> Prop := fun _ _ => False
  ct : St -> Hp -> Prop := fun _ _ => False
abbrev TS := Ends -> St -> Hp -> Prop
def EP (X : Cx) (pins : List (Addr × Obj)) (σ : St) (Q : VK) (u : Value) (s' : Shared) : Prop := ∃ v H', Inv X pins σ H' s' /\ RelV v u /\ Q v H'
def TP (X : Cx) (pins : List (Addr × Obj)) (σ : St) (Q : Bool -> Hp -> Prop) (b : Bool) (s' : Shared) : Prop := ∃ H', Inv X pins σ H' s' /\ Q b H'
def AP (X : Cx) (pins : List (Addr × Obj)) (σ : St) (Q : List V -> Hp -> Prop) (us : List Value) (s' : Shared) : Prop := ∃ vs H', Inv X pins σ H' s' /\ Vals vs us /\ Q vs H'
def SP (X : Cx) (pins : List (Addr × Obj)) (D : Ends) (f : Flow) (s' : Shared) : Prop :=
  match f with
  | .next => ∃ σ' H', Inv X pins σ' H' s' /\ D.nx σ' H'
  | .brk => ∃ σ' H', Inv X pins σ' H' s' /\ D.bk σ' H'
  | .cont => ∃ σ' H', Inv X pins σ' H' s' /\ D.ct σ' H'
  | .ret u => ∃ v σ' H', Inv X pins σ' H' s' /\ RelV v u /\ D.rt v H'
def PE (X : Cx) (e : Expr) (t : TE) : Prop :=
  ∀ (pins : List (Addr × Obj)) (s : Shared) (σ : St) (H : Hp) (Q : VK), Inv X pins σ H s -> t σ H Q -> wpAny (model X.prog X.w) X.A (eval e X.env) (EP X pins σ Q) X.xe s
def PT (X : Cx) (e : Expr) (t : TT) : Prop :=
  ∀ (pins : List (Addr × Obj)) (s : Shared) (σ : St) (H : Hp) (Q : Bool -> Hp -> Prop), Inv X pins σ H s -> t σ H Q -> wpAny (model X.prog X.w) X.A (isTrue e X.env (eval e X.env)) (TP X pins σ Q) X.xe s
def PW (X : Cx) (e : Expr) (t : TT) : Prop :=
  ∀ (whole : Sem Value) (pins : List (Addr × Obj)) (s : Shared) (σ : St) (H : Hp) (Q : Bool -> Hp -> Prop), Inv X pins σ H s -> t σ H Q -> wpAny (model X.prog X.w) X.A (isTrue e X.env whole) (TP X pins σ Q) X.xe s
theorem PW.pt {X : Cx} {e : Expr} {t : TT} (h : PW X e t) : PT X e t := h _
def PA (X : Cx) (es : List Expr) (t : TA) : Prop :=
  ∀ (pos : Pos) (pins : List (Addr × Obj)) (s : Shared) (σ : St) (H : Hp) (Q : List V -> Hp -> Prop), Inv X pins σ H s -> t σ H Q -> wpAny (model X.prog X.w) X.A (spliced (backTo pos (starEach es X.env))) (AP X pins σ Q) X.xe s
def PS (X : Cx) (st : Stmt) (t : TS) : Prop :=
  ∀ (pins : List (Addr × Obj)) (s : Shared) (σ : St) (H : Hp) (D : Ends), Inv X pins σ H s -> t D σ H -> wpAny (model X.prog X.w) X.A (exec st X.env) (SP X pins D) X.xe s
def PSs (X : Cx) (st : List Stmt) (t : TS) : Prop :=
  ∀ (pins : List (Addr × Obj)) (s : Shared) (σ : St) (H : Hp) (D : Ends), Inv X pins σ H s -> t D σ H -> wpAny (model X.prog X.w) X.A (execs st X.env) (SP X pins D) X.xe s
theorem thn {α : Type} {t : Sem α} {Q Q' : α -> Shared -> Prop} {M : Model} {A : Around} {E : Value -> Shared -> Prop} {s : Shared} (h : wpAny M A t Q E s) (hQ : ∀ a s, Q a s -> Q' a s) : wpAny M A t Q' E s := wpAny_mono h hQ fun _ _ x => x
end L2
namespace L2
open PySem PySem.Spec PyProof.Rows
section
variable {X : Cx}
theorem bin {a b : Expr} {ta tb : TE} (ha : PE X a ta) (hb : PE X b tb) {pins : List (Addr × Obj)} {s : Shared} {σ : St} {H : Hp} {R : V -> V -> Hp -> Prop} (I : Inv X pins σ H s) (h : ta σ H fun x H1 => tb σ H1 fun y H2 => R x y H2)
    {α : Type} {Q : α -> Shared -> Prop} {f : Value -> Value -> Sem α}
    (hf : ∀ v u s2 x y H2, Inv X pins σ H2 s2 -> RelV x v -> RelV y u -> R x y H2 -> wpAny (model X.prog X.w) X.A (f v u) Q X.xe s2) :
    wpAny (model X.prog X.w) X.A (eval a X.env) (fun v s₁ => wpAny (model X.prog X.w) X.A (eval b X.env) (fun u s₂ => wpAny (model X.prog X.w) X.A (f v u) Q X.xe s₂) X.xe s₁) X.xe s := by
  refine thn (ha pins s σ H _ I h) fun v s1 ⟨x, H1, I1, r1, q1⟩ => ?_
  refine thn (hb pins s1 σ H1 _ I1 q1) fun u s2 ⟨y, H2, I2, r2, q2⟩ => ?_
  exact hf v u s2 x y H2 I2 r1 r2 q2
def tVar (i : Nat) : TE := fun σ H Q => ∃ v, σ[i]? = some (some v) /\ Q v H
def tC (v : V) : TE := fun _ H Q => Q v H
theorem B7l {i : Nat} {x : Str} {pos : Pos} (hN : X.N[i]? = some x) (hv : Vis X.env.scope x) (hd : (x == ("__debug__" : Str)) = false := by decide) (hcd : (x == ("__classdict__" : Str)) = false := by decide) : PE X (.Name x pos) (tVar i) := by
  intro pins s σ H Q I h
  obtain ⟨v, e, h⟩ := h
  obtain ⟨m, hn, hl⟩ := I.loc
  obtain ⟨u, r, l⟩ := hl i x v hN e hv
  have fin : EP X pins σ Q u s := ⟨v, H, I, r, h⟩
  rcases l with ⟨hk, hm⟩ | ⟨hk, c, hc, hcell⟩
  · exact wpAny_Name (wpAny_loadName_local I.ok.kind hk hn hm fin) hd
  · rcases hk with hk | hk
    · exact wpAny_Name (wpAny_loadName_cell I.ok.kind hk hc hcell fin) hd
    · exact wpAny_Name (wpAny_loadName_free I.ok.kind hk hc hcell fin hcd) hd
theorem D1 {i j pos} : PE X (.Constant (.int i) j pos) (tC (.int i)) := fun _ _ _ H _ I h => wpAny_Constant_int ⟨.int i, H, I.tok _, ⟨_, rfl⟩, h⟩
theorem C0d {b j pos} : PE X (.Constant (.bool b) j pos) (tC (.bl b)) := fun _ _ _ H _ I h => Constant_bool ⟨.bl b, H, I, rfl, h⟩
theorem B7o {j pos} : PE X (.Constant .none j pos) (tC .non) := fun _ _ _ H _ I h => Constant_none ⟨.non, H, I, rfl, h⟩
def Gl (X : Cx) (x : Str) : Prop := X.env.kindOf x = some .globalImplicit
theorem B57 {E : Value -> Shared -> Prop} {pins : List (Addr × Obj)} {s : Shared} {σ : St} {H : Hp} {x : Str} {u : Value} {pos : Pos} {Q : Value -> Shared -> Prop} (I : Inv X pins σ H s) (hg : Gl X x) (hm : X.mg x = some u) (h : Q u s)
    (hd : (x == ("__debug__" : Str)) = false := by decide) : wpAny (model X.prog X.w) X.A (eval (.Name x pos) X.env) Q E s :=
  Calls.Name_function_global I.ok.kind hg (Calls.loadGlobal_global (by rw [I.ok.glob]; exact I.mod.glob.keeps I.bk) hm h) hd
theorem U6 {E : Value -> Shared -> Prop} {pins : List (Addr × Obj)} {s : Shared} {σ : St} {H : Hp} {x : Str} {u : Value} {pos : Pos} {Q : Value -> Shared -> Prop} (I : Inv X pins σ H s) (hg : Gl X x) (hm : X.mg x = none) (hv : bootBuiltins x = some u) (h : Q u s)
    (hn : x ≠ "__name__" := by decide) (hd : (x == ("__debug__" : Str)) = false := by decide) : wpAny (model X.prog X.w) X.A (eval (.Name x pos) X.env) Q E s := by
  obtain ⟨mb, h1, h2⟩ := I.mod.blt
  exact Calls.Name_function_global I.ok.kind hg (Calls.loadGlobal_builtin (by rw [I.ok.glob]; exact I.mod.glob.keeps I.bk) hm (by rw [I.ok.blt]; exact h1.keeps I.bk) ((h2 x hn).trans hv) h) hd
theorem B5c {x : Str} {v : V} {u : Value} {pos : Pos} (hg : Gl X x) (hm : X.mg x = none) (hv : bootBuiltins x = some u) (r : RelV v u) (hn : x ≠ "__name__" := by decide) (hd : (x == ("__debug__" : Str)) = false := by decide) : PE X (.Name x pos) (tC v) :=
  fun _ _ _ H _ I h => U6 I hg hm hv ⟨v, H, I, r, h⟩ hn hd
variable {a b : Expr} {ta tb : TE} {pos : Pos}
def PC (X : Cx) (op : CmpOp) (a b : Expr) (t : TE) : Prop :=
  ∀ (pins : List (Addr × Obj)) (s : Shared) (σ : St) (H : Hp) (Q : VK), Inv X pins σ H s -> t σ H Q ->
    wpAny (model X.prog X.w) X.A (eval a X.env) (fun v s₁ => wpAny (model X.prog X.w) X.A (eval b X.env) (fun u s₂ => wpAny (model X.prog X.w) X.A (compareOp op v u) (EP X pins σ Q) X.xe s₂) X.xe s₁) X.xe s
theorem B07 (b : Expr) {op : CmpOp} (h : op ≠ .In) (h2 : op ≠ .NotIn) : behindInMarks op b = false := by
  have e1 : (op == CmpOp.In) = false := by cases op <;> first | rfl | exact absurd rfl h
  have e2 : (op == CmpOp.NotIn) = false := by cases op <;> first | rfl | exact absurd rfl h2
  cases b <;> simp [behindInMarks, e1, e2]
def tB (t : TE) : TT := fun σ H Q => t σ H fun x H1 => ∃ c, x = .bl c /\ Q c H1
theorem C0q {op : CmpOp} {t : TE} (h : PC X op a b t) (h1 : behindInMarks op b = false := by first | exact B07 _ (by decide) (by decide) | rfl) : PT X (.Compare a [op] [b] pos) (tB t) := by
  intro pins s σ H Q I hw
  refine wpAny_isTrue_Compare1 (thn (h pins s σ H _ I hw) fun v s1 h1 => thn h1 fun u s2 h2 => thn h2 fun c s3 ⟨x, H1, I1, r1, q1⟩ => ?_) h1
  obtain ⟨d, rfl, q⟩ := q1
  cases r1
  exact wpAny_truthy_bool ⟨H1, I1, q⟩
theorem B13 {e : Expr} {t : TE} (h : PE X e t) (he : ∀ whole, isTrue e X.env whole = (do let v <- whole; standAt e.pos; holding [v] (truthy v)) := by intro _; rfl) : PT X e (tB t) := by
  intro pins s σ H Q I hw
  refine isTrue_plain (thn (h pins s σ H _ I hw) fun v s1 ⟨x, H1, I1, r1, q1⟩ => ?_) (he _)
  obtain ⟨d, rfl, q⟩ := q1
  cases r1
  exact wpAny_truthy_bool ⟨H1, I1, q⟩
variable {tA tB' : TT} {rest : List Expr}
def tAnd (t u : TT) : TT := fun σ H Q => t σ H fun c H1 => if c = true then u σ H1 Q else Q false H1
def tOr (t u : TT) : TT := fun σ H Q => t σ H fun c H1 => if c = true then Q true H1 else u σ H1 Q
def tNot (t : TT) : TT := fun σ H Q => t σ H fun c H1 => Q (!c) H1
theorem B4x (ha : PT X a tA) : PW X (.BoolOp .And [a] pos) tA := by
  intro wh pins s σ H Q I h
  refine isTrue_and (thn (ha pins s σ H Q I h) fun c s1 e => ?_)
  cases c with
  | true => exact isTrue_and_nil e
  | false => exact e
theorem B7e (ha : PT X a tA) : PW X (.BoolOp .Or [a] pos) tA := by
  intro wh pins s σ H Q I h
  refine isTrue_or (thn (ha pins s σ H Q I h) fun c s1 e => ?_)
  cases c with
  | false => exact isTrue_or_nil e
  | true => exact e
theorem B7f (ha : PT X a tA) (hb : PW X (.BoolOp .And (b :: rest) pos) tB') : PW X (.BoolOp .And (a :: b :: rest) pos) (tAnd tA tB') := by
  intro wh pins s σ H Q I h
  refine isTrue_and (thn (ha pins s σ H _ I h) fun c s1 ⟨H1, I1, q1⟩ => ?_)
  cases c with
  | true => exact hb wh pins s1 σ H1 Q I1 q1
  | false => exact ⟨H1, I1, q1⟩
theorem B98 (ha : PT X a tA) (hb : PW X (.BoolOp .Or (b :: rest) pos) tB') : PW X (.BoolOp .Or (a :: b :: rest) pos) (tOr tA tB') := by
  intro wh pins s σ H Q I h
  refine isTrue_or (thn (ha pins s σ H _ I h) fun c s1 ⟨H1, I1, q1⟩ => ?_)
  cases c with
  | true => exact ⟨H1, I1, q1⟩
  | false => exact hb wh pins s1 σ H1 Q I1 q1
theorem B7g (ha : PT X a tA) : PT X (.UnaryOp .Not a pos) (tNot tA) := by
  intro pins s σ H Q I h
  exact isTrue_not (ha pins s σ H (fun c H1 => Q (!c) H1) I h)
def B4l (ta tb : TE) : TE := fun σ H Q => ta σ H fun x H1 => ∃ c, x = .bl c /\ if c = true then tb σ H1 Q else Q (.bl false) H1
def tOrV (ta tb : TE) : TE := fun σ H Q => ta σ H fun x H1 => ∃ c, x = .bl c /\ if c = true then Q (.bl true) H1 else tb σ H1 Q
theorem B7n {op} {t : TE} (h : PE X a t) : PE X (.BoolOp op [a] pos) t := fun pins s σ H Q I hw => BoolOp_one (h pins s σ H Q I hw)
theorem B7q (ha : PE X a ta) (hb : PE X (.BoolOp .And (b :: rest) pos) tb) : PE X (.BoolOp .And (a :: b :: rest) pos) (B4l ta tb) := by
  intro pins s σ H Q I h
  refine BoolOp_and (thn (ha pins s σ H _ I h) fun v s1 ⟨x, H1, I1, r1, q1⟩ => ?_)
  obtain ⟨c, rfl, q1⟩ := q1
  cases r1
  refine wpAny_truthy_bool ?_
  cases c with
  | true => exact hb pins s1 σ H1 Q I1 q1
  | false => exact ⟨.bl false, H1, I1, rfl, q1⟩
theorem C0b (ha : PE X a ta) (hb : PE X (.BoolOp .Or (b :: rest) pos) tb) : PE X (.BoolOp .Or (a :: b :: rest) pos) (tOrV ta tb) := by
  intro pins s σ H Q I h
  refine BoolOp_or (thn (ha pins s σ H _ I h) fun v s1 ⟨x, H1, I1, r1, q1⟩ => ?_)
  obtain ⟨c, rfl, q1⟩ := q1
  cases r1
  refine wpAny_truthy_bool ?_
  cases c with
  | false => exact hb pins s1 σ H1 Q I1 q1
  | true => exact ⟨.bl true, H1, I1, rfl, q1⟩
def tIf (t : TT) (ta tb : TE) : TE := fun σ H Q => t σ H fun c H1 => if c = true then ta σ H1 Q else tb σ H1 Q
theorem B0w {c : Expr} (hc : PT X c tA) (ha : PE X a ta) (hb : PE X b tb) : PE X (.IfExp c a b pos) (tIf tA ta tb) := by
  intro pins s σ H Q I h
  refine wpAny_IfExp (thn (hc pins s σ H _ I h) fun d s1 ⟨H1, I1, q1⟩ => ?_)
  cases d with
  | true => exact ha pins s1 σ H1 Q I1 q1
  | false => exact hb pins s1 σ H1 Q I1 q1
end
end L2
namespace L2
open PySem PySem.Spec PyProof.Rows
def SqL (K : PySem.W.Frag) (H : Hp) (a : Addr) (xs : List V) : Prop :=
  Rd H a (.lst xs) \/
    ∃ (o : Obj) (its : Array Value) (n : Nat), K.lookup a = some o /\ o.cls = .type "list" /\ o.dict = none /\ o.data = .seq its n /\ its.size <= sizeLine /\ Vals xs its.toList
def SqT (K : PySem.W.Frag) (H : Hp) (a : Addr) (xs : List V) : Prop :=
  Rd H a (.tup xs) \/
    ∃ (o : Obj) (its : Array Value) (n : Nat), K.lookup a = some o /\ o.cls = .type "tuple" /\ o.data = .seq its n /\ its.size <= sizeLine /\ Vals xs its.toList
def absV : Value -> Option V
  | .none => some .non
  | .bool b => some (.bl b)
  | .int i _ => some (.int i)
  | .str x _ => some (.str x)
  | .bytes b _ => some (.byt b)
  | .float b _ => some (.flt b)
  | .ref a => some (.ref a)
  | .type n => some (.ty n)
  | _ => none
theorem RelV.abs {x : V} {u : Value} (r : RelV x u) : absV u = some x := by
  cases x with
  | non => cases r; rfl
  | bl _ => cases r; rfl
  | int _ => obtain ⟨t, rfl⟩ := r; rfl
  | str _ => obtain ⟨t, rfl⟩ := r; rfl
  | byt _ => obtain ⟨t, rfl⟩ := r; rfl
  | flt _ => obtain ⟨t, rfl⟩ := r; rfl
  | ref _ => cases r; rfl
  | ty _ => cases r; rfl
theorem RelV.inj {x y : V} {u : Value} (r : RelV x u) (q : RelV y u) : x = y := Option.some.inj (r.abs.symm.trans q.abs)
theorem Vals.inj : ∀ {xs ys : List V} {us : List Value}, Vals xs us -> Vals ys us -> xs = ys
  | _, _, _, .nil, .nil => rfl
  | _, _, _, .cons r t, .cons r' t' => by rw [r.inj r', Vals.inj t t']
section
variable {X : Cx} {pins : List (Addr × Obj)} {σ : St} {H : Hp} {s : Shared} {a : Addr} {xs ys : List V}
theorem SqL.of {K : PySem.W.Frag} (h : H a = some (.lst xs)) : SqL K H a xs := .inl (.inl h)
theorem SqT.of {K : PySem.W.Frag} (h : H a = some (.tup xs)) : SqT K H a xs := .inl (.inl h)
theorem Inv.list (I : Inv X pins σ H s) (h : SqL X.K H a xs) : ∃ its : List Value, Vals xs its /\ PlainL s.heap a its.toArray /\ xs.length <= sizeLine := by
  rcases h with h | ⟨o, its, n, hk, hc, hd, hs, hz, r⟩
  · obtain ⟨z, its, n, r, e⟩ := h.ok I.hok
    exact ⟨its, r, ⟨_, n, e, rfl, rfl, rfl⟩, z⟩
  · refine ⟨its.toList, r, ⟨o, n, I.kIn a o hk, hc, hd, by simpa using hs⟩, ?_⟩
    have e := r.length
    simp only [Array.length_toList] at e
    omega
theorem Inv.tuple (I : Inv X pins σ H s) (h : SqT X.K H a xs) : ∃ its : List Value, Vals xs its /\ IsTup s.heap a its.toArray /\ xs.length <= sizeLine := by
  rcases h with h | ⟨o, its, n, hk, hc, hs, hz, r⟩
  · obtain ⟨z, its, r, p⟩ := h.ok I.hok
    exact ⟨its, r, p, z⟩
  · refine ⟨its.toList, r, ⟨o, I.kIn a o hk, hc, n, by simpa using hs⟩, ?_⟩
    have e := r.length
    simp only [Array.length_toList] at e
    omega
theorem Inv.list_inj (I : Inv X pins σ H s) (h : SqL X.K H a xs) (h' : SqL X.K H a ys) : xs = ys := by
  obtain ⟨its, r, ⟨o, n, e, _, _, d⟩, _⟩ := I.list h
  obtain ⟨its', r', ⟨o', n', e', _, _, d'⟩, _⟩ := I.list h'
  rw [e] at e'; cases e'
  rw [d] at d'
  injection d' with d1 _
  have : its = its' := by simpa using congrArg Array.toList d1
  subst this
  exact r.inj r'
theorem Inv.tuple_inj (I : Inv X pins σ H s) (h : SqT X.K H a xs) (h' : SqT X.K H a ys) : xs = ys := by
  obtain ⟨its, r, ⟨o, e, _, n, d⟩, _⟩ := I.tuple h
  obtain ⟨its', r', ⟨o', e', _, n', d'⟩, _⟩ := I.tuple h'
  rw [e] at e'; cases e'
  rw [d] at d'
  injection d' with d1 _
  have : its = its' := by simpa using congrArg Array.toList d1
  subst this
  exact r.inj r'
end
abbrev Cx.wish (X : Cx) (E : Value -> Shared -> Prop) : Cx := { X with xe := E }
abbrev Cx.nox (X : Cx) : Cx := X.wish fun _ _ => False
theorem Cx.Ok.wish {X : Cx} (ok : X.Ok) (E : Value -> Shared -> Prop) : (X.wish E).Ok :=
  ⟨ok.mod, ok.kind, ok.glob, ok.blt, ok.above, ok.inj, ok.has, ok.cab, ok.hd, ok.frames, ok.stk, ok.exf, ok.bs, ok.bsz, ok.noex, ok.exfs, ok.funs, ok.frf⟩
theorem Cx.Ok.unwish {X : Cx} {E : Value -> Shared -> Prop} (ok : (X.wish E).Ok) : X.Ok :=
  ⟨ok.mod, ok.kind, ok.glob, ok.blt, ok.above, ok.inj, ok.has, ok.cab, ok.hd, ok.frames, ok.stk, ok.exf, ok.bs, ok.bsz, ok.noex, ok.exfs, ok.funs, ok.frf⟩
section
variable {X : Cx} {pins : List (Addr × Obj)} {σ : St} {H : Hp} {s : Shared} {E : Value -> Shared -> Prop}
theorem Inv.wish (I : Inv X pins σ H s) (E : Value -> Shared -> Prop) : Inv (X.wish E) pins σ H s := ⟨I.ok.wish E, I.os, I.bare, I.base, I.loc, I.cell, I.free, I.freeC, I.pin, I.hok, I.len⟩
theorem Inv.unwish (I : Inv (X.wish E) pins σ H s) : Inv X pins σ H s := ⟨I.ok.unwish, I.os, I.bare, I.base, I.loc, I.cell, I.free, I.freeC, I.pin, I.hok, I.len⟩
theorem SP.unwish {D : Ends} {f : Flow} {s' : Shared} (h : SP (X.wish E) pins D f s') : SP X pins D f s' := by
  cases f with
  | next => obtain ⟨σ', H', I, q⟩ := h; exact ⟨σ', H', I.unwish, q⟩
  | brk => obtain ⟨σ', H', I, q⟩ := h; exact ⟨σ', H', I.unwish, q⟩
  | cont => obtain ⟨σ', H', I, q⟩ := h; exact ⟨σ', H', I.unwish, q⟩
  | ret u => obtain ⟨v, σ', H', I, r, q⟩ := h; exact ⟨v, σ', H', I.unwish, r, q⟩
theorem PSs.nox {st : List Stmt} {t : TS} (h : PSs X.nox st t) : PSs X st t := fun pins s σ H D I hw =>
  wpAny_mono (h pins s σ H D (I.wish _) hw) (fun _ _ q => q.unwish) fun _ _ z => False.elim z
end
section
variable {X : Cx} {st : Stmt} {rest : List Stmt} {t u : TS} {e : Expr} {te : TE} {pos : Pos}
def B4i : TS := fun D σ H => D.nx σ H
def tSeq (t u : TS) : TS := fun D σ H => t { D with nx := u D } σ H
theorem A15 : PSs X [] B4i := fun _ _ σ H _ I h => wpAny_execs_nil ⟨σ, H, I, h⟩
theorem F9 (h1 : PS X st t) (h2 : PSs X rest u) : PSs X (st :: rest) (tSeq t u) := by
  intro pins s σ H D I h
  refine wpAny_execs_cons (thn (h1 pins s σ H { D with nx := u D } I h) fun f s1 q => ?_)
  cases f with
  | next =>
    obtain ⟨σ', H', I', q⟩ := q
    exact h2 pins s1 σ' H' D I' q
  | ret v => exact q
  | brk => exact q
  | cont => exact q
theorem P1 (h1 : PS X st t) : PSs X [st] t := by
  intro pins s σ H D I h
  refine wpAny_execs_cons (thn (h1 pins s σ H D I h) fun f s1 q => ?_)
  cases f with
  | next => exact wpAny_execs_nil q
  | ret v => exact q
  | brk => exact q
  | cont => exact q
theorem Inv.quiet {pins : List (Addr × Obj)} {σ : St} {H : Hp} {s : Shared} (I : Inv X pins σ H s) : interactive X.env = false := by simp [interactive, I.ok.kind]
def A4y (te : TE) : TS := fun D σ H => te σ H fun _ H1 => D.nx σ H1
theorem B42 (he : PE X e te) (hs : swapsWith e none pos.line X.env = pure false := by rfl) : PS X (.Expr e pos) (A4y te) := by
  intro pins s σ H D I h
  exact wpAny_Expr_any (thn (he pins s σ H _ I h) fun v s1 ⟨x, H1, I1, r1, q1⟩ => ⟨σ, H1, I1, q1⟩) I.quiet hs
def tRet (te : TE) : TS := fun D σ H => te σ H D.rt
theorem A3e (he : PE X e te) : PS X (.Return (some e) pos) (tRet te) := by
  intro pins s σ H D I h
  exact wpAny_Return_some (thn (he pins s σ H _ I h) fun v s1 ⟨x, H1, I1, r1, q1⟩ => ⟨x, σ, H1, I1, r1, q1⟩)
def tIfS (c : TT) (t u : TS) : TS := fun D σ H => c σ H fun b H1 => if b = true then t D σ H1 else u D σ H1
theorem B41 {c : Expr} {a b : List Stmt} {tc : TT} (hc : PT X c tc) (ha : PSs X a t) (hb : PSs X b u) : PS X (.If c a b pos) (tIfS tc t u) := by
  intro pins s σ H D I h
  refine wpAny_If (thn (hc pins s σ H _ I h) fun d s1 ⟨H1, I1, q1⟩ => ?_)
  cases d with
  | true => exact ha pins s1 σ H1 D I1 q1
  | false => exact hb pins s1 σ H1 D I1 q1
def A5t : TS := fun _ _ _ => False
theorem B0s : PS X st A5t := fun _ _ _ _ _ _ h => h.elim
end
abbrev TG := V -> St -> Hp -> (St -> Hp -> Prop) -> Prop
abbrev TGs := List V -> St -> Hp -> (St -> Hp -> Prop) -> Prop
def PG (X : Cx) (target : Expr) (t : TG) : Prop :=
  ∀ (pins : List (Addr × Obj)) (s : Shared) (σ : St) (H : Hp) (v : V) (u : Value) (Q : St -> Hp -> Prop), Inv X pins σ H s -> RelV v u -> t v σ H Q ->
    wpAny (model X.prog X.w) X.A (assign target X.env u) (fun _ s' => ∃ σ' H', Inv X pins σ' H' s' /\ Q σ' H') X.xe s
def PGs (X : Cx) (ts : List Expr) (t : TGs) : Prop :=
  ∀ (pins : List (Addr × Obj)) (s : Shared) (σ : St) (H : Hp) (vs : List V) (us : List Value) (Q : St -> Hp -> Prop), Inv X pins σ H s -> Vals vs us -> t vs σ H Q ->
    wpAny (model X.prog X.w) X.A (assignInOrder ((assignEach ts X.env).map (·.2)) us) (fun _ s' => ∃ σ' H', Inv X pins σ' H' s' /\ Q σ' H') X.xe s
abbrev TSet := V -> V -> V -> Hp -> (Hp -> Prop) -> Prop
def PSet (X : Cx) (t : TSet) : Prop :=
  ∀ (pins : List (Addr × Obj)) (s : Shared) (σ : St) (H : Hp) (o i v : V) (ov iv u : Value) (Q : Hp -> Prop), Inv X pins σ H s -> RelV o ov -> RelV i iv -> RelV v u -> t o i v H Q ->
    wpAny (model X.prog X.w) X.A (setItem ov iv u) (fun _ s' => ∃ H', Inv X pins σ H' s' /\ Q H') X.xe s
section
variable {X : Cx} {pos : Pos}
def Q8 (i : Nat) : TG := fun v σ H Q => Q (σ.set i (some v)) H
theorem A6j {i : Nat} {x : Str} (hN : X.N.Nodup) (hi : X.N[i]? = some x) (hx : Loc X.env.scope x) (hf : X.fn x = true \/ X.env.scope.names.lookup x = some .local := by first | exact .inl rfl | exact .inr rfl | assumption) : PG X (.Name x pos) (Q8 i) := by
  intro pins s σ H v u Q I r h
  exact wpAny_assign_Name (R3 I hN hi hx r (fun s' I' => ⟨_, H, I', h⟩) hf)
def gNil : TGs := fun vs σ H Q => vs = [] /\ Q σ H
def A2m (t : TG) (u : TGs) : TGs := fun vs σ H Q => ∃ v r, vs = v :: r /\ t v σ H fun σ' H' => u r σ' H' Q
theorem B48 : PGs X [] gNil := by
  intro pins s σ H vs us Q I r h
  obtain ⟨e, h⟩ := h
  subst e
  cases r
  exact assignInOrder_nil ⟨σ, H, I, h⟩
theorem B0u {e : Expr} {es : List Expr} {t : TG} {u : TGs} (h1 : PG X e t) (h2 : PGs X es u)
    (hs : (assignEach (e :: es) X.env).map (·.2) = assign e X.env :: (assignEach es X.env).map (·.2) := by rfl) : PGs X (e :: es) (A2m t u) := by
  intro pins s σ H vs us Q I r h
  obtain ⟨v, vr, e1, h⟩ := h
  subst e1
  cases r with
  | cons r rr =>
    rw [hs]
    refine assignInOrder_cons (thn (h1 pins s σ H _ _ _ I r h) fun _ s1 ⟨σ1, H1, I1, q1⟩ => ?_)
    exact h2 pins s1 σ1 H1 _ _ Q I1 rr q1
def gTup (K : PySem.W.Frag) (n : Nat) (t : TGs) : TG := fun v σ H Q => ∃ a xs, v = .ref a /\ SqT K H a xs /\ xs.length = n /\ t xs σ H Q
theorem B7k {es : List Expr} {k : Nat} {t : TGs} {n : Nat} (hc : X.calm = true) (h : PGs X es t)
    (hn : (assignEach es X.env).length = n := by rfl) (hst : (assignEach es X.env).findIdx? (·.1) = none := by rfl) : PG X (.Tuple es k pos) (gTup X.K n t) := by
  intro pins s σ H v u Q I r hw
  obtain ⟨a, xs, e1, hq, hl, hw⟩ := hw
  subst e1
  cases r
  obtain ⟨its, rv, ht, hz⟩ := I.tuple hq
  refine assign_Tuple_tuple (I.ok.hd hc) ht (by simp [hn, <- hl, rv.length]) hst fun h' hx => ?_
  have I1 : Inv X pins σ H { s with heap := h' } := I.kept (t' := s.toks) fun b o e => hx b o (Nat.ne_of_lt (Heap.lt_size e)) e
  exact h pins _ σ H xs _ Q I1 (by simpa using rv) hw
def gSub (to ti : TE) (t : TSet) : TG := fun v σ H Q => to σ H fun o H1 => ti σ H1 fun i H2 => t o i v H2 fun H3 => Q σ H3
theorem A6i {o i : Expr} {to ti : TE} {t : TSet} (ho : PE X o to) (hi : PE X i ti) (hs : PSet X t)
    (ha : ∀ v, assign (.Subscript o i pos) X.env v = (do
      let ov <- holding [v] (eval o X.env)
      let iv <- holding [v, ov] (eval i X.env)
      standAt pos
      holding [v, ov, iv] (setItem ov iv v)
      release [v, ov, iv] []) := by intro _; rfl) : PG X (.Subscript o i pos) (gSub to ti t) := by
  intro pins s σ H v u Q I r h
  rw [ha]
  refine wpAny_bind (wpAny_holding (thn (ho pins s σ H _ I h) fun ov s1 ⟨x, H1, I1, r1, q1⟩ => ?_))
  refine wpAny_bind (wpAny_holding (thn (hi pins s1 σ H1 _ I1 q1) fun iv s2 ⟨y, H2, I2, r2, q2⟩ => ?_))
  refine wpAny_bind (wpAny_standAt (wpAny_bind (wpAny_holding (thn (hs pins s2 σ H2 x y v ov iv u _ I2 r1 r2 r q2) fun _ s3 ⟨H3, I3, q3⟩ => ?_))))
  exact wpAny_release ⟨σ, H3, I3, q3⟩
def tAsg (te : TE) (g : TG) : TS := fun D σ H => te σ H fun x H1 => g x σ H1 D.nx
theorem A3g {tg e : Expr} {te : TE} {g : TG} (he : PE X e te) (hg : PG X tg g) (hs : swapsWithSole [tg] e pos.line X.env = pure false := by rfl) (hw : swappedStores [tg] e X.env = pure none := by rfl)
    (h1 : (assignEach [tg] X.env).map (·.2) = [assign tg X.env] := by rfl) : PS X (.Assign [tg] e pos) (tAsg te g) := by
  intro pins s σ H D I h
  refine wpAny_Assign_stores (thn (he pins s σ H _ I h) fun v s1 ⟨x, H1, I1, r1, q1⟩ => ?_) hs hw
  rw [h1]
  exact thn (hg pins s1 σ H1 x v _ I1 r1 q1) fun _ s2 q => q
theorem X5 {i : Nat} {x : Str} {e : Expr} {te : TE} {pos' : Pos} (hN : X.N.Nodup) (hi : X.N[i]? = some x) (hx : Loc X.env.scope x) (he : PE X e te) (hs : swapsWith e (some (.Name x pos')) pos.line X.env = pure false := by rfl) (hf : X.fn x = true \/ X.env.scope.names.lookup x = some .local := by first | exact .inl rfl | exact .inr rfl | assumption) :
    PS X (.Assign [.Name x pos'] e pos) (tAsg te (Q8 i)) := by
  intro pins s σ H D I h
  refine wpAny_Assign_Name (thn (he pins s σ H _ I h) fun v s1 ⟨y, H1, I1, r1, q1⟩ => ?_) hs
  exact R3 I1 hN hi hx r1 (fun s2 I2 => ⟨_, H1, I2, q1⟩) hf
def tPar (i j : Nat) (ta : TA) : TS := fun D σ H => ta σ H fun vs H1 => ∃ v w, vs = [v, w] /\ D.nx ((σ.set i (some v)).set j (some w)) H1
theorem B7h {i j : Nat} {x y : Str} {a b : Expr} {ta : TA} {px py pt : Pos} {kt k2 pt2} (hc : X.calm = true) (hN : X.N.Nodup) (hi : X.N[i]? = some x) (hj : X.N[j]? = some y) (hij : i ≠ j)
    (hx : X.env.scope.names.lookup x = some .local) (hy : X.env.scope.names.lookup y = some .local) (ha : PA X [a, b] ta)
    (hw : swappedStores [.Tuple [.Name x px, .Name y py] kt pt] (.Tuple [a, b] k2 pt2) X.env = pure (some [x, y]))
    (hs : swapsWithSole [.Tuple [.Name x px, .Name y py] kt pt] (.Tuple [a, b] k2 pt2) pos.line X.env = pure false := by rfl) :
    PS X (.Assign [.Tuple [.Name x px, .Name y py] kt pt] (.Tuple [a, b] k2 pt2) pos) (tPar i j ta) := by
  intro pins s σ H D I h
  rw [exec_Assign_arm]
  refine wpAny_bind (wpAny_standAt ?_)
  rw [hs]
  refine wpAny_bind (wpAny_pure ?_)
  rw [if_neg (by decide)]
  refine wpAny_bind (Tuple_ (thn (ha _ pins s σ H _ I h) fun us s1 ⟨vs, H1, I1, r1, q1⟩ => ?_))
  obtain ⟨v, w, e1, q1⟩ := q1
  subst e1
  obtain ⟨u1, u2, rfl, rv, rw'⟩ : ∃ u1 u2, us = [u1, u2] /\ RelV v u1 /\ RelV w u2 := by
    cases r1 with
    | cons p q =>
      cases q with
      | cons p' q' =>
        cases q'
        exact ⟨_, _, rfl, p, p'⟩
  refine wpAny_newObj_type ?_ (by show 2 <= sizeLine; decide)
  have I2 : Inv X pins σ H1 { s1 with heap := s1.heap.push { cls := .type "tuple", data := .seq [u1, u2].toArray } } := I1.kept (t' := s1.toks) fun b o e => Heap.get?_push_of_some _ e
  rw [hw]
  refine wpAny_bind (wpAny_pure ?_)
  show wpAny (model X.prog X.w) X.A (do rule "assign.swapped-stores"; let items <- unpackItems (.ref s1.heap.objs.size) 2 none; assignInOrder [fun v => bindName X.env y v, fun v => bindName X.env x v] items.reverse; pure Flow.next) _ _ _
  refine wpAny_bind (wpAny_rule (wpAny_bind (unpackItems_tuple (items := #[u1, u2]) (I.ok.hd hc) (IsTup.new s1.heap _) fun h' hx' => ?_)))
  have I3 := I2.kept (h' := h') (t' := s1.toks) fun b o e => hx' b o (Nat.ne_of_lt (Heap.lt_size e)) e
  show wpAny _ _ (assignInOrder [fun v => bindName X.env y v, fun v => bindName X.env x v] [u2, u1] >>= fun _ => pure Flow.next) _ _ _
  refine wpAny_bind (assignInOrder_cons (wpAny_bindName (R3 I3 hN hj (.inl hy) rw' (fun s2 I4 => ?_) (.inr hy))))
  refine assignInOrder_cons (wpAny_bindName (R3 I4 hN hi (.inl hx) rv (fun s3 I5 => assignInOrder_nil (wpAny_pure ?_)) (.inr hx)))
  rw [List.set_comm _ _ (Ne.symm hij)] at I5
  exact ⟨_, H1, I5, q1⟩
end
section
variable {X : Cx} {pos : Pos}
def A5s (c : TT) (tb : TS) : TS := fun D σ H => ∃ W : Nat -> St -> Hp -> Prop, (∃ m, W m σ H) /\ ∀ m σ H, W m σ H ->
  c σ H fun b H1 => if b = true then ∃ N : St -> Hp -> Prop, (∀ σ' H', N σ' H' -> ∃ m', m' < m /\ W m' σ' H') /\ tb { D with nx := N, ct := N, bk := D.nx } σ H1 else D.nx σ H1
theorem B0r {c : Expr} {body : List Stmt} {tc : TT} {tb : TS} (hp : PassesOwn (model X.prog X.w) X.A X.env X.xe) (hc : PT X c tc) (hb : PSs X body tb) : PS X (.While c body [] pos) (A5s tc tb) := by
  intro pins s σ H D I h
  obtain ⟨W, ⟨m0, w0⟩, turn⟩ := h
  refine wpAny_While (codeAny_whileLoop (fun n s' => ∃ σ' H', Inv X pins σ' H' s' /\ W n σ' H') ?_ m0 ⟨σ, H, I, w0⟩)
  rintro n s1 ⟨σ1, H1, I1, w1⟩
  refine wpAny_passesOwn hp (thn (hc pins s1 σ1 H1 _ I1 (turn n σ1 H1 w1)) fun b s2 ⟨H2, I2, q2⟩ => ?_)
  cases b with
  | true =>
    obtain ⟨N, hN, q2⟩ := q2
    rw [if_pos rfl]
    refine wpAny_passesOwn hp (thn (hb pins s2 σ1 H2 _ I2 q2) fun f s3 q3 => ?_)
    cases f with
    | next =>
      obtain ⟨σ3, H3, I3, n3⟩ := q3
      obtain ⟨m', hm, w3⟩ := hN σ3 H3 n3
      exact ⟨m', hm, σ3, H3, I3, w3⟩
    | cont =>
      obtain ⟨σ3, H3, I3, n3⟩ := q3
      obtain ⟨m', hm, w3⟩ := hN σ3 H3 n3
      exact ⟨m', hm, σ3, H3, I3, w3⟩
    | brk => exact q3
    | ret v => exact q3
  | false =>
    rw [if_neg Bool.false_ne_true]
    exact wpAny_execs_nil ⟨σ1, H2, I2, q2⟩
end
structure It where
  go : Nat -> Hp -> Prop
  yld : Nat -> Hp -> V -> Hp -> Prop
  stop : Nat -> Hp -> Prop
def FpOk (X : Cx) (pins : List (Addr × Obj)) (H : Hp) (b : Addr) : Prop :=
  H b = none /\ b ≠ X.env.locals /\ b ∉ X.fs /\ (b ∈ X.ex \/ X.s₀.heap.objs.size <= b) /\ (∀ x c, X.env.cells.lookup x = some c -> c ≠ b) /\ ∀ p ∈ X.pn ++ pins, p.1 ≠ b
theorem Inv.fpOk {X : Cx} {pins : List (Addr × Obj)} {σ : St} {H H' : Hp} {s : Shared} {b : Addr} (I : Inv X pins σ H s) (hb : s.heap.objs.size <= b) (hn : H' b = none) : FpOk X pins H' b := by
  refine ⟨hn, Nat.ne_of_gt (Nat.lt_of_lt_of_le I.lt hb), I.nofs hb, .inr (Nat.le_trans I.sz hb), fun x c e z => ?_, fun p hp z => ?_⟩
  · obtain ⟨v, q⟩ := I.cell x c e
    exact absurd (Nat.lt_of_lt_of_le q.lt (by rw [z]; exact hb)) (Nat.lt_irrefl _)
  · exact absurd (Nat.lt_of_lt_of_le (Heap.lt_size (I.pin p hp).1) (by rw [z]; exact hb)) (Nat.lt_irrefl _)
structure Turn (P : Program) (w : World) (K : PySem.W.Frag) (tg : Expr) (J : It) (fp : List Addr) (it : Addr) (tn : Nat -> Heap -> Prop) : Prop where
  mem : it ∈ fp
  obj : ∀ i h, tn i h -> ∀ b ∈ fp, ∃ o, h.get? b = some o /\ ∀ v, o.data ≠ .cell v
  keep : ∀ i h h', tn i h -> (∀ b ∈ fp, ∀ o, h.get? b = some o -> h'.get? b = some o) -> tn i h'
  item : ∀ (X : Cx), X.prog = P -> X.w = w -> X.K = K -> X.calm = true -> ∀ (i : Nat) (pins : List (Addr × Obj)) (s : Shared) (σ : St) (H : Hp) (E : Value -> Shared -> Prop), Inv X pins σ H s -> (∀ b ∈ fp, FpOk X pins H b) -> tn i s.heap -> J.go i H ->
    wpAny (model P w) X.A (pyNext (.ref it)) (fun r s1 => ∃ u, r = some u /\
      wpAny (model P w) X.A (letOwnedTupleGo tg (.ref it) u) (fun _ s2 => ∃ x H', Inv X pins σ H' s2 /\ RelV x u /\ J.yld i H x H' /\ tn (i + 1) s2.heap /\ ∀ b ∈ fp, H' b = none) E s1) E s
  done : ∀ (X : Cx), X.prog = P -> X.w = w -> X.K = K -> X.calm = true -> ∀ (i : Nat) (pins : List (Addr × Obj)) (s : Shared) (σ : St) (H : Hp) (E : Value -> Shared -> Prop), Inv X pins σ H s -> (∀ b ∈ fp, FpOk X pins H b) -> tn i s.heap -> J.stop i H ->
    wpAny (model P w) X.A (pyNext (.ref it)) (fun r s1 => r = none /\ Inv X pins σ H s1) E s
  self : ∀ (A : Around) (i : Nat) (s : Shared) (Q : Value -> Shared -> Prop) (E : Value -> Shared -> Prop), tn i s.heap -> Q (.ref it) s -> wpAny (model P w) A (pyIter (.ref it)) Q E s
abbrev TI := St -> Hp -> (It -> Hp -> Prop) -> Prop
def PIE (X : Cx) (pins : List (Addr × Obj)) (σ : St) (tg : Expr) (R : It -> Hp -> Prop) (itv : Value) (s2 : Shared) : Prop :=
  ∃ (it : Addr) (fp : List Addr) (tn : Nat -> Heap -> Prop) (J : It) (H' : Hp), itv = .ref it /\ Inv X pins σ H' s2 /\ Turn X.prog X.w X.K tg J fp it tn /\ tn 0 s2.heap /\ (∀ b ∈ fp, FpOk X pins H' b) /\ R J H'
def PI (X : Cx) (tg iter : Expr) (wi : TI) : Prop :=
  ∀ (pins : List (Addr × Obj)) (s : Shared) (σ : St) (H : Hp) (R : It -> Hp -> Prop), Inv X pins σ H s -> wi σ H R ->
    wpAny (model X.prog X.w) X.A (eval iter X.env) (fun v s1 => wpAny (model X.prog X.w) X.A (pyIter v) (PIE X pins σ tg R) X.xe s1) X.xe s
theorem A9j {M : Model} {A : Around} {E : Value -> Shared -> Prop} {s : Shared} {tg : Expr} {it : Addr} {u : Value} {o : Obj} {n : String} {vs : Array Value} {Q : Unit -> Shared -> Prop} (ho : s.heap.get? it = some o) (hc : o.cls = .type n) (hd : o.data = .fields vs)
    (hn : ["enumerate", "zip", "dict_itemiterator", "dict_reverseitemiterator", "odict_iterator", "itertools.zip_longest", "itertools.pairwise"].contains n = false) (hQ : Q () s) : wpAny M A (letOwnedTupleGo tg (.ref it) u) Q E s := by
  unfold letOwnedTupleGo
  cases tg <;> first
    | exact wpAny_pure hQ
    | (cases u <;> first
        | exact wpAny_pure hQ
        | (refine wpAny_bind (wpAny_load ho ?_)
           rw [hc, hd]
           show wpAny M A (if (["enumerate", "zip", "dict_itemiterator", "dict_reverseitemiterator", "odict_iterator", "itertools.zip_longest", "itertools.pairwise"].contains n && vs[0]? == some (rawInt _)) = true then _ else _) Q E s
           rw [if_neg (by intro h; rw [hn, Bool.false_and] at h; cases h)]
           exact wpAny_pure hQ))
def Itl (K : PySem.W.Frag) (a : Addr) : It :=
  ⟨fun i H => ∃ xs x, SqL K H a xs /\ xs[i]? = some x, fun i H x H' => H' = H /\ ∀ xs, SqL K H a xs -> xs[i]? = some x, fun i H => ∃ xs, SqL K H a xs /\ xs.length <= i⟩
def Itt (K : PySem.W.Frag) (a : Addr) : It :=
  ⟨fun i H => ∃ xs x, SqT K H a xs /\ xs[i]? = some x, fun i H x H' => H' = H /\ ∀ xs, SqT K H a xs -> xs[i]? = some x, fun i H => ∃ xs, SqT K H a xs /\ xs.length <= i⟩
def Itr (lo : Int) (n : Nat) : It := ⟨fun i _ => i < n, fun i H x H' => H' = H /\ x = .int (lo + i), fun i _ => n <= i⟩
theorem A5q {P : Program} {w : World} {K : PySem.W.Frag} {tg : Expr} (a it : Addr) : Turn P w K tg (Itl K a) [it] it (fun i h => h.IsListIter it a i) where
  mem := by simp
  obj := fun i h st b hb => by
    have e : b = it := by simpa using hb
    subst e
    obtain ⟨o, e, c, d⟩ := st
    exact ⟨o, e, fun v z => by rw [d] at z; cases z⟩
  keep := fun i h h' st k => st.at fun o e => k it (by simp) o e
  item := by
    intro X hP hw hK hc i pins s σ H E I hf st hg
    subst hP hw hK
    obtain ⟨xs, x, hq, hx⟩ := hg
    obtain ⟨its, rv, p, hz⟩ := I.list hq
    obtain ⟨u, hu, ru⟩ := rv.get hx
    obtain ⟨f0, f1, f2, f3, f4, f5⟩ := hf it (by simp)
    refine wpAny_pyNext_list_item st p.isList (x := u) (by simpa using hu) fun h' st' sb => ?_
    have I1 : Inv X pins σ H { s with heap := h' } := I.turned (t' := s.toks) (fun b o hb e => (sb.2 b hb).trans e) f0 f1 f3 f4 f5
    obtain ⟨o, e, c, d⟩ := id st'
    exact ⟨u, rfl, A9j (s := { s with heap := h' }) e c d (by decide) ⟨x, H, I1, ru, ⟨rfl, fun ys hy => by rw [I.list_inj hy hq]; exact hx⟩, st', fun b hb => (hf b hb).1⟩⟩
  done := by
    intro X hP hw hK hc i pins s σ H E I hf st hg
    subst hP hw hK
    obtain ⟨xs, hq, hx⟩ := hg
    obtain ⟨its, rv, p, hz⟩ := I.list hq
    obtain ⟨f0, f1, f2, f3, f4, f5⟩ := hf it (by simp)
    have hl := rv.length
    exact wpAny_pyNext_list_end (I.ok.hd hc) st p.isList (by simp; omega) fun h' eb => ⟨rfl, I.turned (t' := s.toks) (fun b o hb e => eb b o hb e) f0 f1 f3 f4 f5⟩
  self := fun _ _ _ _ _ st h => wpAny_pyIter_listiter st h
theorem A4w {P : Program} {w : World} {K : PySem.W.Frag} {tg : Expr} (a it : Addr) : Turn P w K tg (Itt K a) [it] it (fun i h => h.IsTupleIter it a i) where
  mem := by simp
  obj := fun i h st b hb => by
    have e : b = it := by simpa using hb
    subst e
    obtain ⟨o, e, c, d⟩ := st
    exact ⟨o, e, fun v z => by rw [d] at z; cases z⟩
  keep := fun i h h' st k => st.at fun o e => k it (by simp) o e
  item := by
    intro X hP hw hK hc i pins s σ H E I hf st hg
    subst hP hw hK
    obtain ⟨xs, x, hq, hx⟩ := hg
    obtain ⟨its, rv, p, hz⟩ := I.tuple hq
    obtain ⟨u, hu, ru⟩ := rv.get hx
    obtain ⟨f0, f1, f2, f3, f4, f5⟩ := hf it (by simp)
    refine wpAny_pyNext_tuple_item st (show s.heap.IsTuple a its.toArray from p) (x := u) (by simpa using hu) fun h' st' sb => ?_
    have I1 : Inv X pins σ H { s with heap := h' } := I.turned (t' := s.toks) (fun b o hb e => (sb.2 b hb).trans e) f0 f1 f3 f4 f5
    obtain ⟨o, e, c, d⟩ := id st'
    exact ⟨u, rfl, A9j (s := { s with heap := h' }) e c d (by decide) ⟨x, H, I1, ru, ⟨rfl, fun ys hy => by rw [I.tuple_inj hy hq]; exact hx⟩, st', fun b hb => (hf b hb).1⟩⟩
  done := by
    intro X hP hw hK hc i pins s σ H E I hf st hg
    subst hP hw hK
    obtain ⟨xs, hq, hx⟩ := hg
    obtain ⟨its, rv, p, hz⟩ := I.tuple hq
    obtain ⟨f0, f1, f2, f3, f4, f5⟩ := hf it (by simp)
    have hl := rv.length
    exact wpAny_pyNext_tuple_end (I.ok.hd hc) st (show s.heap.IsTuple a its.toArray from p) (by simp; omega) fun h' eb => ⟨rfl, I.turned (t' := s.toks) (fun b o hb e => eb b o hb e) f0 f1 f3 f4 f5⟩
  self := fun _ _ _ _ _ st h => wpAny_pyIter_tupleiter st h
theorem A4x {P : Program} {w : World} {K : PySem.W.Frag} {tg : Expr} (it : Addr) (lo : Int) (n : Nat) : Turn P w K tg (Itr lo n) [it] it (fun i h => IsRangeIter h it (lo + (i : Nat) * 1) ((n : Int) - (i : Nat)) 1) where
  mem := by simp
  obj := fun i h st b hb => by
    have e : b = it := by simpa using hb
    subst e
    exact ⟨_, st, fun v z => by
      have z' : Data.fields _ = Data.cell v := z
      cases z'⟩
  keep := fun i h h' st k => k it (by simp) _ st
  item := by
    intro X hP hw hK hc i pins s σ H E I hf st hg
    subst hP hw hK
    obtain ⟨f0, f1, f2, f3, f4, f5⟩ := hf it (by simp)
    have W := Walks.range (prog := X.prog) (w := X.w) (I.ok.hd hc) it lo 1 n
    refine W.item i s _ _ hg st fun v h' tk hv st' kk => ?_
    obtain ⟨t, rfl⟩ := hv
    have I1 : Inv X pins σ H { s with heap := h', toks := tk } := I.turned (fun b o hb e => kk b o (by simpa using hb) e) f0 f1 f3 f4 f5
    refine ⟨_, rfl, A9j (s := { s with heap := h', toks := tk }) (n := "range_iterator") st' rfl rfl (by decide) ⟨.int (lo + i), H, I1, ⟨t, ?_⟩, ⟨rfl, rfl⟩, st', fun b hb => (hf b hb).1⟩⟩
    rw [Int.mul_one]
  done := by
    intro X hP hw hK hc i pins s σ H E I hf st hg
    subst hP hw hK
    obtain ⟨f0, f1, f2, f3, f4, f5⟩ := hf it (by simp)
    exact wpAny_pyNext_range_end (I.ok.hd hc) st (by have : n <= i := hg; omega) fun h' eb => ⟨rfl, I.turned (t' := s.toks) (fun b o hb e => eb b o hb e) f0 f1 f3 f4 f5⟩
  self := fun _ _ _ _ _ st h => wpAny_pyIter_rangeiter st h
end L2
namespace L2
open PySem PySem.Spec PyProof.Rows
section
variable {X : Cx} {tg : Expr}
theorem B0o {pins : List (Addr × Obj)} {σ : St} {H : Hp} {s : Shared} {R : It -> Hp -> Prop} {E : Value -> Shared -> Prop} {lo hi : Int} {t u v : Tok} {tk : Nat} (I : Inv X pins σ H s) (h1 : -(2 ^ 62) <= lo) (h2 : lo < 2 ^ 62) (h3 : -(2 ^ 62) <= hi) (h4 : hi < 2 ^ 62)
    (q : R (Itr lo (hi - lo).toNat) H) : wpAny (model X.prog X.w) X.A (pyIter (.ref s.heap.objs.size)) (PIE X pins σ tg R) E { s with heap := s.heap.push { cls := .type "range", data := .fields #[.int lo t, .int hi u, .int 1 v] }, toks := tk } := by
  refine wpAny_pyIter_range (IsRange.new ..) (small_one h1 h2 h3 h4) ?_
  have I1 : Inv X pins σ H { s with heap := s.heap.push { cls := .type "range", data := .fields #[.int lo t, .int hi u, .int 1 v] }, toks := tk } := I.kept fun b o e => Heap.get?_push_of_some _ e
  refine ⟨(s.heap.push { cls := .type "range", data := .fields #[.int lo t, .int hi u, .int 1 v] }).objs.size, [(s.heap.push { cls := .type "range", data := .fields #[.int lo t, .int hi u, .int 1 v] }).objs.size], _, _, H, rfl,
    I1.kept (t' := tk) fun b o e => Heap.get?_push_of_some _ e, A4x _ lo (hi - lo).toNat, ?_, fun b hb => ?_, q⟩
  · have e1 : lo + ((0 : Nat) : Int) * 1 = lo := by simp
    have e2 : (((hi - lo).toNat : Nat) : Int) - ((0 : Nat) : Int) = Builtin.Range.rangeSize lo hi 1 := by rw [rangeSize_one]; split <;> omega
    show IsRangeIter _ _ (lo + ((0 : Nat) : Int) * 1) ((((hi - lo).toNat : Nat) : Int) - ((0 : Nat) : Int)) 1
    rw [e1, e2]
    exact Heap.get?_push_size _ rfl
  · have e : b = (s.heap.push { cls := .type "range", data := .fields #[.int lo t, .int hi u, .int 1 v] }).objs.size := by simpa using hb
    subst e
    exact I1.fpOk (Nat.le_refl _) (I1.hok.fresh (Nat.le_refl _))
def B6b (ta : TA) : TI := fun σ H R => ta σ H fun vs H1 => ∃ j : Int, vs = [.int j] /\ -(2 ^ 62) <= j /\ j < 2 ^ 62 /\ R (Itr 0 j.toNat) H1
theorem A0w {a : Expr} {ta : TA} {p pos : Pos} (hg : Gl X "range") (hm : X.mg "range" = none) (ha : PA X [a] ta) (hs : starEach [a] X.env = [(false, eval a X.env)] := by rfl) : PI X tg (.Call (.Name "range" p) [a] [] pos) (B6b ta) := by
  intro pins s σ H R I h
  refine Call_ (U6 I hg hm boot_range (PyProof.Rows.callWith_type1 (thn (ha pos pins s σ H _ I h) fun us s1 ⟨vs, H1, I1, r1, q1⟩ => ?_) hs rfl))
  obtain ⟨j, e, q1, q2, q⟩ := q1
  subst e
  cases r1 with
  | cons r rr =>
    cases rr
    obtain ⟨t, rfl⟩ := r
    exact call_range_1 (B0o I1 (by omega) (by omega) q1 q2 (by simpa using q))
def tFor (wi : TI) (g : TG) (tb : TS) : TS := fun D σ H => wi σ H fun J H1 => ∃ W : Nat -> Nat -> St -> Hp -> Prop, (∃ m, W 0 m σ H1) /\ ∀ i m σ H, W i m σ H ->
  (J.stop i H /\ D.nx σ H) \/ (J.go i H /\ ∃ N : St -> Hp -> Prop, (∀ σ' H', N σ' H' -> ∃ m', m' < m /\ W (i + 1) m' σ' H') /\ ∀ x H', J.yld i H x H' -> g x σ H' fun σ2 H2 => tb { D with nx := N, ct := N, bk := D.nx } σ2 H2)
def A0v (fp : List Addr) (h : Heap) : List (Addr × Obj) := fp.filterMap fun b => (h.get? b).map fun o => (b, o)
theorem N3 {fp : List Addr} {h : Heap} {b : Addr} {o : Obj} (hb : b ∈ fp) (e : h.get? b = some o) : (b, o) ∈ A0v fp h := List.mem_filterMap.mpr ⟨b, hb, by rw [e]; rfl⟩
theorem A7k {fp : List Addr} {h : Heap} {p : Addr × Obj} (hp : p ∈ A0v fp h) : p.1 ∈ fp /\ h.get? p.1 = some p.2 := by
  obtain ⟨b, hb, e⟩ := List.mem_filterMap.mp hp
  cases q : h.get? b with
  | none => rw [q] at e; cases e
  | some o =>
    rw [q] at e
    have e' : (b, o) = p := Option.some.inj e
    subst e'
    exact ⟨hb, q⟩
theorem Inv.pinned {pins : List (Addr × Obj)} {σ : St} {H : Hp} {s : Shared} {fp : List Addr} (I : Inv X pins σ H s) (hf : ∀ b ∈ fp, FpOk X pins H b) (ho : ∀ b ∈ fp, ∃ o, s.heap.get? b = some o /\ ∀ v, o.data ≠ .cell v) : Inv X (pins ++ A0v fp s.heap) σ H s :=
  I.pins_of fun p hp => (List.mem_append.mp hp).elim (fun z => I.pin p (List.mem_append_right _ z)) fun z => by
    obtain ⟨hb, e⟩ := A7k z
    obtain ⟨f0, f1, f2, _⟩ := hf p.1 hb
    obtain ⟨o, e', d⟩ := ho p.1 hb
    rw [e] at e'; cases e'
    exact ⟨e, f0, f1, f2, d⟩
theorem Inv.unpinned {pins pl : List (Addr × Obj)} {σ : St} {H : Hp} {s : Shared} (I : Inv X (pins ++ pl) σ H s) : Inv X pins σ H s := I.pins_of fun p hp => I.pin p (List.mem_append_right _ (List.mem_append_left _ hp))
theorem B14 {iter : Expr} {body : List Stmt} {wi : TI} {g : TG} {tb : TS} {pos : Pos} (hp : PassesOwn (model X.prog X.w) X.A X.env X.xe) (hc : X.calm = true) (hi : PI X tg iter wi) (hg : PG X tg g) (hb : PSs X body tb)
    (hs : ∀ x, foldedSetIterable iter X.env x = pure x := by intro _; rfl) : PS X (.For tg iter body [] pos) (tFor wi g tb) := by
  intro pins s σ H D I h
  refine wpAny_For (thn (hi pins s σ H _ I h) fun v s1 h1 => thn h1 fun itv s2 h2 => ?_) hs
  obtain ⟨it, fp, tn, J, H2, e, I2, T, st2, f2, W, ⟨m0, w0⟩, turn⟩ := h2
  subst e
  have stat : ∀ {H' : Hp}, (∀ b ∈ fp, H' b = none) -> ∀ b ∈ fp, FpOk X pins H' b := fun hn b hb => ⟨hn b hb, (f2 b hb).2⟩
  refine codeAny_forLoop_any (fun n s' => ∃ i σ' H', Inv X pins σ' H' s' /\ tn i s'.heap /\ (∀ b ∈ fp, H' b = none) /\ W i n σ' H') ?_ m0 ⟨0, σ, H2, I2, st2, fun b hb => (f2 b hb).1, w0⟩
  rintro n s3 ⟨i, σ3, H3, I3, st3, fr3, w3⟩
  rcases turn i n σ3 H3 w3 with ⟨stop, qn⟩ | ⟨go, N, hN, step⟩
  · refine wpAny_passesOwn hp (thn (T.done X rfl rfl rfl hc i pins s3 σ3 H3 X.xe I3 (stat fr3) st3 stop) fun r s4 ⟨hr, I4⟩ => ?_)
    subst hr
    exact wpAny_execs_nil ⟨σ3, H3, I4, qn⟩
  · refine wpAny_passesOwn hp (thn (T.item X rfl rfl rfl hc i pins s3 σ3 H3 X.xe I3 (stat fr3) st3 go) fun r s4 ⟨u, hr, h4⟩ => ?_)
    subst hr
    refine wpAny_passesOwn hp (thn h4 fun _ s5 ⟨x, H5, I5, r5, y5, st5, fr5⟩ => ?_)
    have I5' := I5.pinned (stat fr5) (T.obj _ _ st5)
    refine wpAny_passesOwn hp (thn (hg _ s5 σ3 H5 x u _ I5' r5 (step x H5 y5)) fun _ s6 ⟨σ6, H6, I6, q6⟩ => ?_)
    refine wpAny_passesOwn hp (thn (hb _ s6 σ6 H6 _ I6 q6) fun f s7 q7 => ?_)
    have again : ∀ {σ7 : St} {H7 : Hp}, Inv X (pins ++ A0v fp s5.heap) σ7 H7 s7 -> N σ7 H7 -> ∃ m, m < n /\ ∃ i σ' H', Inv X pins σ' H' s7 /\ tn i s7.heap /\ (∀ b ∈ fp, H' b = none) /\ W i m σ' H' := fun {σ7 H7} I7 n7 => by
      obtain ⟨m', hm, w7⟩ := hN σ7 H7 n7
      refine ⟨m', hm, i + 1, σ7, H7, I7.unpinned, T.keep _ _ _ st5 fun b hb o e => (I7.pin (b, o) (List.mem_append_right _ (List.mem_append_right _ (N3 hb e)))).1, fun b hb => ?_, w7⟩
      obtain ⟨o, e, d⟩ := T.obj _ _ st5 b hb
      exact (I7.pin (b, o) (List.mem_append_right _ (List.mem_append_right _ (N3 hb e)))).2.1
    cases f with
    | next => obtain ⟨σ7, H7, I7, n7⟩ := q7; exact again I7 n7
    | cont => obtain ⟨σ7, H7, I7, n7⟩ := q7; exact again I7 n7
    | brk => obtain ⟨σ7, H7, I7, q7⟩ := q7; exact ⟨σ7, H7, I7.unpinned, q7⟩
    | ret v => obtain ⟨x7, σ7, H7, I7, r7, q7⟩ := q7; exact ⟨x7, σ7, H7, I7.unpinned, r7, q7⟩
end
theorem A9l {lo : Int} {n : Nat} {g : TG} {tb : TS} {D : Ends} {σ : St} {H : Hp} (Pv : Nat -> St -> Hp -> Prop) (h0 : Pv 0 σ H)
    (hs : ∀ i σ H, i < n -> Pv i σ H -> g (.int (lo + i)) σ H fun σ2 H2 => tb { D with nx := Pv (i + 1), ct := Pv (i + 1), bk := D.nx } σ2 H2) (hd : ∀ σ H, Pv n σ H -> D.nx σ H) :
    ∃ W : Nat -> Nat -> St -> Hp -> Prop, (∃ m, W 0 m σ H) /\ ∀ i m σ H, W i m σ H ->
      ((Itr lo n).stop i H /\ D.nx σ H) \/ ((Itr lo n).go i H /\ ∃ N : St -> Hp -> Prop, (∀ σ' H', N σ' H' -> ∃ m', m' < m /\ W (i + 1) m' σ' H') /\ ∀ x H', (Itr lo n).yld i H x H' -> g x σ H' fun σ2 H2 => tb { D with nx := N, ct := N, bk := D.nx } σ2 H2) := by
  refine ⟨fun i m σ H => m = n - i /\ i <= n /\ Pv i σ H, ⟨n, by simp, Nat.zero_le _, h0⟩, ?_⟩
  rintro i m σ H ⟨rfl, hi, p⟩
  by_cases hlt : i < n
  · refine .inr ⟨hlt, Pv (i + 1), fun σ' H' p' => ⟨n - (i + 1), by omega, rfl, hlt, p'⟩, fun x H' y => ?_⟩
    obtain ⟨e, y⟩ := y
    subst e y
    exact hs i σ _ hlt p
  · have e : i = n := by omega
    subst e
    exact .inl ⟨Nat.le_refl _, hd σ H p⟩
end L2
namespace L2
open PySem PySem.Spec PyProof.Rows
abbrev R2 := V -> V -> Hp -> VK -> Prop
def OpR (X : Cx) (f : Value -> Value -> Sem Value) (r : R2) : Prop :=
  ∀ (pins : List (Addr × Obj)) (s : Shared) (σ : St) (H : Hp) (x y : V) (v u : Value) (Q : VK), Inv X pins σ H s -> RelV x v -> RelV y u -> r x y H Q ->
    wpAny (model X.prog X.w) X.A (f v u) (EP X pins σ Q) X.xe s
def UnR (X : Cx) (f : Value -> Sem Value) (r : V -> Hp -> VK -> Prop) : Prop :=
  ∀ (pins : List (Addr × Obj)) (s : Shared) (σ : St) (H : Hp) (x : V) (v : Value) (Q : VK), Inv X pins σ H s -> RelV x v -> r x H Q ->
    wpAny (model X.prog X.w) X.A (f v) (EP X pins σ Q) X.xe s
def CallR (X : Cx) (f : Value) (r : List V -> Hp -> VK -> Prop) : Prop :=
  ∀ (pins : List (Addr × Obj)) (s : Shared) (σ : St) (H : Hp) (xs : List V) (us : List Value) (Q : VK), Inv X pins σ H s -> Vals xs us -> r xs H Q ->
    wpAny (model X.prog X.w) X.A (call f us) (EP X pins σ Q) X.xe s
def tOp (r : R2) (ta tb : TE) : TE := fun σ H Q => ta σ H fun x H1 => tb σ H1 fun y H2 => r x y H2 Q
def tUn (r : V -> Hp -> VK -> Prop) (ta : TE) : TE := fun σ H Q => ta σ H fun x H1 => r x H1 Q
def rI (C : Int -> Int -> Prop) (g : Int -> Int -> V) : R2 := fun x y H Q => ∃ i j, x = .int i /\ y = .int j /\ C i j /\ Q (g i j) H
def rI0 (g : Int -> Int -> V) : R2 := fun x y H Q => ∃ i j, x = .int i /\ y = .int j /\ Q (g i j) H
def rU (g : Int -> V) : V -> Hp -> VK -> Prop := fun x H Q => ∃ i, x = .int i /\ Q (g i) H
section
variable {X : Cx} {a b c : Expr} {ta tb tc : TE} {pos : Pos}
theorem binT (ha : PE X a ta) (hb : PE X b tb) {pins : List (Addr × Obj)} {s : Shared} {σ : St} {H : Hp} {R : V -> V -> Hp -> Prop} (I : Inv X pins σ H s)
    (h : ta σ H fun x H1 => tb σ H1 fun y H2 => R x y H2) {Q : Value -> Shared -> Prop} {f : Value -> Value -> Sem Value}
    (hf : ∀ v u s2 x y H2, Inv X pins σ H2 s2 -> RelV x v -> RelV y u -> R x y H2 -> wpAny (model X.prog X.w) X.A (f v u) Q X.xe s2) :
    wpAny (model X.prog X.w) X.A (eval a X.env) (fun v s₁ => wpAny (model X.prog X.w) X.A (eval b X.env) (fun u s₂ => wpAny (model X.prog X.w) X.A (f v u) Q X.xe s₂) X.xe s₁) X.xe s := by
  refine thn (ha pins s σ H _ I h) fun v s1 ⟨x, H1, I1, r1, q1⟩ => ?_
  refine thn (hb pins s1 σ H1 _ I1 q1) fun u s2 ⟨y, H2, I2, r2, q2⟩ => ?_
  exact hf v u s2 x y H2 I2 r1 r2 q2
theorem J8 {op : Operator} {r : R2} (ho : OpR X (binaryOp op) r) (ha : PE X a ta) (hb : PE X b tb) : PE X (.BinOp a op b pos) (tOp r ta tb) := by
  intro pins s σ H Q I h
  exact wpAny_BinOp (binT ha hb I h fun v u s2 x y H2 I2 rx ry q => ho pins s2 σ H2 x y v u Q I2 rx ry q)
theorem C0a {op : UnaryOp} {r : V -> Hp -> VK -> Prop} (ho : UnR X (unaryOp op) r) (ha : PE X a ta) : PE X (.UnaryOp op a pos) (tUn r ta) := by
  intro pins s σ H Q I h
  exact UnaryOp_ (thn (ha pins s σ H _ I h) fun v s1 ⟨x, H1, I1, r1, q1⟩ => ho pins s1 σ H1 x v Q I1 r1 q1)
theorem opI {f : Value -> Value -> Sem Value} {C : Int -> Int -> Prop} {g : Int -> Int -> Int}
    (rule : ∀ (i j : Int) (t u : Tok) (s : Shared) (Q : Value -> Shared -> Prop) (E : Value -> Shared -> Prop), C i j -> Q (.int (g i j) s.toks) { s with toks := s.toks + 1 } -> wpAny (model X.prog X.w) X.A (f (.int i t) (.int j u)) Q E s) :
    OpR X f (rI C fun i j => .int (g i j)) := by
  intro pins s σ H x y v u Q I rx ry h
  obtain ⟨i, j, rfl, rfl, hc, q⟩ := h
  obtain ⟨t, rfl⟩ := rx
  obtain ⟨t', rfl⟩ := ry
  exact rule i j t t' s _ _ hc ⟨.int (g i j), H, I.tok _, ⟨_, rfl⟩, q⟩
theorem opI0 {f : Value -> Value -> Sem Value} {g : Int -> Int -> Int}
    (rule : ∀ (i j : Int) (t u : Tok) (s : Shared) (Q : Value -> Shared -> Prop) (E : Value -> Shared -> Prop), Q (.int (g i j) s.toks) { s with toks := s.toks + 1 } -> wpAny (model X.prog X.w) X.A (f (.int i t) (.int j u)) Q E s) :
    OpR X f (rI0 fun i j => .int (g i j)) := by
  intro pins s σ H x y v u Q I rx ry h
  obtain ⟨i, j, rfl, rfl, q⟩ := h
  obtain ⟨t, rfl⟩ := rx
  obtain ⟨t', rfl⟩ := ry
  exact rule i j t t' s _ _ ⟨.int (g i j), H, I.tok _, ⟨_, rfl⟩, q⟩
theorem opB0 {f : Value -> Value -> Sem Value} {g : Int -> Int -> Bool}
    (rule : ∀ (i j : Int) (t u : Tok) (s : Shared) (Q : Value -> Shared -> Prop) (E : Value -> Shared -> Prop), Q (.bool (g i j)) s -> wpAny (model X.prog X.w) X.A (f (.int i t) (.int j u)) Q E s) :
    OpR X f (rI0 fun i j => .bl (g i j)) := by
  intro pins s σ H x y v u Q I rx ry h
  obtain ⟨i, j, rfl, rfl, q⟩ := h
  obtain ⟨t, rfl⟩ := rx
  obtain ⟨t', rfl⟩ := ry
  exact rule i j t t' s _ _ ⟨.bl (g i j), H, I, rfl, q⟩
def CPow (i j : Int) : Prop := 0 <= j /\ j <= 1000000 /\ i.natAbs < 2 ^ 64
theorem G3 : OpR X (binaryOp .Add) (rI0 fun i j => .int (i + j)) := opI0 fun _ _ _ _ _ _ _ q => add_int q
theorem Q3 : OpR X (binaryOp .Sub) (rI0 fun i j => .int (i - j)) := opI0 fun _ _ _ _ _ _ _ q => sub_int q
theorem Q4 : OpR X (binaryOp .Mod) (rI (fun _ j => 0 < j) fun i j => .int (i % j)) := opI fun i j _ _ _ _ _ hc q => by
  have h1 : (0 : Int) < j := hc
  exact mod_int' (by omega) (by rw [Int.fmod_eq_emod_of_nonneg i (by omega)]; exact q)
theorem A7f : OpR X (binaryOp .Pow) (rI CPow fun i j => .int (i ^ j.toNat)) := opI fun _ _ _ _ _ _ _ hc q => pow_int_small hc.1 hc.2.1 hc.2.2 q
theorem unI {f : Value -> Sem Value} {g : Int -> Int}
    (rule : ∀ (i : Int) (t : Tok) (s : Shared) (Q : Value -> Shared -> Prop) (E : Value -> Shared -> Prop), Q (.int (g i) s.toks) { s with toks := s.toks + 1 } -> wpAny (model X.prog X.w) X.A (f (.int i t)) Q E s) :
    UnR X f (rU fun i => .int (g i)) := by
  intro pins s σ H x v Q I rx h
  obtain ⟨i, rfl, q⟩ := h
  obtain ⟨t, rfl⟩ := rx
  exact rule i t s _ _ ⟨.int (g i), H, I.tok _, ⟨_, rfl⟩, q⟩
theorem W9 : UnR X (unaryOp .USub) (rU fun i => .int (-i)) := unI fun _ _ _ _ _ q => neg_int q
end
section
variable {X : Cx} {a b c : Expr} {ta tb tc : TE} {pos : Pos}
theorem B34 {pins : List (Addr × Obj)} {σ : St} {H : Hp} {s : Shared} {Q : VK} {k k' : Bool} (I : Inv X pins σ H s) (q : Q (.bl k) H) (e : k = k') : EP X pins σ Q (.bool k') s := by
  subst e
  exact ⟨.bl k, H, I, rfl, q⟩
theorem A48 : OpR X (compareOp .Lt) (rI0 fun i j => .bl (decide (i < j))) := opB0 fun _ _ _ _ _ _ _ q => lt_int q
theorem A0d : OpR X (compareOp .Gt) (rI0 fun i j => .bl (decide (j < i))) := opB0 fun _ _ _ _ _ _ _ q => gt_int q
theorem C0j : OpR X (compareOp .GtE) (rI0 fun i j => .bl (decide (j <= i))) := opB0 fun _ _ _ _ _ _ _ q => ge_int q
theorem B8m : OpR X (compareOp .Is) (fun x y H Q => y = .non /\ Q (.bl (decide (x = .non))) H) := by
  intro pins s σ H x y v u Q I rx ry h
  obtain ⟨rfl, q⟩ := h
  cases ry
  refine is_none_gen (B34 I q ?_)
  cases x <;> first
    | (cases rx; rfl)
    | (obtain ⟨t, rfl⟩ := rx; rfl)
theorem B5x : OpR X (compareOp .IsNot) (fun x y H Q => y = .non /\ Q (.bl (!decide (x = .non))) H) := by
  intro pins s σ H x y v u Q I rx ry h
  obtain ⟨rfl, q⟩ := h
  cases ry
  refine isnot_none_gen (B34 I q ?_)
  cases x <;> first
    | (cases rx; rfl)
    | (obtain ⟨t, rfl⟩ := rx; rfl)
theorem C2 (b : Expr) {op : CmpOp} (h : op ≠ .In := by decide) (h2 : op ≠ .NotIn := by decide) : behindInMarks op b = false := by
  have e1 : (op == CmpOp.In) = false := by cases op <;> first | rfl | exact absurd rfl h
  have e2 : (op == CmpOp.NotIn) = false := by cases op <;> first | rfl | exact absurd rfl h2
  cases b <;> simp [behindInMarks, e1, e2]
theorem A0b {op : CmpOp} {r : R2} (ho : OpR X (compareOp op) r) (ha : PE X a ta) (hb : PE X b tb) (hm : behindInMarks op b = false) : PE X (.Compare a [op] [b] pos) (tOp r ta tb) := by
  intro pins s σ H Q I h
  exact wpAny_Compare1 (binT ha hb I h fun v u s2 x y H2 I2 rx ry q => ho pins s2 σ H2 x y v u Q I2 rx ry q) hm
def B4g (t : TE) : TT := fun σ H Q => t σ H fun x H' => ∃ k, x = .bl k /\ Q k H'
theorem A54 {op : CmpOp} {r : R2} (ho : OpR X (compareOp op) r) (ha : PE X a ta) (hb : PE X b tb) (hm : behindInMarks op b = false) : PT X (.Compare a [op] [b] pos) (B4g (tOp r ta tb)) := by
  intro pins s σ H Q I h
  refine wpAny_isTrue_Compare1 (thn (ha pins s σ H _ I h) fun v s1 ⟨x, H1, I1, r1, q1⟩ => thn (hb pins s1 σ H1 _ I1 q1) fun u s2 ⟨y, H2, I2, r2, q2⟩ =>
    thn (ho pins s2 σ H2 x y v u _ I2 r1 r2 q2) fun c s3 ⟨z, H3, I3, r3, k, e, q3⟩ => ?_) hm
  subst e
  cases r3
  exact wpAny_truthy_bool ⟨H3, I3, q3⟩
theorem X9 : (sizeLine : Nat) < 2 ^ 63 := by rw [sizeLine_eq]; decide
theorem A1y {x : V} {us : List Value} (r : Vals [x] us) : ∃ u, us = [u] /\ RelV x u := by
  cases r with
  | cons r1 r2 => cases r2; exact ⟨_, rfl, r1⟩
theorem B6p {x y : V} {us : List Value} (r : Vals [x, y] us) : ∃ u w', us = [u, w'] /\ RelV x u /\ RelV y w' := by
  cases r with
  | cons r1 r2 =>
    cases r2 with
    | cons r3 r4 => cases r4; exact ⟨_, _, rfl, r1, r3⟩
theorem B1h : CallR X (.builtin "abs") (fun xs H Q => ∃ i, xs = [.int i] /\ Q (.int (if i < 0 then -i else i)) H) := by
  intro pins s σ H xs us Q I r h
  obtain ⟨i, rfl, q⟩ := h
  obtain ⟨u, rfl, t, rfl⟩ := A1y r
  exact call_abs_int fun u tk => ⟨.int (if i < 0 then -i else i), H, I.tok _, ⟨_, rfl⟩, q⟩
theorem A94 (hc : X.calm = true) : CallR X (.builtin "max") (fun xs H Q => ∃ i j, xs = [.int i, .int j] /\ Q (.int (if j > i then j else i)) H) := by
  intro pins s σ H xs us Q I r h
  obtain ⟨i, j, rfl, q⟩ := h
  obtain ⟨u, w', rfl, ⟨t, rfl⟩, ⟨t', rfl⟩⟩ := B6p r
  refine max_two_ints (I.ok.hd hc) fun h' tk k => ⟨_, H, I.kept k, ?_, q⟩
  by_cases hj : j > i
  · rw [if_pos hj, if_pos hj]; exact ⟨_, rfl⟩
  · rw [if_neg hj, if_neg hj]; exact ⟨_, rfl⟩
theorem A92 (hc : X.calm = true) : CallR X (.builtin "min") (fun xs H Q => ∃ i j, xs = [.int i, .int j] /\ Q (.int (if j < i then j else i)) H) := by
  intro pins s σ H xs us Q I r h
  obtain ⟨i, j, rfl, q⟩ := h
  obtain ⟨u, w', rfl, ⟨t, rfl⟩, ⟨t', rfl⟩⟩ := B6p r
  refine min_two_ints (I.ok.hd hc) fun h' tk k => ⟨_, H, I.kept k, ?_, q⟩
  by_cases hj : j < i
  · rw [if_pos hj, if_pos hj]; exact ⟨_, rfl⟩
  · rw [if_neg hj, if_neg hj]; exact ⟨_, rfl⟩
theorem A1m : CallR X (.type "int") (fun xs H Q => (∃ i, xs = [.int i] /\ Q (.int i) H) \/ ∃ k, xs = [.bl k] /\ Q (.int (if k then 1 else 0)) H) := by
  intro pins s σ H xs us Q I r h
  rcases h with ⟨i, rfl, q⟩ | ⟨k, rfl, q⟩
  · obtain ⟨u, rfl, t, rfl⟩ := A1y r
    exact call_int_int ⟨.int i, H, I, ⟨_, rfl⟩, q⟩
  · obtain ⟨u, rfl, r1⟩ := A1y r
    cases r1
    exact call_int_bool ⟨.int (if k then 1 else 0), H, I.tok _, ⟨_, rfl⟩, q⟩
end
end L2
namespace L2
open PySem PySem.Spec PyProof.Rows
section
variable {prog : Program} {w : World} {A : Around} {E : Value -> Shared -> Prop} {s : Shared} {K : PySem.W.Frag} {x dx C f : Addr} {mA : Str -> Option Value} {name : Str} {v : Value}
end
theorem RelO.none_of {o : Option Value} (r : RelO none o) : o = none := by
  cases o with
  | none => rfl
  | some u => exact (show False from r).elim
section
variable {P : Program} {w : World} {H H' : Hp} {h h' : Heap} {a C dx : Addr} {fs fs' : List (Str × V)}
end
structure Cls (K : PySem.W.Frag) (C : Addr) : Prop where
  pg : PySem.W.plainGet K C Str.empty = true
  hd : PySem.W.hasDictIn K C = true
  po : PySem.W.plainOver K C = true
  sa : PySem.W.findIn K (.ref C) "__setattr__" = some (some (.builtin "object.__setattr__"))
theorem Cls.get {K : PySem.W.Frag} {C : Addr} (c : Cls K C) (f : Str) : PySem.W.plainGet K C f = true := c.pg
section
variable {X : Cx} {pins : List (Addr × Obj)} {σ : St} {H : Hp} {s : Shared} {a C dx : Addr} {fs : List (Str × V)} {f : Str} {v : V} {A : Around} {E : Value -> Shared -> Prop}
end
section
variable {X : Cx} {o e value : Expr} {f : Str} {pos pos' tpos : Pos} {ta tv : TE}
end
section
variable {X : Cx} {pins : List (Addr × Obj)} {σ : St} {H : Hp} {s : Shared} {A : Around} {E : Value -> Shared -> Prop} {Q : Value -> Shared -> Prop} {c : Value} {b : Bool}
end
end L2
namespace L2
open PySem PySem.Spec PyProof.Rows
structure Room (k : Nat) (A : Around) : Prop where
  hd : A.handled = none
  gd : A.guards = some []
  dp : A.depth + 3 * k + 5 < recursionLimit
  un : A.units + 16 * k + 200 < cLine
theorem Room.mono {j k : Nat} {A : Around} (r : Room k A) (h : j <= k) : Room j A := ⟨r.hd, r.gd, by have := r.dp; omega, by have := r.un; omega⟩
theorem Room.mo {j k : Nat} {A : Around} (r : Room k A) (h : j <= k := by first | decide | omega) : Room j A := r.mono h
theorem Room.deeper {k : Nat} {A : Around} (r : Room (k + 1) A) (env : Env) : Room k (A.deeper env) :=
  ⟨r.hd, r.gd, by have := r.dp; show A.depth + 1 + 3 * k + 5 < _; omega, by have := r.un; show A.units + 3 + 16 * k + 200 < _; omega⟩
theorem Room.depth {k : Nat} {A : Around} (r : Room k A) : A.depth < recursionLimit := by have := r.dp; omega
theorem Room.units {k : Nat} {A : Around} (r : Room k A) : A.units + 64 < cLine := by have := r.un; omega
def tNil : TA := fun _ H Q => Q [] H
def G5 (ta : TE) (tr : TA) : TA := fun σ H Q => ta σ H fun x H1 => tr σ H1 fun xs H2 => Q (x :: xs) H2
section
variable {X : Cx} {e : Expr} {es : List Expr} {te : TE} {t : TA} {pos : Pos}
theorem A0z : PA X [] tNil := fun _ _ _ _ H Q I h => Calls.spliced_nil ⟨[], H, I, .nil, h⟩
theorem N9 (ha : PE X e te) (hr : PA X es t) (hs : starEach (e :: es) X.env = (false, eval e X.env) :: starEach es X.env := by rfl) : PA X (e :: es) (G5 te t) := by
  intro pos pins s σ H Q I h
  rw [hs]
  show wpAny _ _ (spliced ((false, eval e X.env) :: backTo pos (starEach es X.env))) _ _ s
  refine Calls.spliced_cons (thn (ha pins s σ H _ I h) fun u s1 ⟨x, H1, I1, r1, q1⟩ => ?_)
  exact thn (hr pos pins s1 σ H1 _ I1 q1) fun us s2 ⟨xs, H2, I2, r2, q2⟩ => ⟨x :: xs, H2, I2, .cons r1 r2, q2⟩
def tTup (t : TA) : TE := fun σ H Q => t σ H fun xs H1 => xs.length <= sizeLine /\ ∀ p, H1 p = none -> Q (.ref p) (upd H1 p (.tup xs))
def tLst (t : TA) : TE := fun σ H Q => t σ H fun xs H1 => xs.length <= sizeLine /\ ∀ p, H1 p = none -> Q (.ref p) (upd H1 p (.lst xs))
theorem B7m {x1} (h : PA X es t) : PE X (.Tuple es x1 pos) (tTup t) := by
  intro pins s σ H Q I hq
  refine wpAny_Tuple_spliced (thn (h pos pins s σ H _ I hq) fun us s1 ⟨xs, H1, I1, r, z, q⟩ => ⟨by rw [<- r.length]; exact z, ?_⟩)
  have hf : H1 s1.heap.objs.size = none := I1.hok.fresh (Nat.le_refl _)
  refine ⟨.ref s1.heap.objs.size, upd H1 s1.heap.objs.size (.tup xs), I1.laid (t' := s1.toks) (fun b u e => Heap.get?_push_of_some _ e) (Nat.le_refl _) ?_, rfl, q _ hf⟩
  exact ⟨z, us, r, ⟨_, Heap.get?_push_size _ rfl, rfl, _, rfl⟩⟩
theorem B16 (h : PA X es t) : PE X (.List es pos) (tLst t) := by
  intro pins s σ H Q I hq
  refine wpAny_List_spliced (thn (h pos pins s σ H _ I hq) fun us s1 ⟨xs, H1, I1, r, z, q⟩ => ⟨by rw [<- r.length]; exact z, ?_⟩)
  have hf : H1 s1.heap.objs.size = none := I1.hok.fresh (Nat.le_refl _)
  refine ⟨.ref s1.heap.objs.size, upd H1 s1.heap.objs.size (.lst xs), I1.laid (t' := s1.toks) (fun b u e => Heap.get?_push_of_some _ e) (Nat.le_refl _) ?_, rfl, q _ hf⟩
  exact ⟨z, us, 0, r, Heap.get?_push_size _ rfl⟩
end
abbrev Sp := List V -> Hp -> VK -> XK -> Prop
abbrev CXT := List Env -> Hp -> Shared -> XK -> Value -> Shared -> Prop
structure Env0 (P : Program) (w : World) (K : PySem.W.Frag) (mg : Str -> Option Value) (base : Heap) (A : Around) (outer : List Env) (s : Shared) (H : Hp) : Prop where
  frames : A.frames = some outer
  mod : Mod K mg base
  bs : ∀ b o, base.get? b = some o -> s.heap.get? b = some o /\ H b = none
  bsz : base.objs.size <= s.heap.objs.size
  funs : s.heap.FunFrames base outer
  frf : ∀ b ∈ frs outer, H b = none
  hok : HOk P w H s.heap
  bare : AllBare s.gens
def CE (outer : List Env) (P : Program) (w : World) (H : Hp) (s : Shared) (Q : VK) (u : Value) (s' : Shared) : Prop :=
  ∃ v H', s'.os = s.os /\ AllBare s'.gens /\ Un (frs outer) [] H H' s.heap s'.heap /\ HOk P w H' s'.heap /\ RelV v u /\ Q v H'
def CR (CX : CXT) (outer : List Env) (P : Program) (w : World) (H : Hp) (s : Shared) (Q : VK) (E : XK) (r : Result) (s' : Shared) : Prop :=
  match r with
  | .ok (.ret u) => CE outer P w H s Q u s'
  | .ok _ => False
  | .error e => CX outer H s E e s'
structure FnOk (P : Program) (w : World) (K : PySem.W.Frag) (mg : Str -> Option Value) (base : Heap) (CX : CXT) (k : Nat) (f : Addr) (fd : FuncData) (ps : List Str) (sp : Sp) : Prop where
  len : ∀ vs H Q E, sp vs H Q E -> vs.length = ps.length
  run : ∀ (A : Around) (outer : List Env) (s : Shared) (H : Hp) (args : Args) (us : List Value) (vs : List V) (Q : VK) (E : XK), Room k A -> Env0 P w K mg base A outer s H -> BindsTo s fd args (ps.zip us) -> Vals vs us -> sp vs H Q E ->
    codeAny (model P w) A (.call (.ref f) args) (CR CX outer P w H s Q E) s
theorem FnOk.imp {P : Program} {w : World} {K : PySem.W.Frag} {mg : Str -> Option Value} {base : Heap} {CX : CXT} {k : Nat} {f : Addr} {fd : FuncData} {ps : List Str} {sp sp' : Sp} (F : FnOk P w K mg base CX k f fd ps sp)
    (h : ∀ vs H Q E, sp' vs H Q E -> sp vs H Q E) : FnOk P w K mg base CX k f fd ps sp' :=
  ⟨fun vs H Q E q => F.len vs H Q E (h _ _ _ _ q), fun A outer s H args us vs Q E hr he hb hv hs => F.run A outer s H args us vs Q E hr he hb hv (h _ _ _ _ hs)⟩
section
variable {X : Cx} {pins : List (Addr × Obj)} {σ : St} {H : Hp} {s s' : Shared}
theorem Inv.env0 (I : Inv X pins σ H s) : Env0 X.prog X.w X.K X.mg X.base X.A X.stack s H :=
  ⟨I.ok.frames, I.ok.mod, I.bs, Nat.le_trans I.ok.bsz I.sz, I.stack, I.stkFree, I.hok, I.bare⟩
theorem Inv.after {Q : VK} {u : Value} (I : Inv X pins σ H s) (h : CE X.stack X.prog X.w H s Q u s') : EP X pins σ Q u s' := by
  obtain ⟨v, H', os, bare, un, hok, r, q⟩ := h
  obtain ⟨hh, g, d, t, os'⟩ := s'
  obtain rfl : os' = s.os := os
  exact ⟨v, H', I.call (h' := hh) (g' := g) (d' := d) (t' := t) (ch := []) un hok bare (fun b z => absurd z (by simp)), r, q⟩
end
def B4k (sp : Sp) (dvs : List V) (E : XK) (t : TA) : TE := fun σ H Q => t σ H fun vs H1 => sp (vs ++ dvs) H1 Q E
def Binds (K : PySem.W.Frag) (fd : FuncData) (ps : List Str) (ds : List Value) : Prop :=
  ∀ (s : Shared) (us : List Value), K.In s.heap -> (us ++ ds).length = ps.length -> BindsTo s fd ⟨us, []⟩ (ps.zip (us ++ ds))
theorem Binds.all {K : PySem.W.Frag} {fd : FuncData} {ps : List Str} (h : ∀ us : List Value, us.length = ps.length -> bindArgs fd ⟨us, []⟩ = pure (ps.zip us)) : Binds K fd ps [] := fun s us _ hl => by
  rw [List.append_nil] at hl ⊢
  exact .of_eq (h us hl)
def A4v (CX : CXT) (X : Cx) (E : XK) : Prop := ∀ (pins : List (Addr × Obj)) (σ : St) (H : Hp) (s : Shared) (e : Value) (s' : Shared), Inv X pins σ H s -> CX X.stack H s E e s' -> X.xe e s'
section
variable {X : Cx} {CX : CXT} {k : Nat} {f C : Addr} {fd : FuncData} {ps : List Str} {sp : Sp} {dvs : List V} {ds : List Value} {E : XK} {x m : Str} {p pos apos : Pos} {e o : Expr} {es : List Expr} {ta : TE} {t : TA}
theorem B64 {pins : List (Addr × Obj)} {σ : St} {H : Hp} {s : Shared} {Q : VK} {us : List Value} {vs : List V} (F : FnOk X.prog X.w X.K X.mg X.base CX k f fd ps sp) (hr : Room k X.A) (hb : Binds X.K fd ps ds) (hd : Vals dvs ds) (hx : A4v CX X E)
    (I : Inv X pins σ H s) (r : Vals vs us) (h : sp (vs ++ dvs) H Q E) : wpAny (model X.prog X.w) X.A (call (.ref f) us) (EP X pins σ Q) X.xe s := by
  have r2 : Vals (vs ++ dvs) (us ++ ds) := r.append hd
  have hl : (us ++ ds).length = ps.length := by rw [<- r2.length]; exact F.len _ _ _ _ h
  refine wpAny_call (codeAny_mono (F.run X.A X.stack s H ⟨us, []⟩ (us ++ ds) (vs ++ dvs) Q E hr I.env0 (hb s us I.kIn hl) r2 h) fun r s' hq => ?_)
  cases r with
  | error e => exact hx pins σ H s e s' I hq
  | ok fl =>
    cases fl with
    | ret u => exact I.after hq
    | next => exact False.elim hq
    | brk => exact False.elim hq
    | cont => exact False.elim hq
theorem B5b (F : FnOk X.prog X.w X.K X.mg X.base CX k f fd ps sp) (hr : Room k X.A) (hg : Gl X x) (hm : X.mg x = some (.ref f)) (hk : PySem.W.keepIn X.K (.ref f) = true) (hb : Binds X.K fd ps ds) (hd : Vals dvs ds) (hx : A4v CX X E)
    (ha : PA X (e :: es) t) (hdb : (x == ("__debug__" : Str)) = false := by decide) (he : starEach (e :: es) X.env = (false, eval e X.env) :: starEach es X.env := by rfl) (hpl : (backTo pos (starEach es X.env)).any (·.1) = false := by rfl) :
    PE X (.Call (.Name x p) (e :: es) [] pos) (B4k sp dvs E t) := by
  intro pins s σ H Q I h
  refine wpAny_Call_Name_kw (B57 I hg hm ?_ hdb)
  refine PySem.W.callWith_K (h₀ := X.base) I.ok.mod.kin hk (thn (ha pos pins s σ H _ I h) fun us s1 ⟨vs, H1, I1, r, q⟩ => ⟨I1.kIn, ?_⟩) he hpl
  exact B64 F hr hb hd hx I1 r q
end
section
variable {X : Cx} {CX : CXT} {k : Nat} {f C : Addr} {fd : FuncData} {ps ks : List Str} {sp : Sp} {E : XK} {x m : Str} {p pos apos kpos : Pos} {e o : Expr} {es : List Expr} {kws : List Keyword} {te ta : TE} {t tk : TA} {nm : Option Str}
variable {g : List Value -> List Value -> List Value} {gV : List V -> List V -> List V}
end
structure FnScope (N P : List Str) (sc : Scope) : Prop where
  kind : sc.kind = .function
  co : sc.isCoroutine = false
  gen : sc.isGenerator = false
  nd : N.Nodup
  pre : N.take P.length = P
  par : ∀ x ∈ P, sc.names.lookup x = some .local \/ sc.names.lookup x = some .cell
  nofree : ∀ y ∈ sc.names, y.2 ≠ .free
theorem A1p {kindOf : Str -> Option NameKind} {x : Str} : ∀ {binds : List (Str × Value)} {m : Str -> Option Value}, (∀ v, (x, v) ∉ binds) -> bindL kindOf binds m x = m x
  | [], _, _ => rfl
  | (n, v) :: r, m, h => by
    unfold bindL
    rw [A1p fun w hw => h w (List.mem_cons_of_mem _ hw)]
    split
    · have : x ≠ n := by rintro rfl; exact h v List.mem_cons_self
      simp [this]
    · rfl
theorem A1r {kindOf : Str -> Option NameKind} {x : Str} : ∀ {binds : List (Str × Value)} {m : Str -> Option Value}, (∀ v, (x, v) ∉ binds) -> bindC kindOf binds m x = m x
  | [], _, _ => rfl
  | (n, v) :: r, m, h => by
    unfold bindC
    rw [A1r fun w hw => h w (List.mem_cons_of_mem _ hw)]
    split
    · rfl
    · have : x ≠ n := by rintro rfl; exact h v List.mem_cons_self
      simp [this]
theorem A1q {kindOf : Str -> Option NameKind} {x : Str} {v : Value} : ∀ {P : List Str} {vs : List Value} {i : Nat} {m : Str -> Option Value}, P.Nodup -> P[i]? = some x -> vs[i]? = some v -> kindOf x = some .local ->
    bindL kindOf (P.zip vs) m x = some v
  | [], _, _, _, _, h, _, _ => by simp at h
  | _ :: _, [], _, _, _, _, h, _ => by simp at h
  | p :: P, w :: vs, 0, m, nd, h1, h2, hk => by
    simp at h1 h2; subst h1; subst h2
    show bindL kindOf ((p, w) :: P.zip vs) m p = _
    unfold bindL
    rw [A1p fun v hv => (List.nodup_cons.mp nd).1 (List.of_mem_zip hv).1, if_pos hk]
    simp
  | p :: P, w :: vs, i + 1, m, nd, h1, h2, hk => by
    show bindL kindOf ((p, w) :: P.zip vs) m x = _
    unfold bindL
    exact A1q (i := i) (List.nodup_cons.mp nd).2 (by simpa using h1) (by simpa using h2) hk
theorem A1s {kindOf : Str -> Option NameKind} {x : Str} {v : Value} : ∀ {P : List Str} {vs : List Value} {i : Nat} {m : Str -> Option Value}, P.Nodup -> P[i]? = some x -> vs[i]? = some v -> kindOf x ≠ some .local ->
    bindC kindOf (P.zip vs) m x = some v
  | [], _, _, _, _, h, _, _ => by simp at h
  | _ :: _, [], _, _, _, _, h, _ => by simp at h
  | p :: P, w :: vs, 0, m, nd, h1, h2, hk => by
    simp at h1 h2; subst h1; subst h2
    show bindC kindOf ((p, w) :: P.zip vs) m p = _
    unfold bindC
    rw [A1r fun v hv => (List.nodup_cons.mp nd).1 (List.of_mem_zip hv).1, if_neg hk]
    simp
  | p :: P, w :: vs, i + 1, m, nd, h1, h2, hk => by
    show bindC kindOf ((p, w) :: P.zip vs) m x = _
    unfold bindC
    exact A1s (i := i) (List.nodup_cons.mp nd).2 (by simpa using h1) (by simpa using h2) hk
def Q7 (N : List Str) (vs : List V) : St := vs.map some ++ List.replicate (N.length - vs.length) none
def cxOf (CX : CXT) (P : Program) (w : World) (K : PySem.W.Frag) (mg : Str -> Option Value) (base : Heap) (N : List Str) (qual : Str) (scope : Scope) (f : Addr) (cd : Value) (A : Around) (outer : List Env) (s : Shared) (H : Hp) (E : XK) : Cx where
  prog := P
  w := w
  K := K
  mg := mg
  base := base
  A := A.deeper (envOfC qual scope s.heap.objs.size f cd)
  N := N
  s₀ := s
  H₀ := H
  env := envOfC qual scope s.heap.objs.size f cd
  outer := outer
  stack := envOfC qual scope s.heap.objs.size f cd :: outer
  ex := []
  calm := true
  fn := fun _ => true
  pn := []
  xe := fun e s' => wpAny (model P w) (A.deeper (envOfC qual scope s.heap.objs.size f cd)) (leaving (envOfC qual scope s.heap.objs.size f cd) e) (fun _ s'' => CX outer H s E e s'') (fun e' s'' => CX outer H s E e' s'') s'
theorem A4o {sc : Scope} {n : Nat} {x : Str} (h : sc.names.lookup x = some .cell) : ∃ c, (cellsFrom n sc.names []).lookup x = some c := by
  have q := PySem.W.cellsFrom_some sc.names n [] (.inl h)
  exact Option.isSome_iff_exists.mp q
theorem A9d {CX : CXT} {P : Program} {w : World} {K : PySem.W.Frag} {mg : Str -> Option Value} {base : Heap} {N ps : List Str} {qual : Str} {scope : Scope} {f : Addr} {cd : Value} {A : Around} {outer : List Env} {s s1 : Shared} {H : Hp} {E : XK} {us : List Value} {vs : List V}
    (S : FnScope N ps scope) (hd : A.handled = none) (e0 : Env0 P w K mg base A outer s H) (hl : vs.length = ps.length) (r : Vals vs us)
    (x : InCallC s s.heap.objs.size (bindL (envOfC qual scope s.heap.objs.size f cd).kindOf (ps.zip us) fun _ => none) (cellsFrom (s.heap.objs.size + 1) scope.names []) (bindC (envOfC qual scope s.heap.objs.size f cd).kindOf (ps.zip us) fun _ => none) s1) :
    Inv (cxOf CX P w K mg base N qual scope f cd A outer s H E) [] (Q7 N vs) H s1 := by
  have hpl : ps.length <= N.length := by have := congrArg List.length S.pre; rw [List.length_take] at this; omega
  obtain ⟨h1, tk, rfl, hk⟩ := x.done
  have noA : ∀ b : Addr, b ∉ (cxOf CX P w K mg base N qual scope f cd A outer s H E).ex := fun b z => absurd (show b ∈ ([] : List Addr) from z) (by simp)
  refine ⟨⟨e0.mod, S.kind, rfl, rfl, Nat.le_refl _, fun y z c h1 h2 => ?_, fun y hy => ?_, fun y c _ h => ?_, fun _ => hd, Around.frames_deeper e0.frames, .inr ⟨rfl, rfl⟩, fun b z => absurd z (noA b), e0.bs, e0.bsz, fun b _ _ => noA b, fun b z => absurd z (noA b), e0.funs, e0.frf⟩,
    rfl, e0.bare, Un.kept hk, ⟨_, x.toInCall.ns, fun i y v h1 h2 h3 => ?_⟩, fun y c h => ⟨_, x.cell y c h⟩, e0.hok.fresh (Nat.le_refl _), fun y c h => ?_, fun p hp => absurd (show p ∈ ([] : List (Addr × Obj)) from hp) (by simp), e0.hok.kept hk, ?_⟩
  · exact name_of_addr x.apart (PySem.mem_of_lookup h1) (PySem.mem_of_lookup h2)
  · have hy : scope.names.lookup y = some .cell \/ scope.names.lookup y = some .free := hy
    rcases hy with hy | hy
    · exact A4o hy
    · exact absurd rfl (S.nofree _ (PySem.mem_of_lookup hy))
  · exact Nat.le_of_lt (x.above y c (PySem.mem_of_lookup h))
  · have hi : i < vs.length := by
      unfold Q7 at h2
      by_cases hi : i < vs.length
      · exact hi
      · rw [List.getElem?_append_right (by simpa using hi)] at h2
        rw [List.getElem?_replicate] at h2
        split at h2 <;> cases h2
    have ha : vs[i]? = some v := by
      unfold Q7 at h2
      rw [List.getElem?_append_left (by simpa using hi), List.getElem?_map] at h2
      cases e : vs[i]? with
      | none => rw [e] at h2; cases h2
      | some a => rw [e] at h2; cases h2; rfl
    obtain ⟨u, hu, rv⟩ := r.get ha
    have hp : ps[i]? = some y := by
      rw [<- S.pre, List.getElem?_take_of_lt (by omega)]; exact h1
    have ndP : ps.Nodup := by rw [<- S.pre]; exact S.nd.sublist (List.take_sublist _ _)
    refine ⟨u, rv, ?_⟩
    rcases S.par y (List.mem_of_getElem? hp) with k | k
    · exact .inl ⟨k, A1q ndP hp hu k⟩
    · obtain ⟨c, e⟩ := A4o (n := s.heap.objs.size + 1) k
      refine .inr ⟨.inl k, c, e, ?_⟩
      have q := x.cell y c e
      rw [A1s ndP hp hu (by show scope.names.lookup y ≠ _; rw [k]; decide)] at q
      exact q
  · exact e0.hok.fresh (Nat.le_of_lt (x.above y c (PySem.mem_of_lookup h)))
  · unfold Q7
    show _ = N.length
    rw [List.length_append, List.length_map, List.length_replicate]
    omega
theorem C0m {CX : CXT} {P : Program} {w : World} {K : PySem.W.Frag} {mg : Str -> Option Value} {base : Heap} {k : Nat} {f : Addr} {name qual : Str} {params : Arguments} {body : List Stmt} {scope : Scope} {dV kV doc pm cdv ct oc : Value} {an od : Option Addr}
    {osl : Array (Option Value)} {N ps : List Str} {sp : Sp} (lk : K.lookup f = some ⟨oc, od, .func (PySem.W.fnOf name qual params body scope dV kV doc pm an cdv ct), osl⟩) (hcd : PySem.W.codeIn K cdv qual = true) (S : FnScope N ps scope)
    (len : ∀ vs H Q E, sp vs H Q E -> vs.length = ps.length)
    (hbody : ∀ (A : Around) (outer : List Env) (s : Shared) (H : Hp) (vs : List V) (Q : VK) (E : XK), Room k (A.deeper (envOfC qual scope s.heap.objs.size f cdv)) -> sp vs H Q E ->
      ∃ t, PSs (cxOf CX P w K mg base N qual scope f cdv A outer s H E) body t /\ t { nx := fun _ H' => Q .non H', rt := Q } (Q7 N vs) H) :
    FnOk P w K mg base CX (k + 1) f (PySem.W.fnOf name qual params body scope dV kV doc pm an cdv ct) ps sp := by
  refine ⟨len, fun A outer s H args us vs Q E hr e0 hb r hsp => ?_⟩
  have hl := len _ _ _ _ hsp
  have KX : K.In s.heap := e0.mod.kin.keeps fun b o e => (e0.bs b o e).1
  have lim : s.heap.NoLimit := e0.mod.nolimit.keeps fun b o e => (e0.bs b o e).1
  have hkind : ∀ y ∈ ps.zip us, scope.names.lookup y.1 = some .local \/ (scope.names.lookup y.1 = some .cell /\ ((cellsFrom (s.heap.objs.size + 1) scope.names []).lookup y.1).isSome = true) := fun ⟨n, v⟩ hy => by
    rcases S.par n (List.of_mem_zip hy).1 with q | q
    · exact .inl q
    · exact .inr ⟨q, PySem.W.cellsFrom_some _ _ _ (.inl q)⟩
  refine codeAny_call_function hr.depth (KX _ _ lk) rfl S.co S.gen rfl (PySem.W.codeRec_of KX hcd) (hb _ _ _ _ ?_)
  refine wpAny_newFunctionEnv_cells S.kind hkind fun env he s1 x => ?_
  subst he
  refine ⟨lim.keeps x.toInCall.keep, codeAny_func ?_⟩
  obtain ⟨t, ht, hq⟩ := hbody A outer s H vs Q E (hr.deeper _) hsp
  have I : Inv (cxOf CX P w K mg base N qual scope f cdv A outer s H E) [] (Q7 N vs) H s1 := A9d S hr.hd e0 hl r x
  refine wpAny_mono (ht [] s1 (Q7 N vs) H _ I hq) (fun fl s' hs => ?_) fun e s' hs => hs
  have fin : ∀ {σ' : St} {H' : Hp} {v : V} {u : Value}, Inv (cxOf CX P w K mg base N qual scope f cdv A outer s H E) [] σ' H' s' -> RelV v u -> Q v H' -> CE outer P w H s Q u s' :=
    fun {σ' H' v u} J rv q => ⟨v, H', J.os, J.bare, J.base, J.hok, rv, q⟩
  cases fl with
  | ret u =>
    obtain ⟨v, σ', H', J, rv, q⟩ := hs
    exact fin J rv q
  | next =>
    obtain ⟨σ', H', J, q⟩ := hs
    exact fin (v := V.non) (u := Value.none) J rfl q
  | brk =>
    obtain ⟨_, _, _, q⟩ := hs
    exact False.elim q
  | cont =>
    obtain ⟨_, _, _, q⟩ := hs
    exact False.elim q
end L2
namespace L2
open PySem PySem.Spec PyProof.Rows
section
variable {X : Cx} {x : Str} {p pos : Pos} {e : Expr} {es : List Expr} {t : TA} {id T : String} {r : List V -> Hp -> VK -> Prop}
def tCB (r : List V -> Hp -> VK -> Prop) (t : TA) : TE := fun σ H Q => t σ H fun vs H1 => r vs H1 Q
theorem A3h (hc : CallR X (.builtin id) r) (hg : Gl X x) (hm : X.mg x = none) (hv : bootBuiltins x = some (.builtin id)) (ha : PA X (e :: es) t) (hn : x ≠ "__name__" := by decide) (hdb : (x == ("__debug__" : Str)) = false := by decide)
    (he : starEach (e :: es) X.env = (false, eval e X.env) :: starEach es X.env := by rfl) (hpl : (backTo pos (starEach es X.env)).any (·.1) = false := by rfl) : PE X (.Call (.Name x p) (e :: es) [] pos) (tCB r t) := by
  intro pins s σ H Q I h
  refine wpAny_Call_Name_kw (U6 I hg hm hv ?_ hn hdb)
  exact PyProof.Rows.callWith_builtin1 (thn (ha pos pins s σ H _ I h) fun us s1 ⟨vs, H1, I1, r1, q1⟩ => hc pins s1 σ H1 vs us Q I1 r1 q1) he hpl
theorem A0x (hc : CallR X (.type T) r) (hg : Gl X x) (hm : X.mg x = none) (hv : bootBuiltins x = some (.type T)) (ha : PA X (e :: es) t) (hn : x ≠ "__name__" := by decide) (hdb : (x == ("__debug__" : Str)) = false := by decide)
    (he : starEach (e :: es) X.env = (false, eval e X.env) :: starEach es X.env := by rfl) (hpl : (backTo pos (starEach es X.env)).any (·.1) = false := by rfl) : PE X (.Call (.Name x p) (e :: es) [] pos) (tCB r t) := by
  intro pins s σ H Q I h
  refine wpAny_Call_Name_kw (U6 I hg hm hv ?_ hn hdb)
  exact PyProof.Rows.callWith_type1 (thn (ha pos pins s σ H _ I h) fun us s1 ⟨vs, H1, I1, r1, q1⟩ => hc pins s1 σ H1 vs us Q I1 r1 q1) he hpl
end
end L2
namespace HT
open PySem PyProof.Rows
section
open PySem.SeqAt
open PySem.AutoSeq1 (wpAny_loadPart')
open PySem.MeetsSeq PySem.MeetsSeq2 PySem.MeetsSeq3
end
section
variable {prog : Program} {w : World} {A : Around} {E : Value -> Shared -> Prop} {s : Shared}
theorem cat_tup {t b : Addr} {vs ws : List Value} {Q : Value -> Shared -> Prop} (ht : IsTup s.heap t vs.toArray) (hb : IsTup s.heap b ws.toArray) (hv : vs ≠ [])
    (h1 : ws = [] -> Q (.ref t) s) (h2 : ws ≠ [] -> Q (.ref s.heap.objs.size) { s with heap := s.heap.push { cls := .type "tuple", data := .seq (vs ++ ws).toArray } })
    (hsz : vs.length + ws.length <= sizeLine) : wpAny (model prog w) A (binaryOp .Add (.ref t) (.ref b)) Q E s := by
  obtain ⟨⟨cls, dd, data, sl⟩, ho, hc, n, hd⟩ := id ht
  obtain ⟨⟨cls2, dd2, data2, sl2⟩, ho2, hc2, n2, hd2⟩ := id hb
  simp only at hc hd hc2 hd2
  subst hc hd hc2 hd2
  have e : vs.toArray ++ ws.toArray = (vs ++ ws).toArray := by simp
  by_cases hw : ws = []
  · exact concat_meets ⟨_, ho, rfl⟩ ⟨_, ho2, rfl⟩ noFill_tuple_add seq_tuple_add PySem.F.slot_tuple_add PySem.F.entry_tuple_add (PySem.F.args_tuple_add_2 _ _)
      (tuple_addW1 t b vs.toArray ws.toArray n n2 dd dd2 sl sl2 (by simpa using hv) (by simp [hw])) ⟨ho, ho2, h1 hw⟩
  · refine concat_meets ⟨_, ho, rfl⟩ ⟨_, ho2, rfl⟩ noFill_tuple_add seq_tuple_add PySem.F.slot_tuple_add PySem.F.entry_tuple_add (PySem.F.args_tuple_add_2 _ _)
      (tuple_addW2 t b vs.toArray ws.toArray n n2 dd dd2 sl sl2 (by simpa using hv) (by simpa using hw) (by rw [List.size_toArray, List.size_toArray]; exact hsz)) ⟨ho, ho2, ?_⟩
    rw [e]
    exact h2 hw
def sIx (n d : Nat) : Option Int -> Nat
  | none => d
  | some v => if v < 0 then (v + (n : Int)).toNat else min v.toNat n
theorem sIx_none (n d : Nat) : sIx n d none = d := rfl
theorem sIx_nat (n d k : Nat) : sIx n d (some (k : Int)) = min k n := by
  show (if (k : Int) < 0 then ((k : Int) + (n : Int)).toNat else min (k : Int).toNat n) = min k n
  rw [if_neg (by omega), Int.toNat_natCast]
end
end HT
namespace L2
open PySem PySem.Spec PyProof.Rows
abbrev TO := St -> Hp -> (Option Int -> Hp -> Prop) -> Prop
def PO (X : Cx) (e : Option Expr) (t : TO) : Prop :=
  ∀ (pins : List (Addr × Obj)) (s : Shared) (σ : St) (H : Hp) (Q : Option Int -> Hp -> Prop), Inv X pins σ H s -> t σ H Q ->
    wpAny (model X.prog X.w) X.A (evalPart e X.env) (fun u s' => ∃ o H', Inv X pins σ H' s' /\ IsPart u o /\ Q o H') X.xe s
def A10 : TO := fun _ H Q => Q none H
def B4h (t : TE) : TO := fun σ H Q => t σ H fun x H1 => ∃ i, x = .int i /\ Q (some i) H1
section
variable {X : Cx} {e : Expr} {te : TE} {lo hi : Option Expr} {tl th : TO} {pos p2 : Pos}
theorem B45 : PO X none A10 := by
  intro pins s σ H Q I h
  rw [evalPart_none]
  exact wpAny_pure ⟨none, H, I, .none, h⟩
theorem B44 (h : PE X e te) : PO X (some e) (B4h te) := by
  intro pins s σ H Q I hw
  rw [evalPart_some]
  refine thn (h pins s σ H _ I hw) fun u s1 ⟨x, H1, I1, r1, q1⟩ => ?_
  obtain ⟨i, rfl, q⟩ := q1
  obtain ⟨t, rfl⟩ := r1
  exact ⟨some i, H1, I1, .int i t, q⟩
def SlR (X : Cx) (r : V -> Option Int -> Option Int -> Hp -> VK -> Prop) : Prop :=
  ∀ (pins : List (Addr × Obj)) (s : Shared) (σ : St) (H : Hp) (x : V) (v vl vu : Value) (lo hi : Option Int) (sl : Addr) (Q : VK), Inv X pins σ H s -> RelV x v -> s.heap.IsSliceOf sl vl vu .none -> IsPart vl lo -> IsPart vu hi -> r x lo hi H Q ->
    ∃ T id, typeLookup (.type T) "__getitem__" = pure (some (.builtin id)) /\ s.TypeIs v T /\ wpAny (model X.prog X.w) X.A (getItem v (.ref sl)) (EP X pins σ Q) X.xe s
def tSl (r : V -> Option Int -> Option Int -> Hp -> VK -> Prop) (te : TE) (tl th : TO) : TE := fun σ H Q => te σ H fun x H1 => tl σ H1 fun l H2 => th σ H2 fun u H3 => r x l u H3 Q
theorem B0v {r : V -> Option Int -> Option Int -> Hp -> VK -> Prop} (hr : SlR X r) (he : PE X e te) (hl : PO X lo tl) (hu : PO X hi th) : PE X (.Subscript e (.Slice lo hi none p2) pos) (tSl r te tl th) := by
  intro pins s σ H Q I h
  refine Subscript_ (thn (he pins s σ H _ I h) fun v s1 ⟨x, H1, I1, r1, q1⟩ => ?_)
  refine wpAny_Slice (thn (hl pins s1 σ H1 _ I1 q1) fun vl s2 ⟨l, H2, I2, pl, q2⟩ => thn (hu pins s2 σ H2 _ I2 q2) fun vu s3 ⟨u, H3, I3, pu, q3⟩ => ?_)
  rw [evalPart_none]
  refine wpAny_pure ?_
  have I4 : Inv X pins σ H3 { s3 with heap := s3.heap.push { cls := .type "slice", data := .fields #[vl, vu, .none] } } := I3.kept (t' := s3.toks) fun b ob q => Heap.get?_push_of_some _ q
  obtain ⟨T, id, hT, ht, hg⟩ := hr pins { s3 with heap := s3.heap.push { cls := .type "slice", data := .fields #[vl, vu, .none] } } σ H3 x v vl vu l u s3.heap.objs.size Q I4 r1 (Heap.IsSliceOf.new ..) pl pu q3
  show wpAny (model X.prog X.w) X.A (subscriptTail e (.Slice lo hi none p2) v (.ref s3.heap.objs.size)) (EP X pins σ Q) X.xe { s3 with heap := s3.heap.push { cls := .type "slice", data := .fields #[vl, vu, .none] } }
  exact tail_any (ops := [.ref s3.heap.objs.size, v]) ht hT hg (by with_unfolding_all rfl)
def cutV (xs : List V) (lo hi : Option Int) : List V := (xs.drop (HT.sIx xs.length 0 lo)).take (HT.sIx xs.length xs.length hi - HT.sIx xs.length 0 lo)
theorem A2p (xs : List V) (lo hi : Option Int) : (cutV xs lo hi).length <= xs.length := by
  unfold cutV
  rw [List.length_take, List.length_drop]
  omega
def B4r (K : PySem.W.Frag) : R2 := fun x y H Q => ∃ a b xs ys, x = .ref a /\ y = .ref b /\ SqT K H a xs /\ SqT K H b ys /\ xs ≠ [] /\ xs.length + ys.length <= sizeLine /\
  (ys = [] -> Q (.ref a) H) /\ (ys ≠ [] -> ∀ p, H p = none -> Q (.ref p) (upd H p (.tup (xs ++ ys))))
theorem Vals.nil_iff {xs : List V} {us : List Value} (r : Vals xs us) : us = [] ↔ xs = [] := by
  cases r with
  | nil => simp
  | cons _ _ => simp
theorem B5z : OpR X (binaryOp .Add) (B4r X.K) := by
  intro pins s σ H x y v u Q I rx ry h
  obtain ⟨a, b, xs, ys, rfl, rfl, ha, hb, hx, hz, q1, q2⟩ := h
  cases rx
  cases ry
  obtain ⟨its, r1, p1, _⟩ := I.tuple ha
  obtain ⟨its2, r2, p2, _⟩ := I.tuple hb
  refine HT.cat_tup p1 p2 (fun z => hx (r1.nil_iff.mp z)) (fun z => ⟨.ref a, H, I, rfl, q1 (r2.nil_iff.mp z)⟩) (fun z => ?_) (by rw [<- r1.length, <- r2.length]; exact hz)
  refine ⟨.ref s.heap.objs.size, _, I.laid (t' := s.toks) (o := .tup (xs ++ ys)) (fun b ob q => Heap.get?_push_of_some _ q) (Nat.le_refl _) ?_, rfl, q2 (fun w => z (r2.nil_iff.mpr w)) _ (I.hok.fresh (Nat.le_refl _))⟩
  exact ⟨by rw [List.length_append]; exact hz, _, r1.append r2, IsTup.new _ _⟩
end
end L2
namespace L2
open PySem PySem.Spec PyProof.Rows
def ixN (n : Nat) (i : Int) : Option Nat := if 0 <= i then (if i < n then some i.toNat else none) else if -(n : Int) <= i then some (i + n).toNat else none
def atI {α : Type} (xs : List α) (i : Int) : Option α := (ixN xs.length i).bind fun j => xs[j]?
theorem A9b {n : Nat} {i : Int} {j : Nat} (h : ixN n i = some j) : seqIndex? i n = some j /\ j < n /\ -(n : Int) <= i /\ i < n := by
  unfold ixN at h
  by_cases h0 : 0 <= i
  · rw [if_pos h0] at h
    by_cases h1 : i < n
    · rw [if_pos h1] at h
      have e : i.toNat = j := Option.some.inj h
      exact ⟨by rw [seqIndex_of h0 h1, e], by omega, by omega, h1⟩
    · rw [if_neg h1] at h; cases h
  · rw [if_neg h0] at h
    by_cases h1 : -(n : Int) <= i
    · rw [if_pos h1] at h
      have e : (i + n).toNat = j := Option.some.inj h
      exact ⟨by rw [seqIndex_neg (by omega) h1, e], by omega, h1, by omega⟩
    · rw [if_neg h1] at h; cases h
theorem A2r {α : Type} {xs : List α} {i : Int} {v : α} (h : atI xs i = some v) : ∃ j, seqIndex? i xs.length = some j /\ xs[j]? = some v /\ j < xs.length /\ -(xs.length : Int) <= i /\ i < xs.length := by
  unfold atI at h
  cases e : ixN xs.length i with
  | none => rw [e] at h; cases h
  | some j =>
    rw [e] at h
    obtain ⟨h1, h2, h3, h4⟩ := A9b e
    exact ⟨j, h1, h, h2, h3, h4⟩
theorem M8 {α : Type} {xs : List α} {j : Nat} {v : α} (h : xs[j]? = some v) : atI xs (j : Int) = some v := by
  have hj : j < xs.length := (List.getElem?_eq_some_iff.mp h).1
  have e : ixN xs.length (j : Int) = some j := by
    unfold ixN
    rw [if_pos (by omega), if_pos (by omega)]; simp
  unfold atI; rw [e]; exact h
def B0e (b : Expr) : Prop := ∀ o i, subscripted b false o i = operate [o, i] (getItem o i)
def IxR (X : Cx) (r : R2) : Prop :=
  ∀ (value slice : Expr) (pins : List (Addr × Obj)) (s : Shared) (σ : St) (H : Hp) (x y : V) (v u : Value) (Q : VK), Inv X pins σ H s -> RelV x v -> RelV y u -> r x y H Q ->
    subscripted slice false v u = operate [v, u] (getItem v u) -> wpAny (model X.prog X.w) X.A (subscriptTail value slice v u) (EP X pins σ Q) X.xe s
def MtR (X : Cx) (id : String) (r : V -> List V -> Hp -> VK -> Prop) : Prop :=
  ∀ (pins : List (Addr × Obj)) (s : Shared) (σ : St) (H : Hp) (x : V) (xs : List V) (v : Value) (us : List Value) (Q : VK), Inv X pins σ H s -> RelV x v -> Vals xs us -> r x xs H Q ->
    wpAny (model X.prog X.w) X.A (call (.builtin id) (v :: us)) (EP X pins σ Q) X.xe s
section
variable {X : Cx} {a b : Expr} {ta tb : TE} {pos : Pos}
theorem IxR.or {r r' : R2} (h : IxR X r) (h' : IxR X r') : IxR X (fun x y H Q => r x y H Q \/ r' x y H Q) := by
  intro value slice pins s σ H x y v u Q I rx ry q hs
  rcases q with q | q
  · exact h value slice pins s σ H x y v u Q I rx ry q hs
  · exact h' value slice pins s σ H x y v u Q I rx ry q hs
theorem A0a {r : R2} (hr : IxR X r) (ha : PE X a ta) (hb : PE X b tb) (hs : B0e b) : PE X (.Subscript a b pos) (tOp r ta tb) := by
  intro pins s σ H Q I h
  exact Subscript_ (binT ha hb I h fun v u s2 x y H2 I2 rx ry q => hr a b pins s2 σ H2 x y v u Q I2 rx ry q (hs _ _))
def rIxL (K : PySem.W.Frag) : R2 := fun x y H Q => ∃ p xs i v, x = .ref p /\ y = .int i /\ SqL K H p xs /\ atI xs i = some v /\ Q v H
def rIxT (K : PySem.W.Frag) : R2 := fun x y H Q => ∃ p xs i v, x = .ref p /\ y = .int i /\ SqT K H p xs /\ atI xs i = some v /\ Q v H
def rIxS : R2 := fun x y H Q => ∃ z i c, x = .str z /\ y = .int i /\ z.length <= sizeLine /\ atI z.cps.toList i = some c /\ Q (.str ⟨#[c]⟩) H
theorem ix_list : IxR X (rIxL X.K) := by
  intro value slice pins s σ H x y v u Q I rx ry h hs
  obtain ⟨p, xs, i, z, rfl, rfl, hq, he, q⟩ := h
  cases rx
  obtain ⟨t, rfl⟩ := ry
  obtain ⟨its, r, pl, hz⟩ := I.list hq
  obtain ⟨j, h1, h2, h3, h4, h5⟩ := A2r he
  obtain ⟨w, ew, rw'⟩ := r.get h2
  have hl := r.length
  have hn := X9
  have fin : EP X pins σ Q w s := ⟨z, H, I, rw', q⟩
  by_cases h0 : 0 <= i
  · have hj : i.toNat = j := by
      rw [seqIndex_of h0 h5] at h1
      exact Option.some.inj h1
    exact item_listR pl.isList h0 (by omega) (by rw [hj]; simpa using ew) fin hs
  · have hj : (i + (its.toArray.size : Int)).toNat = j := by
      rw [seqIndex_neg (by omega) h4] at h1
      rw [List.size_toArray, <- hl]
      exact Option.some.inj h1
    exact subscriptTail_builtinR (x := w) pl.isList.typeIs slot_list_getitem.lookup
      (wpAny_getItem_list_neg (Q := fun r s' => r = w /\ EP X pins σ Q r s') pl.isList (by omega) (by rw [List.size_toArray] <;> omega) (by omega) (by rw [hj]; simpa using ew) ⟨rfl, fin⟩) hs
theorem ix_tup : IxR X (rIxT X.K) := by
  intro value slice pins s σ H x y v u Q I rx ry h hs
  obtain ⟨p, xs, i, z, rfl, rfl, hq, he, q⟩ := h
  cases rx
  obtain ⟨t, rfl⟩ := ry
  obtain ⟨its, r, pl, hz⟩ := I.tuple hq
  obtain ⟨j, h1, h2, h3, h4, h5⟩ := A2r he
  obtain ⟨w, ew, rw'⟩ := r.get h2
  have hl := r.length
  have hn := X9
  have fin : EP X pins σ Q w s := ⟨z, H, I, rw', q⟩
  exact subscriptTail_builtinR (x := w) pl.typeIs slot_tuple_getitem.lookup
    (getItem_tuple (j := j) (Q := fun r s' => r = w /\ EP X pins σ Q r s') pl (by omega) (by omega) (by rw [List.size_toArray, <- hl]; exact h1) (by simpa using ew) ⟨rfl, fin⟩) hs
theorem B89 : IxR X rIxS := by
  intro value slice pins s σ H x y v u Q I rx ry h hs
  obtain ⟨z, i, c, rfl, rfl, hz, he, q⟩ := h
  obtain ⟨t, rfl⟩ := rx
  obtain ⟨t', rfl⟩ := ry
  obtain ⟨j, h1, h2, h3, h4, h5⟩ := A2r he
  have hl : z.cps.toList.length = z.length := by simp [Str.length]
  rw [hl] at h1 h4 h5
  have hn := X9
  exact tail_any (typeIs_str s z t) slot_str_getitem.lookup (getItem_str (c := c) (by
    have e1 : decide (i < -(2 ^ 63 : Int)) = false := decide_eq_false (by omega)
    have e2 : decide (i ≥ 2 ^ 63) = false := decide_eq_false (by omega)
    rw [e1, e2, Bool.or_false]) (by rw [h1]; simpa using h2) ⟨.str ⟨#[c]⟩, H, I.tok _, ⟨_, rfl⟩, q⟩) hs
def rIx (K : PySem.W.Frag) : R2 := fun x y H Q => rIxL K x y H Q \/ rIxT K x y H Q \/ rIxS x y H Q
theorem B9a : IxR X (rIx X.K) := ix_list.or (ix_tup.or B89)
theorem A5d (its : List Value) (n j : Nat) (u : Value) : Obj.mapSeq (·.setIfInBounds j u) { cls := .type "list", data := .seq its.toArray n } = { cls := .type "list", data := .seq (its.set j u).toArray n } := by
  simp [Obj.mapSeq]
theorem Inv.lst {pins : List (Addr × Obj)} {σ : St} {H : Hp} {s : Shared} {p : Addr} {xs : List V} (I : Inv X pins σ H s) (h : H p = some (.lst xs)) :
    ∃ (its : List Value) (n : Nat), Vals xs its /\ s.heap.get? p = some { cls := .type "list", data := .seq its.toArray n } /\ xs.length <= sizeLine := by
  obtain ⟨z, its, n, r, e⟩ := I.hok p _ h
  exact ⟨its, n, r, e, z⟩
theorem Inv.lstUpd {pins : List (Addr × Obj)} {σ : St} {H : Hp} {s : Shared} {p : Addr} {xs ys : List V} {its its' : List Value} {n n' : Nat} {f : Obj -> Obj} (I : Inv X pins σ H s) (h : H p = some (.lst xs))
    (ho : s.heap.get? p = some { cls := .type "list", data := .seq its.toArray n }) (hf : f { cls := .type "list", data := .seq its.toArray n } = { cls := .type "list", data := .seq its'.toArray n' }) (r : Vals ys its') (hz : ys.length <= sizeLine) (t : Nat) :
    Inv X pins σ (upd H p (.lst ys)) { s with heap := s.heap.update p f, toks := t } := by
  have e : (s.heap.update p f).get? p = some { cls := .type "list", data := .seq its'.toArray n' } := by
    rw [Heap.get?_update_self f ho (by rw [hf] <;> rfl), hf]
  refine I.write (x := p) (e := p) (by rw [h]; trivial) (.inl rfl) (fun b u hb q => (Heap.get?_update_other _ _ (Ne.symm hb)).trans q) ⟨_, e⟩ ?_
  exact ⟨hz, its', n', r, e⟩
def B95 : V -> V -> V -> Hp -> (Hp -> Prop) -> Prop := fun o i v H Q => ∃ p xs k j, o = .ref p /\ i = .int k /\ H p = some (.lst xs) /\ ixN xs.length k = some j /\ Q (upd H p (.lst (xs.set j v)))
theorem Z3 : PSet X B95 := by
  intro pins s σ H o i v ov iv u Q I ro ri rv h
  obtain ⟨p, xs, k, j, rfl, rfl, hp, hj, q⟩ := h
  cases ro
  obtain ⟨t, rfl⟩ := ri
  obtain ⟨its, n, r, ho, hz⟩ := I.lst hp
  obtain ⟨h1, h2, h3, h4⟩ := A9b hj
  have hl := r.length
  have hn := X9
  have I' : Inv X pins σ (upd H p (.lst (xs.set j v))) { s with heap := s.heap.update p (Obj.mapSeq (·.setIfInBounds j u)) } :=
    I.lstUpd hp ho (A5d its n j u) (r.set rv j) (by rw [List.length_set]; exact hz) s.toks
  by_cases h0 : 0 <= k
  · have hk : k.toNat = j := by
      rw [seqIndex_of h0 h4] at h1
      exact Option.some.inj h1
    exact PySem.W.ki_setAt ho h0 (by omega) (by rw [List.size_toArray, <- hl]; exact h4) (by rw [hk]; exact ⟨_, I', q⟩)
  · have hk : (k + (its.toArray.size : Int)).toNat = j := by
      rw [seqIndex_neg (by omega) h3] at h1
      rw [List.size_toArray, <- hl]
      exact Option.some.inj h1
    exact PySem.W.ki_setBack ho (by omega) (by rw [List.size_toArray, <- hl]; exact h3) (by omega) (by rw [hk]; exact ⟨_, I', q⟩)
theorem A0p (lo hi : Option Int) (n : Nat) : (sliceBounds lo hi none n).1 = ((HT.sIx n 0 lo : Nat) : Int) /\ (sliceBounds lo hi none n).2.1 = ((HT.sIx n n hi : Nat) : Int) /\ (sliceBounds lo hi none n).2.2 = 1 := by
  refine ⟨?_, ?_, rfl⟩
  · cases lo with
    | none => simp [sliceBounds, HT.sIx]
    | some i =>
      simp only [sliceBounds, HT.sIx, Option.getD_none, show (1 : Int) > 0 by decide, if_true]
      by_cases h : i < 0
      · simp only [h, if_true] <;> omega
      · simp only [h, if_false] <;> omega
  · cases hi with
    | none => simp [sliceBounds, HT.sIx]
    | some i =>
      simp only [sliceBounds, HT.sIx, Option.getD_none, show (1 : Int) > 0 by decide, if_true]
      by_cases h : i < 0
      · simp only [h, if_true] <;> omega
      · simp only [h, if_false] <;> omega
theorem Z2 (its : List Value) (lo hi : Option Int) : slicePick its.toArray lo hi none = ((its.drop (HT.sIx its.length 0 lo)).take (HT.sIx its.length its.length hi - HT.sIx its.length 0 lo)).toArray := by
  obtain ⟨h1, h2, h3⟩ := A0p lo hi its.toArray.size
  unfold slicePick
  rw [h1, h2, h3]
  simp only [sliceRange_one, pick_run, List.size_toArray] <;> rfl
def rSlL (K : PySem.W.Frag) : V -> Option Int -> Option Int -> Hp -> VK -> Prop := fun x lo hi H Q => ∃ a xs, x = .ref a /\ SqL K H a xs /\ ∀ p, H p = none -> Q (.ref p) (upd H p (.lst (cutV xs lo hi)))
theorem B4p : SlR X (rSlL X.K) := by
  intro pins s σ H x v vl vu lo hi sl Q I rx hs pl pu h
  obtain ⟨a, xs, rfl, hx, q⟩ := h
  cases rx
  obtain ⟨its, r, ht, hz⟩ := I.list hx
  have hlen := r.length
  refine ⟨"list", _, slot_list_getitem.lookup, ht.isList.typeIs, ?_⟩
  refine wpAny_getItem_list_slice ht.isList hs pl pu .none (by simp) ?_ (by rw [List.size_toArray] <;> omega)
  rw [Z2, <- hlen]
  refine ⟨.ref s.heap.objs.size, _, I.laid (t' := s.toks) (o := .lst (cutV xs lo hi)) (fun b ob q => Heap.get?_push_of_some _ q) (Nat.le_refl _) ?_, rfl, q _ (I.hok.fresh (Nat.le_refl _))⟩
  exact ⟨Nat.le_trans (A2p xs lo hi) hz, _, 0, (r.drop (HT.sIx xs.length 0 lo)).take (HT.sIx xs.length xs.length hi - HT.sIx xs.length 0 lo), Heap.get?_push_size _ rfl⟩
theorem call_len_seq : CallR X (.builtin "len") (fun xs H Q => ∃ p ys, xs = [.ref p] /\ (SqL X.K H p ys \/ SqT X.K H p ys) /\ Q (.int ys.length) H) := by
  intro pins s σ H xs us Q I r h
  obtain ⟨p, ys, rfl, hq, q⟩ := h
  obtain ⟨u, rfl, rx⟩ := A1y r
  cases rx
  have hn := X9
  rcases hq with hq | hq
  · obtain ⟨its, r', pl, hz⟩ := I.list hq
    have hlen := r'.length
    exact Calls.call_len_list pl.isList (by simp only [List.size_toArray] <;> omega) ⟨.int ys.length, H, I.tok _, ⟨s.toks + 1, by rw [List.size_toArray, hlen]⟩, q⟩
  · obtain ⟨its, r', pl, hz⟩ := I.tuple hq
    have hlen := r'.length
    exact len_tuple pl (by simp only [List.size_toArray] <;> omega) ⟨.int ys.length, H, I.tok _, ⟨s.toks + 1, by rw [List.size_toArray, hlen]⟩, q⟩
theorem A1k : CallR X (.builtin "len") (fun xs H Q => ∃ z, xs = [.str z] /\ z.length <= sizeLine /\ Q (.int z.length) H) := by
  intro pins s σ H xs us Q I r h
  obtain ⟨z, rfl, hz, q⟩ := h
  obtain ⟨u, rfl, t, rfl⟩ := A1y r
  have hn := X9
  exact len_str (by omega) ⟨.int z.length, H, I.tok _, ⟨_, rfl⟩, q⟩
theorem CallR.or {f : Value} {r r' : List V -> Hp -> VK -> Prop} (h : CallR X f r) (h' : CallR X f r') : CallR X f (fun xs H Q => r xs H Q \/ r' xs H Q) := by
  intro pins s σ H xs us Q I rs q
  rcases q with q | q
  · exact h pins s σ H xs us Q I rs q
  · exact h' pins s σ H xs us Q I rs q
theorem A1j : CallR X (.type "list") (fun xs H Q => ∃ p ys, xs = [.ref p] /\ (SqL X.K H p ys \/ SqT X.K H p ys) /\ ∀ l, H l = none -> Q (.ref l) (upd H l (.lst ys))) := by
  intro pins s σ H xs us Q I r h
  obtain ⟨p, ys, rfl, hq, q⟩ := h
  obtain ⟨u, rfl, rx⟩ := A1y r
  cases rx
  have fin : ∀ (its : List Value), Vals ys its -> ys.length <= sizeLine -> ∀ (h' : Heap) (c' : Nat), (∀ b o', s.heap.get? b = some o' -> h'.get? b = some o') ->
      h'.get? s.heap.objs.size = some { cls := .type "list", dict := none, data := .seq its.toArray c', slots := #[] } -> EP X pins σ Q (.ref s.heap.objs.size) { s with heap := h' } := fun its r' hz h' c' kp e =>
    ⟨.ref s.heap.objs.size, _, I.laid (t' := s.toks) kp (Nat.le_refl _) (show ObjOk X.prog X.w _ h' _ (.lst ys) from ⟨hz, its, c', r', e⟩), rfl, q _ (I.hok.fresh (Nat.le_refl _))⟩
  rcases hq with hq | hq
  · obtain ⟨its, r', pl, hz⟩ := I.list hq
    have hlen := r'.length
    obtain ⟨o, ho, hc, n, hd⟩ := pl.isList
    exact call_list_seq p (.inl rfl) ho hc hd (fun h' c' kp e => fin its r' hz h' c' kp e) (by simp only [List.size_toArray] <;> omega)
  · obtain ⟨its, r', pl, hz⟩ := I.tuple hq
    have hlen := r'.length
    obtain ⟨o, ho, hc, n, hd⟩ := pl
    exact call_list_seq p (.inr rfl) ho hc hd (fun h' c' kp e => fin its r' hz h' c' kp e) (by simp only [List.size_toArray] <;> omega)
def tyV (K : PySem.W.Frag) (T : String) (x : V) (H : Hp) : Prop := match x with
  | .str _ => T = "str"
  | .int _ => T = "int"
  | .ref p => (T = "list" /\ ∃ xs, SqL K H p xs) \/ (T = "tuple" /\ ∃ o, K.lookup p = some o /\ o.cls = .type "tuple" /\ o.dict = none) \/
      (T = "dict" /\ ((∃ kvs, H p = some (.dK kvs)) \/ ∃ kvs, H p = some (.dT kvs))) \/ (T = "set" /\ ∃ S n, H p = some (.set S n))
  | _ => False
theorem B1q {pins : List (Addr × Obj)} {σ : St} {H : Hp} {s : Shared} {T : String} {x : V} {v : Value} (I : Inv X pins σ H s) (r : RelV x v) (ty : tyV X.K T x H) :
    s.TypeIs v T /\ ∀ a, v = .ref a -> ∃ ob, s.heap.get? a = some ob /\ ob.dict = none := by
  cases x with
  | str z =>
    obtain ⟨t, rfl⟩ := r
    cases (show T = "str" from ty)
    exact ⟨typeIs_str s z t, fun _ e => nomatch e⟩
  | int i =>
    obtain ⟨t, rfl⟩ := r
    cases (show T = "int" from ty)
    exact ⟨typeIs_int s i t, fun _ e => nomatch e⟩
  | ref p =>
    cases r
    rcases ty with ⟨rfl, xs, hq⟩ | ⟨rfl, o, hk, hc, hd⟩ | ⟨rfl, hk⟩ | ⟨rfl, S, n, hk⟩
    · obtain ⟨its, _, pl, _⟩ := I.list hq
      refine ⟨pl.isList.typeIs, fun a e => ?_⟩
      cases e
      obtain ⟨o, n, e, c, hd, _⟩ := pl
      exact ⟨o, e, hd⟩
    · refine ⟨⟨o, I.kIn p o hk, hc⟩, fun a e => ?_⟩
      cases e
      exact ⟨o, I.kIn _ o hk, hd⟩
    · have z : ∃ o, s.heap.get? p = some o /\ o.ExactDict := by
        rcases hk with ⟨kvs, hk⟩ | ⟨kvs, hk⟩
        · obtain ⟨_, _, _, _, o, _, _, e, ex, _⟩ := I.hok p _ hk
          exact ⟨o, e, ex⟩
        · obtain ⟨_, _, _, _, o, _, _, e, ex, _⟩ := I.hok p _ hk
          exact ⟨o, e, ex⟩
      obtain ⟨o, e, ex⟩ := z
      refine ⟨⟨o, e, ex.1⟩, fun a e2 => ?_⟩
      cases e2
      exact ⟨o, e, ex.2.1⟩
    · obtain ⟨o, _, _, _, e, ex, _⟩ := I.hok p _ hk
      refine ⟨⟨o, e, ex.1⟩, fun a e2 => ?_⟩
      cases e2
      exact ⟨o, e, ex.2.1⟩
  | _ => exact False.elim ty
def tBM0 (K : PySem.W.Frag) (T : String) (r : V -> List V -> Hp -> VK -> Prop) (to : TE) : TE := fun σ H Q => to σ H fun x H1 => tyV K T x H1 /\ r x [] H1 Q
def tBM (K : PySem.W.Frag) (T : String) (r : V -> List V -> Hp -> VK -> Prop) (to : TE) (t : TA) : TE := fun σ H Q => to σ H fun x H1 => tyV K T x H1 /\ t σ H1 fun xs H2 => r x xs H2 Q
variable {o e : Expr} {es : List Expr} {to : TE} {t : TA} {name : Str} {apos cpos : Pos} {T id : String} {r : V -> List V -> Hp -> VK -> Prop}
theorem B7p (pa : PlainAttrs T) (slot : Slot T name id) (hty : typeOf (.builtin id) = pure (.type "method_descriptor")) (hm : MtR X id r) (ho : PE X o to)
    (hbase : attributeBase o name X.env (eval o X.env) = eval o X.env := by rfl) (hline : (apos.endLine == cpos.line) = true := by rfl) : PE X (.Call (.Attribute o name apos) [] [] cpos) (tBM0 X.K T r to) := by
  intro pins s σ H Q I h
  refine wpAny_Call_method0_late hbase hline (thn (ho pins s σ H _ I h) fun v s1 ⟨x, H1, I1, r1, ty, q1⟩ => ?_)
  obtain ⟨h1, h2⟩ := B1q I1 r1 ty
  exact ⟨T, id, pa, slot, hty, h1, h2, Calls.callWith_builtin rfl (PySem.evalArgs_none (hm pins s1 σ H1 x [] v [] Q I1 r1 .nil q1))⟩
theorem C0c (pa : PlainAttrs T) (slot : Slot T name id) (hty : typeOf (.builtin id) = pure (.type "method_descriptor")) (hm : MtR X id r) (ho : PE X o to) (ha : PA X (e :: es) t)
    (hbase : attributeBase o name X.env (eval o X.env) = eval o X.env := by rfl)
    (hfew : ((backTo cpos (starEach (e :: es) X.env)).all (fun x => !x.1) && (backToKw cpos (keywordEach [] X.env)).all (fun x => x.1.isSome)
      && decide ((e :: es).length + ([] : List Keyword).length + (if ([] : List Keyword).isEmpty then 0 else 1) < 30)) = true := by rfl)
    (hline : (apos.endLine == cpos.line) = true := by rfl) (hs : starEach (e :: es) X.env = (false, eval e X.env) :: starEach es X.env := by rfl) (hplain : (backTo cpos (starEach es X.env)).any (·.1) = false := by rfl) :
    PE X (.Call (.Attribute o name apos) (e :: es) [] cpos) (tBM X.K T r to t) := by
  intro pins s σ H Q I h
  refine wpAny_Call_method_late hbase hfew hline rfl (thn (ho pins s σ H _ I h) fun v s1 ⟨x, H1, I1, r1, ty, q1⟩ => ?_)
  obtain ⟨h1, h2⟩ := B1q I1 r1 ty
  refine ⟨T, id, pa, slot, hty, h1, h2, ?_⟩
  have hA := ha cpos pins s1 σ H1 _ I1 q1
  rw [hs] at hA ⊢
  refine Calls.callWith_builtin (by show (false || (backTo cpos (starEach es X.env)).any (·.1)) = false; rw [hplain] <;> rfl) (Calls.evalArgs_plain ?_)
  exact thn hA fun us s2 ⟨vs, H2, I2, r2, q2⟩ => hm pins s2 σ H2 x vs v us Q I2 r1 r2 q2
end
end L2
namespace L2
open PySem PySem.Spec PyProof.Rows
def MtM (X : Cx) (id : String) (r : V -> List V -> Hp -> VK -> Prop) : Prop :=
  ∀ (pins : List (Addr × Obj)) (s : Shared) (σ : St) (H : Hp) (x : V) (xs : List V) (v : Value) (us : List Value) (Q : VK), Inv X pins σ H s -> RelV x v -> Vals xs us -> r x xs H Q ->
    wpAny (model X.prog X.w) X.A (call (.builtin id) (v :: us)) (EP X pins σ Q) X.xe s
theorem Vals.one : ∀ {x : V} {us : List Value}, Vals [x] us -> ∃ u, us = [u] /\ RelV x u
  | _, _, .cons r .nil => ⟨_, rfl, r⟩
theorem Vals.two : ∀ {x y : V} {us : List Value}, Vals [x, y] us -> ∃ u v, us = [u, v] /\ RelV x u /\ RelV y v
  | _, _, _, .cons r (.cons q .nil) => ⟨_, _, rfl, r, q⟩
theorem Vals.zero : ∀ {us : List Value}, Vals [] us -> us = []
  | _, .nil => rfl
theorem Vals.dropLast {xs : List V} {us : List Value} (h : Vals xs us) : Vals xs.dropLast us.dropLast := by
  induction h with
  | nil => exact .nil
  | cons r t ih =>
    cases t with
    | nil => exact .nil
    | cons q t' => exact .cons r ih
theorem Vals.eraseIdx : ∀ {xs : List V} {us : List Value} (i : Nat), Vals xs us -> Vals (xs.eraseIdx i) (us.eraseIdx i)
  | _, _, _, .nil => .nil
  | _, _, 0, .cons _ t => t
  | _, _, i + 1, .cons r t => .cons r (Vals.eraseIdx i t)
theorem Vals.reverse {xs : List V} {us : List Value} (h : Vals xs us) : Vals xs.reverse us.reverse := by
  induction h with
  | nil => exact .nil
  | cons r t ih => rw [List.reverse_cons, List.reverse_cons]; exact Vals.append ih (.cons r .nil)
theorem Vals.rep {xs : List V} {us : List Value} (h : Vals xs us) : ∀ k : Nat, Vals (List.replicate k xs).flatten (List.replicate k us).flatten
  | 0 => .nil
  | k + 1 => by
    rw [List.replicate_succ, List.replicate_succ, List.flatten_cons, List.flatten_cons]
    exact Vals.append h (Vals.rep h k)
theorem A5e {α : Type} (l : List α) : l.eraseIdx (l.length - 1) = l.dropLast := by
  induction l with
  | nil => rfl
  | cons a r ih =>
    cases r with
    | nil => rfl
    | cons b r =>
      have e : (a :: b :: r).length - 1 = ((b :: r).length - 1) + 1 := by
        have h1 : (a :: b :: r).length = r.length + 2 := rfl
        have h2 : (b :: r).length = r.length + 1 := rfl
        omega
      rw [e, List.eraseIdx_cons_succ, ih]
      all_goals rfl
theorem A07 {α : Type} : ∀ (l : List α) (i : Nat), (l.eraseIdx i).length <= l.length
  | [], _ => Nat.le_refl _
  | _ :: _, 0 => Nat.le_succ _
  | _ :: r, i + 1 => Nat.succ_le_succ (A07 r i)
section
variable {X : Cx} {pins : List (Addr × Obj)} {σ : St} {H : Hp} {s : Shared} {l b : Addr} {xs ys zs : List V}
theorem Inv.lset {its its' : List Value} {n : Nat} {f : Array Value -> Array Value} {t' : Nat} (I : Inv X pins σ H s) (hH : H l = some (.lst xs))
    (e : s.heap.get? l = some { cls := .type "list", data := .seq its.toArray n }) (hf : f its.toArray = its'.toArray) (hv : Vals ys its') (hz : ys.length <= sizeLine) :
    Inv X pins σ (upd H l (.lst ys)) { s with heap := s.heap.update l (Obj.mapSeq f), toks := t' } := by
  have q := PySem.IsL.update e f
  rw [hf] at q
  refine I.write (x := l) (e := l) (by rw [hH]; exact trivial) (.inl rfl) (fun b' u hb hu => (Heap.get?_update_other s.heap (Obj.mapSeq f) (Ne.symm hb)).trans hu) ⟨_, q⟩ ?_
  exact ⟨hz, its', _, hv, q⟩
theorem Inv.lnew {its : List Value} {t' : Nat} (I : Inv X pins σ H s) (hv : Vals ys its) (hz : ys.length <= sizeLine) :
    Inv X pins σ (upd H s.heap.objs.size (.lst ys)) { s with heap := s.heap.push { cls := .type "list", data := .seq its.toArray }, toks := t' } :=
  I.laid (fun _ _ q => Heap.get?_push_of_some _ q) (Nat.le_refl _) ⟨hz, its, 0, hv, Heap.get?_push_size _ rfl⟩
theorem Inv.fresh (I : Inv X pins σ H s) : H s.heap.objs.size = none := I.hok.fresh (Nat.le_refl _)
theorem Inv.lstM (I : Inv X pins σ H s) (hH : H l = some (.lst xs)) : xs.length <= sizeLine /\ ∃ (its : List Value) (n : Nat), Vals xs its /\ xs.length = its.length /\ s.heap.get? l = some { cls := .type "list", data := .seq its.toArray n } := by
  obtain ⟨z, its, n, r, e⟩ := I.hok l _ hH
  exact ⟨z, its, n, r, r.length, e⟩
end
section
variable {X : Cx}
def A14 : V -> List V -> Hp -> VK -> Prop := fun x vs H Q => ∃ l xs y, x = .ref l /\ vs = [y] /\ H l = some (.lst xs) /\ xs.length < sizeLine /\ Q .non (upd H l (.lst (xs ++ [y])))
theorem F5 : MtM X "list.append" A14 := by
  intro pins s σ H x vs v us Q I rx rv h
  obtain ⟨l, xs, y, rfl, rfl, hH, hz, q⟩ := h
  cases rx
  obtain ⟨u, rfl, ru⟩ := rv.one
  obtain ⟨z, its, n, r, hl, e⟩ := I.lstM hH
  refine call_meets F.slot_list_append ⟨_, e, rfl⟩ F.entry_list_append (F.args_list_append_2 _ _) (PySem.list_append l its.toArray n u (by rw [List.size_toArray]; omega)) ⟨e, ?_⟩
  refine ⟨.non, _, I.lset (its' := its ++ [u]) hH e (by simp) (r.append (.cons ru .nil)) ?_, rfl, q⟩
  rw [List.length_append, List.length_singleton]
  omega
def rPop : V -> List V -> Hp -> VK -> Prop := fun x vs H Q => ∃ l xs y, x = .ref l /\ vs = [] /\ H l = some (.lst xs) /\ xs[xs.length - 1]? = some y /\ Q y (upd H l (.lst xs.dropLast))
theorem C0r : MtM X "list.pop" rPop := by
  intro pins s σ H x vs v us Q I rx rv h
  obtain ⟨l, xs, y, rfl, rfl, hH, hy, q⟩ := h
  cases rx
  have hus := rv.zero
  subst hus
  obtain ⟨z, its, n, r, hl, e⟩ := I.lstM hH
  obtain ⟨u, hu, ru⟩ := r.get hy
  have hy' : its.toArray[its.toArray.size - 1]? = some u := by
    show its.toArray[its.length - 1]? = some u
    rw [<- Array.getElem?_toList, <- hl]
    exact hu
  refine call_meets F.slot_list_pop ⟨_, e, rfl⟩ F.entry_list_pop (F.args_list_pop_1 _) (MeetsSeq.list_pop_last l its.toArray n u hy' (by rw [List.size_toArray]; omega)) ⟨e, ?_⟩
  refine ⟨y, _, I.lset (its' := its.dropLast) hH e ?_ r.dropLast ?_, ru, q⟩
  · show its.toArray.eraseIdxIfInBounds (its.toArray.size - 1) = its.dropLast.toArray
    rw [List.size_toArray, List.eraseIdxIfInBounds_toArray, A5e]
  · rw [List.length_dropLast]
    omega
def X3 : V -> List V -> Hp -> VK -> Prop := fun x vs H Q => ∃ l xs i k y, x = .ref l /\ vs = [.int i] /\ H l = some (.lst xs) /\ -(2 ^ 63) <= i /\ i < 2 ^ 63 /\ seqIndex? i xs.length = some k /\ xs[k]? = some y /\ Q y (upd H l (.lst (xs.eraseIdx k)))
theorem N2 : MtM X "list.pop" X3 := by
  intro pins s σ H x vs v us Q I rx rv h
  obtain ⟨l, xs, i, k, y, rfl, rfl, hH, h1, h2, hk, hy, q⟩ := h
  cases rx
  obtain ⟨u, rfl, ru⟩ := rv.one
  obtain ⟨t, rfl⟩ := ru
  obtain ⟨z, its, n, r, hl, e⟩ := I.lstM hH
  obtain ⟨w, hw, rw'⟩ := r.get hy
  refine call_meets F.slot_list_pop ⟨_, e, rfl⟩ F.entry_list_pop (F.args_list_pop_2 _ _)
    (MeetsSeq.list_pop_at l its.toArray n i t k w (fitsIndex_both h1 h2) (by rw [List.size_toArray, <- hl]; exact hk) (by rw [<- Array.getElem?_toList]; exact hw) (by rw [List.size_toArray]; omega)) ⟨e, ?_⟩
  refine ⟨y, _, I.lset (its' := its.eraseIdx k) hH e ?_ (r.eraseIdx k) ?_, rw', q⟩
  · show its.toArray.eraseIdxIfInBounds k = (its.eraseIdx k).toArray
    rw [List.eraseIdxIfInBounds_toArray]
  · have := A07 xs k
    omega
def A5z : V -> List V -> Hp -> VK -> Prop := fun x vs H Q => ∃ l xs, x = .ref l /\ vs = [] /\ H l = some (.lst xs) /\ Q .non (upd H l (.lst []))
theorem B08 : MtM X "list.clear" A5z := by
  intro pins s σ H x vs v us Q I rx rv h
  obtain ⟨l, xs, rfl, rfl, hH, q⟩ := h
  cases rx
  have hus := rv.zero
  subst hus
  obtain ⟨z, its, n, r, hl, e⟩ := I.lstM hH
  refine call_meets F.slot_list_clear ⟨_, e, rfl⟩ F.entry_list_clear (F.args_list_clear_1 _) (AutoSeq1.list_clear_list_0 l its.toArray n (by rw [List.size_toArray]; omega)) ⟨e, ?_⟩
  exact ⟨.non, _, I.lset (its' := []) (ys := []) hH e rfl .nil (Nat.zero_le _), rfl, q⟩
end
section
variable {prog : Program} {w : World} {A : Around} {E : Value -> Shared -> Prop} {s : Shared}
end
section
variable {X : Cx}
end
end L2
namespace Att
open PySem PySem.W PySem.Calls PyProof.Rows
theorem U7 {P : Params} {h : Heap} : ∀ (ns : List Int) (vs : List Value), WellAll P h vs (ns.map WData.int) -> IntsAre vs ns := by
  intro ns
  induction ns with
  | nil =>
    intro vs w
    rw [List.map_nil] at w
    cases w
    exact .nil
  | cons n ns ih =>
    intro vs w
    rw [List.map_cons] at w
    cases w with
    | cons a b =>
      cases a
      exact .cons _ _ (ih _ b)
theorem A5y {l : OpenLaw} {n : Nat} (hn : l.most = some n) {P : Params} {h : Heap} {args : List WData} {vals : List Value}
    (hpre : l.row.toRowW.claim.pre args = true) (hwl : WellAll P h vals args) :
    ∃ a vs ns, vals = [Value.ref a] /\ args = [WData.list (ns.map WData.int)] /\ h.get? a = some { cls := .type "list", data := .seq vs.toArray } /\ IntsAre vs ns /\ ns.length <= n := by
  have hsh : WShape.hasAll [] args [.list .int] = true := (pre_splitW hpre).1
  have hc : l.pre.holds [] { args := args } = true := (pre_splitW hpre).2
  obtain ⟨d, r, rfl, h1, h2⟩ := hasAllW_cons hsh
  obtain rfl := hasAllW_nil h2
  obtain ⟨xs, rfl, h3⟩ := hasW_list h1
  obtain ⟨ns, rfl⟩ := items_int h3
  have hlen : ns.length <= n := by
    unfold OpenLaw.pre at hc
    have h4 : (WTm.not (.lt (.lit (.int (n : Int))) (.len (.arg 0)))).holds [] { args := [.list (ns.map .int)] } = true := by
      have h4 := (holds_andW hc).1
      rw [hn] at h4
      exact h4
    have h5 := condW_of h4 (w_not (w_lt w_lit (w_len_list (w_arg rfl))))
    rw [List.length_map] at h5
    refine Nat.le_of_not_lt fun q => ?_
    have q' : (n : Int) < ((ns.length : Nat) : Int) := by omega
    first
      | (rw [decide_eq_true q'] at h5; exact absurd h5 (by decide))
      | (simp at h5; omega)
  cases hwl with
  | cons w1 w2 =>
    cases w2
    cases w1 with
    | list ho hall => exact ⟨_, _, ns, rfl, rfl, ho, U7 ns _ hall, hlen⟩
theorem A6d (l : OpenLaw) (args : List WData) : l.row.toRowW.claim.post args (.bool true) args = true :=
  postW_of (r := l.row.toRowW) (X := (true == true))
    (show WShape.has [] (.bool true) .bool = true by first | rfl | decide | simp [WShape.has, WShape.arms, WShape.armsAll])
    (show (WTm.eq .res (.lit (.bool true))).value [] { args := args, res := some (.bool true), after := args } = some (.bool (true == true)) from w_eq_bool (w_res rfl) w_lit) rfl
theorem attach_call {l : OpenLaw} {n : Nat} {q : Program} {loose : List Str} {XP : (Str -> Option Value) -> Heap -> Prop} {YP : World -> Heap -> Prop} {d : DefRec}
    (hn : l.most = some n) (hdf : d.params.defaults = [])
    (call : ∀ (w : World) (s₀ s₁ : Shared) (mg mb : Str -> Option Value) (fa : Addr) (o : Obj) (pm cd doc : Value) (a : Addr) (vs : List Value) (ns : List Int),
      Ground q loose [] XP w s₀ mg mb s₁.heap -> YP w s₁.heap ->
      s₁.heap.get? fa = some o -> o.data = .func (docDef d.name d.params d.body d.scope pm cd doc) -> s₁.heap.CodeRec cd d.name -> mg d.name = some (.ref fa) ->
      s₁.heap.get? a = some { cls := .type "list", data := .seq vs.toArray } -> IntsAre vs ns -> ns.length <= n -> s₁.gens = #[] ->
      codeAny (model l.prog w) callerA (.call (.ref fa) ⟨[.ref a], []⟩) (fun r s' => r = .ok (.ret (.bool true)) /\ OldK s₁.heap s'.heap /\ s'.os = s₁.os /\ AllBare s'.gens) s₁) :
    WalkO q loose XP YP l.row.toRowW d [] (fun f vs => PySem.call f vs) := by
  intro w s₀ s₁ mg mb G Y fa o pm cd doc dV kV ho hd hcd hD hmg hg args vals as hpre hlay hrd hwl hlo
  obtain rfl : dV = .none := Dflts.none hD hdf
  obtain rfl : kV = .none := Dflts.noKw hD
  obtain ⟨a, vs, ns, rfl, rfl, hobj, hints, hlen⟩ := A5y hn hpre hwl
  refine enter_call (codeAny_mono (call w s₀ s₁ mg mb fa o pm cd doc a vs ns G Y ho (fd_plain hd) hcd hmg hobj hints hlen hg) fun r s' hq => ?_)
  obtain ⟨rfl, h2, h3, h4⟩ := hq
  exact ⟨.inl ⟨.bool true, .bool true, [], rfl, fun _ => rfl, .bool true, A6d l _, fun _ => ⟨List.Pairwise.nil, fun _ hm => (nomatch hm)⟩⟩, h2, h3, h4⟩
section
variable {prog : Program} {w : World} {A : Around} {E : Value -> Shared -> Prop} {s : Shared} {K : Frag}
def C0s (h : Heap) (L d : Addr) : List (Addr × Obj) := (List.range h.objs.size).filterMap fun a => if a = L \/ a = d then none else (h.get? a).map fun o => (a, o)
end
end Att
namespace L2
open PySem PySem.Spec PyProof.Rows
theorem A0k : ∀ {vs : List Value} {ns : List Int}, IntsAre vs ns -> Vals (ns.map V.int) vs
  | _, _, .nil => .nil
  | _, _, .cons n t h => .cons ⟨t, rfl⟩ (A0k h)
def Only (H : Hp) : Prop := ∀ b, H b = none \/ ∃ o xs, H b = some (.frz o (.lst xs))
theorem B1a {P : Program} {w : World} {K : PySem.W.Frag} {mg mb : Str -> Option Value} {CX : CXT} {k : Nat} {fa a : Addr} {fd : FuncData} {x : Str} {sp : Sp} {s₁ : Shared} {vs : List Value} {ns : List Int}
    (KX : K.In s₁.heap) (hns : s₁.heap.Ns mainGlobals mg) (hb : s₁.heap.Ns builtinsNs mb) (hbb : ∀ x : Str, x ≠ "__name__" -> mb x = bootBuiltins x) (hlim : s₁.heap.NoLimit) (hg : s₁.gens = #[])
    (ha : s₁.heap.get? a = some { cls := .type "list", data := .seq vs.toArray }) (hi : IntsAre vs ns) (hl : ns.length <= sizeLine) (hr : Room k callerA)
    (F : ∀ base : Heap, K.In base -> base.Ns mainGlobals mg -> FnOk P w K mg base CX k fa fd [x] sp) (hbind : ∀ (s : Shared) (u : Value), BindsTo s fd ⟨[u], []⟩ [(x, u)])
    (hsp : ∀ H : Hp, Only H -> SqL K H a (ns.map V.int) -> sp [.ref a] H (fun v _ => v = .bl true) fun _ _ _ => False)
    (hCX : ∀ H e s', CX [] H s₁ (fun _ _ _ => False) e s' -> False) :
    codeAny (model P w) callerA (.call (.ref fa) ⟨[.ref a], []⟩) (fun r s' => r = .ok (.ret (.bool true)) /\ OldK s₁.heap s'.heap /\ s'.os = s₁.os /\ AllBare s'.gens) s₁ := by
  have rv := A0k hi
  have lenV := hi.length
  have core : ∀ H : Hp, Only H -> SqL K H a (ns.map V.int) -> HOk P w H s₁.heap -> (∀ b, H b ≠ none -> b = a) -> (H a ≠ none -> K.lookup a = none) ->
      codeAny (model P w) callerA (.call (.ref fa) ⟨[.ref a], []⟩) (fun r s' => r = .ok (.ret (.bool true)) /\ OldK s₁.heap s'.heap /\ s'.os = s₁.os /\ AllBare s'.gens) s₁ := by
    intro H hO hS hok hA hK
    have base_of : ∀ {b : Addr} {o : Obj}, s₁.heap.get? b = some o -> H b = none -> (hidT s₁.heap H).get? b = some o := fun e n => B1d e n
    have noA : ∀ {b : Addr} {o : Obj} {es : Array DictEntry} {ep : Nat}, s₁.heap.get? b = some o -> o.data = .dict es ep -> H b = none := fun {b o es ep} e d => by
      cases q : H b with
      | none => rfl
      | some u =>
        have e' : b = a := hA b (by rw [q]; simp)
        subst e'
        rw [ha] at e; cases e
        have d' : Data.seq vs.toArray _ = Data.dict es ep := d
        cases d'
    have nsK : ∀ {b : Addr} {m : Str -> Option Value}, s₁.heap.Ns b m -> (hidT s₁.heap H).Ns b m := fun {b m} ⟨o, es, ep, e, d, r⟩ => ⟨o, es, ep, base_of e (noA e d), d, r⟩
    have hKb : K.In (hidT s₁.heap H) := fun b o e => base_of (KX b o e) (by
      cases q : H b with
      | none => rfl
      | some u =>
        have e' : b = a := hA b (by rw [q]; simp)
        subst e'
        rw [hK (by rw [q]; simp)] at e; cases e)
    have hM : Mod K mg (hidT s₁.heap H) := ⟨hKb, nsK hns, ⟨mb, nsK hb, hbb⟩, let ⟨mc, h1, h2⟩ := hlim; ⟨mc, nsK h1, h2⟩⟩
    have e0 : Env0 P w K mg (hidT s₁.heap H) callerA [] s₁ H := ⟨rfl, hM, fun b o e => B50 e, Nat.le_of_eq (A9h _ _), trivial, fun b hb => absurd (show b ∈ ([] : List Addr) from hb) (by simp), hok, .of_eq hg⟩
    refine codeAny_mono ((F _ hKb (nsK hns)).run callerA [] s₁ H ⟨[.ref a], []⟩ [.ref a] [.ref a] _ _ hr e0 (hbind s₁ (.ref a)) (.cons rfl .nil) (hsp H hO hS)) fun r s' h => ?_
    cases r with
    | error e => exact (hCX H e s' h).elim
    | ok fl =>
      cases fl with
      | next => exact False.elim h
      | brk => exact False.elim h
      | cont => exact False.elim h
      | ret u =>
        obtain ⟨v, H', os, bare, un, hok', r', q⟩ := h
        have q' : v = .bl true := q
        subst q'
        obtain rfl : u = Value.bool true := r'
        refine ⟨rfl, OldK.of_keep fun b o e => ?_, os, bare⟩
        cases q : H b with
        | none => exact un.keep b o e q (by intro z; exact absurd (show b ∈ ([] : List Addr) from z) (by simp)) (by simp)
        | some u =>
          rcases hO b with z | ⟨ob, xs, z⟩
          · rw [q] at z; cases z
          · have z2 := un.frzs b ob _ z
            obtain ⟨e1, _⟩ := hok b _ z
            obtain ⟨e2, _⟩ := hok' b _ z2
            rw [e] at e1; cases e1
            exact e2
  cases hk : K.lookup a with
  | some o =>
    have e := KX a o hk
    rw [ha] at e
    cases e
    refine core (fun _ => none) (fun _ => .inl rfl) (.inr ⟨_, vs.toArray, _, hk, rfl, rfl, rfl, by rw [List.size_toArray, lenV]; exact hl, by simpa using rv⟩) (fun b u z => by have z' : (none : Option HO) = some u := z; cases z') (fun b z => absurd rfl z) fun z => absurd rfl z
  | none =>
    refine core (fun b => if b = a then some (.frz { cls := .type "list", data := .seq vs.toArray } (.lst (ns.map V.int))) else none) (fun b => ?_) (.inl (.inr ⟨{ cls := .type "list", data := .seq vs.toArray }, if_pos rfl⟩)) (fun b u z => ?_) (fun b z => ?_) fun _ => hk
    · by_cases hb : b = a
      · exact .inr ⟨_, _, if_pos hb⟩
      · exact .inl (if_neg hb)
    · by_cases hb : b = a
      · have z' := (if_pos hb).symm.trans z
        cases z'
        subst hb
        exact ⟨ha, by rw [List.length_map]; exact hl, vs, _, rv, ha⟩
      · have z' := (if_neg hb).symm.trans z
        cases z'
    · by_cases hb : b = a
      · exact hb
      · exact absurd (if_neg hb) z
end L2
namespace L2
open PySem PySem.Spec PyProof.Rows
abbrev KOf {K : PySem.W.Frag} {h : Heap} (_ : K.In h) : PySem.W.Frag := K
theorem B4d {l : PySem.W.OpenLaw} {n k : Nat} {q : Program} {loose : List Str} {XP : (Str -> Option Value) -> Heap -> Prop} {YP : World -> Heap -> Prop} {d : DefRec} {K : Params -> PySem.W.Frag} {CX : World -> CXT} {sp : World -> Sp} {x : Str}
    (hn : l.most = some n) (hn2 : n <= sizeLine) (hdf : d.params.defaults = []) (hr : Room k callerA)
    (hY : ∀ (w : World) (h : Heap), YP w h -> (K w.params).In h)
    (F : ∀ (w : World) (mg : Str -> Option Value) (fa : Addr) (h : Heap), (K w.params).In h -> h.Ns mainGlobals mg -> mg d.name = some (.ref fa) ->
      ∃ fd : FuncData, (∀ (s : Shared) (u : Value), BindsTo s fd ⟨[u], []⟩ [(x, u)]) /\
        ∀ base : Heap, (K w.params).In base -> base.Ns mainGlobals mg -> FnOk l.prog w (K w.params) mg base (CX w) k fa fd [x] (sp w))
    (hsp : ∀ (w : World) (H : Hp) (a : Addr) (ns : List Int), ns.length <= n -> Only H -> SqL (K w.params) H a (ns.map V.int) -> sp w [.ref a] H (fun v _ => v = .bl true) fun _ _ _ => False)
    (hCX : ∀ (w : World) (H : Hp) (s : Shared) (e : Value) (s' : Shared), CX w [] H s (fun _ _ _ => False) e s' -> False) :
    PySem.W.WalkO q loose XP YP l.row.toRowW d [] (fun f vs => PySem.call f vs) := by
  refine Att.attach_call hn hdf fun w s₀ s₁ mg mb fa o pm cd doc a vs ns G Y ho hd hcd hmg hobj hints hlen hg => ?_
  have KX := hY w _ Y
  obtain ⟨fd, hb, hF⟩ := F w mg fa _ KX G.T.g hmg
  exact B1a KX G.T.g G.T.b G.T.builtins G.T.nolimit hg hobj hints (Nat.le_trans hlen hn2) hr hF hb (fun H hO hS => hsp w H a ns hlen hO hS) fun H e s' => hCX w H s₁ e s'
end L2
namespace L2
open PySem PySem.Spec PyProof.Rows
abbrev CX0 : CXT := fun _ _ _ _ _ _ => False
abbrev E0 : XK := fun _ _ _ => False
theorem B1 {X : Cx} : A4v CX0 X E0 := fun _ _ _ _ _ _ _ h => h.elim
structure Fun (K : PySem.W.Frag) (x qual : Str) (st : Stmt) (f : Addr) (fd : FuncData) : Prop where
  ex : ∃ (oc : Value) (od : Option Addr) (kV doc pm : Value) (an : Option Addr) (cdv ct : Value) (osl : Array (Option Value)),
    fd = PySem.W.fnOf x qual (A9 st) (A8 st) (A3 st) .none kV doc pm an cdv ct /\ K.lookup f = some ⟨oc, od, .func fd, osl⟩ /\ PySem.W.codeIn K cdv qual = true
  kp : PySem.W.keepIn K (.ref f) = true
section
variable {P : Program} {w : World} {K : PySem.W.Frag} {mg : Str -> Option Value} {base : Heap}
theorem Fun.ok {x qual : Str} {st : Stmt} {f : Addr} {fd : FuncData} {N ps : List Str} {k : Nat} {sp : Sp} (F : Fun K x qual st f fd) (S : FnScope N ps (A3 st)) (len : ∀ vs H Q E, sp vs H Q E -> vs.length = ps.length)
    (hbody : ∀ (cdv : Value) (A : Around) (outer : List Env) (s : Shared) (H : Hp) (vs : List V) (Q : VK) (E : XK), Room k (A.deeper (envOfC qual (A3 st) s.heap.objs.size f cdv)) -> sp vs H Q E ->
      ∃ t, PSs (cxOf CX0 P w K mg base N qual (A3 st) f cdv A outer s H E).nox (A8 st) t /\ t { nx := fun _ H' => Q .non H', rt := Q } (Q7 N vs) H) : FnOk P w K mg base CX0 (k + 1) f fd ps sp := by
  obtain ⟨oc, od, kV, doc, pm, an, cdv, ct, osl, rfl, lk, hcd⟩ := F.ex
  refine C0m lk hcd S len fun A outer s H vs Q E hr hsp => ?_
  obtain ⟨t, h, q⟩ := hbody cdv A outer s H vs Q E hr hsp
  exact ⟨t, h.nox, q⟩
theorem Fun.binds {x qual : Str} {st : Stmt} {f : Addr} {fd : FuncData} {ps : List Str} (F : Fun K x qual st f fd)
    (h : ∀ (kV doc pm : Value) (an : Option Addr) (cdv ct : Value) (us : List Value), us.length = ps.length -> bindArgs (PySem.W.fnOf x qual (A9 st) (A8 st) (A3 st) .none kV doc pm an cdv ct) ⟨us, []⟩ = pure (ps.zip us)) : Binds K fd ps [] := by
  obtain ⟨oc, od, kV, doc, pm, an, cdv, ct, osl, rfl, lk, hcd⟩ := F.ex
  exact .all (h kV doc pm an cdv ct)
theorem C6 {x qual : Str} {st : Stmt} {f : Addr} {oc : Value} {od an : Option Addr} {osl : Array (Option Value)} {kV doc pm cdv ct : Value} (l : K.lookup f = some ⟨oc, od, .func (PySem.W.fnOf x qual (A9 st) (A8 st) (A3 st) .none kV doc pm an cdv ct), osl⟩)
    (c : PySem.W.codeIn K cdv qual = true) (k : PySem.W.keepIn K (.ref f) = true) : Fun K x qual st f (PySem.W.fnOf x qual (A9 st) (A8 st) (A3 st) .none kV doc pm an cdv ct) := ⟨⟨oc, od, kV, doc, pm, an, cdv, ct, osl, rfl, l, c⟩, k⟩
end
theorem S2 {n : Nat} (h : n <= 1000) : n < sizeLine := Nat.lt_of_le_of_lt h (by decide)
section
variable {X : Cx}
theorem pv (i : Nat) {x : Str} {pos : Pos} (hN : X.N[i]? = some x := by rfl) (hv : Vis X.env.scope x := by first | exact Or.inl rfl | exact Or.inr (Or.inl rfl) | exact Or.inr (Or.inr rfl)) (hd : (x == ("__debug__" : Str)) = false := by decide)
    (hcd : (x == ("__classdict__" : Str)) = false := by decide) : PE X (.Name x pos) (tVar i) := B7l hN hv hd hcd
end
theorem iteF {A B : Prop} (h : B) : if false = true then A else B := by
  rw [if_neg Bool.false_ne_true]
  exact h
theorem iteT {A B : Prop} (h : A) : if true = true then A else B := by
  rw [if_pos rfl]
  exact h
theorem ite2 {c A B : Prop} [Decidable c] (h1 : c -> A) (h2 : ¬ c -> B) : if c then A else B := by
  by_cases h : c
  · rw [if_pos h]
    exact h1 h
  · rw [if_neg h]
    exact h2 h
def Same (H H' : Hp) : Prop := ∀ b o, H b = some o -> H' b = some o
theorem Same.refl (H : Hp) : Same H H := fun _ _ h => h
theorem Same.trans {H H1 H2 : Hp} (a : Same H H1) (b : Same H1 H2) : Same H H2 := fun c o h => b c o (a c o h)
theorem Same.seq {K : PySem.W.Frag} {H H' : Hp} {a : Addr} {xs : List V} (e : Same H H') (h : SqL K H a xs) : SqL K H' a xs := by
  rcases h with (h | ⟨o, h⟩) | h
  · exact .inl (.inl (e _ _ h))
  · exact .inl (.inr ⟨o, e _ _ h⟩)
  · exact .inr h
end L2
namespace My
def Sm (k : Nat) (x : Int) : Prop := x.natAbs < 2 ^ k
theorem Sm.mono {k l : Nat} {x : Int} (h : Sm k x) (e : k <= l) : Sm l x := Nat.lt_of_lt_of_le h (Nat.pow_le_pow_right (by decide) e)
theorem Sm.mul {k l : Nat} {x y : Int} (h : Sm k x) (g : Sm l y) : Sm (k + l) (x * y) := by
  unfold Sm at *
  rw [Int.natAbs_mul, Nat.pow_add]
  rcases Nat.eq_zero_or_pos y.natAbs with e | e
  · rw [e, Nat.mul_zero]; exact Nat.mul_pos (Nat.two_pow_pos _) (Nat.two_pow_pos _)
  · exact Nat.lt_of_lt_of_le (Nat.mul_lt_mul_of_pos_right h e) (Nat.mul_le_mul_left _ (Nat.le_of_lt g))
theorem Sm.add {k : Nat} {x y : Int} (h : Sm k x) (g : Sm k y) : Sm (k + 1) (x + y) := by
  unfold Sm at *
  rw [Nat.pow_succ]
  have := Int.natAbs_add_le x y
  omega
theorem Sm.neg {k : Nat} {x : Int} (h : Sm k x) : Sm k (-x) := by
  unfold Sm at *
  rw [Int.natAbs_neg]; exact h
theorem Sm.sub {k : Nat} {x y : Int} (h : Sm k x) (g : Sm k y) : Sm (k + 1) (x - y) := by
  rw [Int.sub_eq_add_neg]; exact h.add g.neg
theorem Sm.le {k : Nat} {x y : Int} (h : Sm k x) (g : y.natAbs <= x.natAbs) : Sm k y := Nat.lt_of_le_of_lt g h
theorem Sm.log {k : Nat} {x : Int} (h : Sm k x) (hk : 0 < k) : x.natAbs.log2 < k := by
  by_cases h0 : x.natAbs = 0
  · rw [h0]; exact hk
  · exact (Nat.log2_lt h0).mpr h
theorem A9k (a b : Int) : Int.gcd b (a % b) = Int.gcd a b := by
  have h : a % b = a + b * (-(a / b)) := by
    have := Int.emod_def a b
    rw [this, Int.mul_neg]; omega
  rw [h, Int.gcd_add_mul_left_right, Int.gcd_comm]
theorem B6c (a b : Int) : Int.gcd (if a < 0 then -a else a) (if b < 0 then -b else b) = Int.gcd a b := by
  unfold Int.gcd
  congr 1
  · split <;> omega
  · split <;> omega
theorem A4g (a : Int) (h : 0 <= a) : ((Int.gcd a 0 : Nat) : Int) = a := by
  rw [Int.gcd_zero_right]; omega
def sh (t b : Int) : Int := if b < 0 then -((Int.gcd t b : Nat) : Int) else ((Int.gcd t b : Nat) : Int)
theorem B62 {t b : Int} (h : b ≠ 0) : sh t b ≠ 0 := by
  have : Int.gcd t b ≠ 0 := fun e => h (Int.gcd_eq_zero_iff.mp e).2
  unfold sh; split <;> omega
theorem B63 (t b : Int) : (sh t b).natAbs = Int.gcd t b := by
  unfold sh; split <;> omega
theorem A25 (t b : Int) : sh t b ∣ t := by
  unfold sh; split
  · exact Int.neg_dvd.mpr (Int.gcd_dvd_left ..)
  · exact Int.gcd_dvd_left ..
theorem B0n (t b : Int) : sh t b ∣ b := by
  unfold sh; split
  · exact Int.neg_dvd.mpr (Int.gcd_dvd_right ..)
  · exact Int.gcd_dvd_right ..
theorem A8d {t b : Int} (h : b ≠ 0) : t.fdiv (sh t b) = (Rat.divInt t b).num := by
  rw [Int.fdiv_eq_ediv_of_dvd (A25 t b), Rat.num_divInt, Int.gcd_comm b t]
  unfold sh
  split
  · rename_i h1
    rw [Int.sign_eq_neg_one_of_neg h1, Int.ediv_neg, Int.neg_one_mul, Int.neg_ediv_of_dvd (Int.gcd_dvd_left ..)]
  · rename_i h1
    rw [Int.sign_eq_one_of_pos (by omega), Int.one_mul]
theorem B55 {t b : Int} (h : b ≠ 0) : b.fdiv (sh t b) = ((Rat.divInt t b).den : Int) := by
  rw [Int.fdiv_eq_ediv_of_dvd (B0n t b), Rat.den_divInt, if_neg h, Int.gcd_comm b t]
  unfold sh
  split
  · rename_i h1
    rw [Int.ediv_neg, Int.natCast_ediv]
    have e : (b.natAbs : Int) = -b := by omega
    rw [e, Int.neg_ediv_of_dvd (Int.gcd_dvd_right ..)]
  · rename_i h1
    rw [Int.natCast_ediv]
    have e : (b.natAbs : Int) = b := by omega
    rw [e]
theorem B8w (t b : Int) : (Rat.divInt t b).num.natAbs <= t.natAbs := by
  by_cases h : b = 0
  · subst h; simp [Rat.divInt_zero]
  · rw [<- A8d h, Int.fdiv_eq_ediv_of_dvd (A25 t b)]
    have := Int.natAbs_ediv_le_natAbs t (sh t b)
    exact this
theorem B9m {t b : Int} (h : b ≠ 0) : (Rat.divInt t b).den <= b.natAbs := by
  rw [Rat.den_divInt, if_neg h]
  exact Nat.div_le_self _ _
def SmQ (k : Nat) (q : Rat) : Prop := Sm k q.num /\ Sm k (q.den : Int)
theorem den0 (q : Rat) : (q.den : Int) ≠ 0 := by have := q.den_nz; omega
theorem denp (q : Rat) : 0 < (q.den : Int) := by have := q.den_nz; omega
theorem den2 (p q : Rat) : (p.den : Int) * (q.den : Int) ≠ 0 := Int.mul_ne_zero (den0 p) (den0 q)
theorem B7c (p q : Rat) : Rat.divInt (p.num * q.den + q.num * p.den) ((p.den : Int) * q.den) = p + q := by
  rw [<- Rat.divInt_add_divInt _ _ (den0 p) (den0 q), Rat.num_divInt_den, Rat.num_divInt_den]
theorem B69 (p q : Rat) : Rat.divInt (p.num * q.den - q.num * p.den) ((p.den : Int) * q.den) = p - q := by
  rw [<- Rat.divInt_sub_divInt _ _ (den0 p) (den0 q), Rat.num_divInt_den, Rat.num_divInt_den]
theorem B7a (p q : Rat) : Rat.divInt (p.num * q.num) ((p.den : Int) * q.den) = p * q := by
  rw [<- Rat.divInt_mul_divInt, Rat.num_divInt_den, Rat.num_divInt_den]
theorem B7b (p q : Rat) : Rat.divInt (p.num * q.den) ((p.den : Int) * q.num) = p / q := by
  rw [Rat.div_def, Rat.inv_def, <- Rat.divInt_mul_divInt, Rat.num_divInt_den]
def W : List Rat -> Nat
  | [] => 1
  | q :: r => q.den * W r
def S : List Rat -> Rat
  | [] => 0
  | q :: r => q + S r
end My
namespace My
def SmR (n d : Nat) (q : Rat) : Prop := Sm n q.num /\ Sm d (q.den : Int)
theorem SmR.mono {n d n' d' : Nat} {q : Rat} (h : SmR n d q) (h1 : n <= n') (h2 : d <= d') : SmR n' d' q := ⟨h.1.mono h1, h.2.mono h2⟩
theorem SmR.q {n d : Nat} {q : Rat} (h : SmR n d q) (h1 : n <= 3900) (h2 : d <= 3900) : SmQ 3900 q := ⟨h.1.mono h1, h.2.mono h2⟩
theorem SmR.low {n d : Nat} {t b : Int} (h : Sm n t) (g : Sm d b) (hb : b ≠ 0) : SmR n d (Rat.divInt t b) :=
  ⟨h.le (B8w t b), g.le (by simpa using B9m hb)⟩
theorem SmR.add {a b c e : Nat} {p q : Rat} (h : SmR a b p) (g : SmR c e q) : SmR (max (a + e) (c + b) + 1) (b + e) (p + q) := by
  rw [<- B7c]
  exact SmR.low (((h.1.mul g.2).mono (Nat.le_max_left ..)).add ((g.1.mul h.2).mono (Nat.le_max_right ..))) (h.2.mul g.2) (den2 p q)
theorem SmR.sub {a b c e : Nat} {p q : Rat} (h : SmR a b p) (g : SmR c e q) : SmR (max (a + e) (c + b) + 1) (b + e) (p - q) := by
  rw [<- B69]
  exact SmR.low (((h.1.mul g.2).mono (Nat.le_max_left ..)).sub ((g.1.mul h.2).mono (Nat.le_max_right ..))) (h.2.mul g.2) (den2 p q)
theorem SmR.mul {a b c e : Nat} {p q : Rat} (h : SmR a b p) (g : SmR c e q) : SmR (a + c) (b + e) (p * q) := by
  rw [<- B7a]
  exact SmR.low (h.1.mul g.1) (h.2.mul g.2) (den2 p q)
theorem A8c {q : Rat} (h : q ≠ 0) : q.num ≠ 0 := fun e => h (Rat.num_eq_zero.mp e)
theorem B53 {q : Rat} (h : 0 < q) : 0 < q.num := by
  have := (Rat.lt_iff 0 q).mp h
  simpa using this
theorem SmR.div {a b c e : Nat} {p q : Rat} (h : SmR a b p) (g : SmR c e q) (hq : q ≠ 0) : SmR (a + e) (b + c) (p / q) := by
  rw [<- B7b]
  exact SmR.low (h.1.mul g.2) (h.2.mul g.1) (Int.mul_ne_zero (den0 p) (A8c hq))
theorem A3b {t b : Int} (h : 0 <= t) (hb : 0 < b) : 0 <= Rat.divInt t b := (Rat.divInt_nonneg_iff_of_pos_right hb).mpr h
theorem B96 {t b : Int} (h : 0 < t) (hb : 0 < b) : 0 < Rat.divInt t b := by
  refine Rat.lt_of_le_of_ne (A3b (by omega) hb) fun e => ?_
  have h1 : Rat.divInt 0 b = Rat.divInt t b := by rw [Rat.zero_divInt]; exact e
  have := (Rat.divInt_eq_divInt_iff (by omega) (by omega)).mp h1
  have h2 : t * b = 0 := by simpa using this.symm
  rcases Int.mul_eq_zero.mp h2 with z | z <;> omega
theorem A31 (p q : Rat) : decide (p.num * q.den < q.num * p.den) = decide (p < q) := by
  rw [Bool.eq_iff_iff, decide_eq_true_iff, decide_eq_true_iff, Rat.lt_iff]
end My
namespace L2
open PySem PySem.Spec PyProof.Rows
section
variable {X : Cx}
theorem Y2 {x : Int} (h : My.Sm 8000 x) : Builtin.Int.intBits x <= 2 ^ 20 := by
  have e : (2 : Nat) ^ 20 = 1048576 := by decide
  have h2 := h.log (by decide)
  unfold Builtin.Int.intBits
  split <;> omega
def B6m (i j : Int) : Prop := My.Sm 8000 i /\ My.Sm 8000 j
def C0p (_ j : Int) : Prop := j ≠ 0 /\ My.Sm 8000 j
theorem C8 : OpR X (binaryOp .Mult) (rI B6m fun i j => .int (i * j)) := opI fun _ _ _ _ _ _ _ hc q => mul_int q (.of_bits (Y2 hc.1) (Y2 hc.2))
theorem F2 : OpR X (binaryOp .FloorDiv) (rI C0p fun i j => .int (i.fdiv j)) := opI fun _ _ _ _ _ _ _ hc q =>
  floordiv_int hc.1 q (.inl (PyProof.noPylong_of_log2 (Nat.lt_of_lt_of_le (hc.2.log (by decide)) (by decide))))
def kitB (T c : String) : Option Bool := if (Value.type T == Value.type c) = true then some true else if PySem.W.kitMeta c = true then (fastBuiltinMro T).map (·.contains (Value.type c)) else none
theorem B1b (K : PySem.W.Frag) {T c : String} {b : Bool} (h : kitB T c = some b) : PySem.W.kitOne K (.type T) (.type c) = some b := h
def TyV (K : PySem.W.Frag) (H : Hp) (x : V) (T : String) : Prop := match x with
  | .non => T = "NoneType"
  | .bl _ => T = "bool"
  | .int _ => T = "int"
  | .str _ => T = "str"
  | .ref a => (T = "list" /\ ∃ xs, SqL K H a xs) \/ (T = "tuple" /\ ∃ xs, SqT K H a xs) \/ (T = "dict" /\ ∃ kvs, H a = some (.dK kvs))
  | _ => False
theorem A2q : CallR X (.builtin "isinstance") (fun xs H Q => ∃ x c T b, xs = [x, .ty c] /\ TyV X.K H x T /\ kitB T c = some b /\ Q (.bl b) H) := by
  intro pins s σ H xs us Q I r h
  obtain ⟨x, c, T, b, rfl, ty, e, q⟩ := h
  obtain ⟨u, v, rfl, ru, rv⟩ := Vals.two r
  cases (show v = Value.type c from rv)
  have fin : ∀ tk, EP X pins σ Q (.bool b) { s with toks := tk } := fun tk => ⟨.bl b, H, I.tok tk, rfl, q⟩
  have e' := B1b X.K e
  cases x with
  | non => cases (show T = _ from ty); cases (show u = Value.none from ru); exact PySem.W.kia_one PySem.W.kitx_none I.kIn True.intro e' (fun z => nomatch z) fin
  | bl y => cases (show T = _ from ty); cases (show u = Value.bool y from ru); exact PySem.W.kia_one PySem.W.kitx_bool I.kIn True.intro e' (fun z => nomatch z) fin
  | int i => cases (show T = _ from ty); obtain ⟨t, q'⟩ := (show ∃ t, u = Value.int i t from ru); cases q'; exact PySem.W.kia_one PySem.W.kitx_int I.kIn True.intro e' (fun z => nomatch z) fin
  | str y => cases (show T = _ from ty); obtain ⟨t, q'⟩ := (show ∃ t, u = Value.str y t from ru); cases q'; exact PySem.W.kia_one PySem.W.kitx_str I.kIn True.intro e' (fun z => nomatch z) fin
  | ref a =>
    cases (show u = Value.ref a from ru)
    rcases (show _ \/ _ \/ _ from ty) with ⟨rfl, xs, h⟩ | ⟨rfl, xs, h⟩ | ⟨rfl, kvs, h⟩
    · obtain ⟨its, _, ⟨o, n, h1, h2, _⟩, _⟩ := I.list h
      exact PySem.W.kia_one PySem.W.kitx_list I.kIn ⟨o, h1, h2⟩ e' (fun z => nomatch z) fin
    · obtain ⟨its, _, ⟨o, h1, h2, _⟩, _⟩ := I.tuple h
      exact PySem.W.kia_one PySem.W.kitx_tuple I.kIn ⟨o, h1, h2⟩ e' (fun z => nomatch z) fin
    · obtain ⟨_, _, vs, _, p⟩ := (show ObjOk X.prog X.w H s.heap a (.dK kvs) from I.hok a _ h)
      obtain ⟨o, es, ep, h1, h2, _⟩ := p
      exact PySem.W.kia_one PySem.W.kitx_dict I.kIn ⟨o, h1, h2.1⟩ e' (fun z => nomatch z) fin
  | byt _ => exact (show False from ty).elim
  | flt _ => exact (show False from ty).elim
  | ty _ => exact (show False from ty).elim
end
mutual
inductive Den (K : PySem.W.Frag) (H : Hp) : V -> PyData -> Prop
  | non : Den K H .non .none
  | bl (b : Bool) : Den K H (.bl b) (.bool b)
  | int (i : Int) : Den K H (.int i) (.int i)
  | str (x : Str) : Den K H (.str x) (.str x)
  | lst {a : Addr} {xs : List V} {ds : List PyData} : SqL K H a xs -> DenAll K H xs ds -> Den K H (.ref a) (.list ds)
  | tup {a : Addr} {xs : List V} {ds : List PyData} : SqT K H a xs -> DenAll K H xs ds -> Den K H (.ref a) (.tuple ds)
  | dct {a : Addr} {kvs : List (Key × V)} : H a = some (.dK kvs) -> Den K H (.ref a) (.dict (kvs.map fun _ => (.none, .none)))
inductive DenAll (K : PySem.W.Frag) (H : Hp) : List V -> List PyData -> Prop
  | nil : DenAll K H [] []
  | cons {x : V} {xs : List V} {d : PyData} {ds : List PyData} : Den K H x d -> DenAll K H xs ds -> DenAll K H (x :: xs) (d :: ds)
end
section
variable {X : Cx} {pins : List (Addr × Obj)} {σ : St} {H : Hp} {s : Shared}
mutual
theorem Den.reads (I : Inv X pins σ H s) : ∀ {x : V} {d : PyData} {u : Value}, Den X.K H x d -> RelV x u -> d.canLay0 = true -> ∃ as, Reads s.heap u d as
  | _, _, u, .non, r, _ => by cases (show u = Value.none from r); exact ⟨_, .none⟩
  | _, _, u, .bl b, r, _ => by cases (show u = Value.bool b from r); exact ⟨_, .bool b⟩
  | _, _, u, .int i, r, _ => by obtain ⟨t, q⟩ := (show ∃ t, u = Value.int i t from r); cases q; exact ⟨_, .int i t⟩
  | _, _, u, .str x, r, _ => by obtain ⟨t, q⟩ := (show ∃ t, u = Value.str x t from r); cases q; exact ⟨_, .str x t⟩
  | _, _, u, .lst (a := a) h ds, r, cl => by
    cases (show u = Value.ref a from r)
    obtain ⟨its, rv, ⟨o, n, h1, h2, _, h3⟩, _⟩ := I.list h
    obtain ⟨as, q⟩ := DenAll.reads I ds rv cl
    exact ⟨_, .list h1 h2 h3 (by simpa using q)⟩
  | _, _, u, .tup (a := a) h ds, r, cl => by
    cases (show u = Value.ref a from r)
    obtain ⟨its, rv, ⟨o, h1, h2, n, h3⟩, _⟩ := I.tuple h
    obtain ⟨as, q⟩ := DenAll.reads I ds rv cl
    exact ⟨_, .tuple h1 h2 h3 (by simpa using q)⟩
  | _, _, _, .dct _, _, cl => absurd (show false = true from cl) Bool.false_ne_true
theorem DenAll.reads (I : Inv X pins σ H s) : ∀ {xs : List V} {ds : List PyData} {us : List Value}, DenAll X.K H xs ds -> Vals xs us -> PyData.canLayAll0 ds = true -> ∃ as, ReadsAll s.heap us ds as
  | _, _, _, .nil, .nil, _ => ⟨_, .nil⟩
  | _, d :: ds, _, .cons h t, .cons r rs, cl => by
    have cl' : (d.canLay0 && PyData.canLayAll0 ds) = true := cl
    rw [Bool.and_eq_true] at cl'
    obtain ⟨as, q⟩ := Den.reads I h r cl'.1
    obtain ⟨bs, q'⟩ := DenAll.reads I t rs cl'.2
    exact ⟨_, .cons q q'⟩
end
end
section
variable {X : Cx}
def rEqD (K : PySem.W.Frag) : R2 := fun x y H Q => ∃ dx dy, Den K H x dx /\ Den K H y dy /\ dx.canLay0 = true /\ dy.canLay0 = true /\ dx.depth <= 60 /\ Q (.bl (PyData.eqv dx dy)) H
def rNeD (K : PySem.W.Frag) : R2 := fun x y H Q => ∃ dx dy, Den K H x dx /\ Den K H y dy /\ dx.canLay0 = true /\ dy.canLay0 = true /\ dx.depth <= 60 /\ Q (.bl (!PyData.eqv dx dy)) H
theorem B8o (hu : X.A.units + 64 < cLine) : OpR X (compareOp .Eq) (rEqD X.K) := by
  intro pins s σ H x y v u Q I rx ry h
  obtain ⟨dx, dy, h1, h2, c1, c2, hd, q⟩ := h
  obtain ⟨as, r1⟩ := h1.reads I rx c1
  obtain ⟨bs, r2⟩ := h2.reads I ry c2
  exact PySem.SeqAt.compareEq_reads r1 r2 c1 c2 (by omega) ⟨.bl _, H, I, rfl, q⟩
theorem B8l (hu : X.A.units + 64 < cLine) : OpR X (compareOp .NotEq) (rNeD X.K) := by
  intro pins s σ H x y v u Q I rx ry h
  obtain ⟨dx, dy, h1, h2, c1, c2, hd, q⟩ := h
  obtain ⟨as, r1⟩ := h1.reads I rx c1
  obtain ⟨bs, r2⟩ := h2.reads I ry c2
  exact PySem.SeqAt.compareNe_reads r1 r2 c1 c2 (by omega) ⟨.bl _, H, I, rfl, q⟩
end
def Kp (p : Addr) (H H' : Hp) : Prop := ∀ b o, b ≠ p -> H b = some o -> H' b = some o
theorem Kp.upd {p : Addr} {H : Hp} {o : HO} : Kp p H (upd H p o) := fun b u n e => by rw [C3 n]; exact e
theorem Kp.trans {p : Addr} {H H1 H2 : Hp} (a : Kp p H H1) (b : Kp p H1 H2) : Kp p H H2 := fun c o n e => b c o n (a c o n e)
theorem Kp.refl {p : Addr} {H : Hp} : Kp p H H := fun _ _ _ e => e
theorem Same.kp {p : Addr} {H H' : Hp} (a : Same H H') : Kp p H H' := fun b o _ e => a b o e
theorem Same.upd {p : Addr} {H : Hp} {o : HO} (h : H p = none) : Same H (upd H p o) := fun b u e => by rw [C3 (D0 e h)]; exact e
theorem SqT.same {K : PySem.W.Frag} {H H' : Hp} {a : Addr} {xs : List V} (e : Same H H') (h : SqT K H a xs) : SqT K H' a xs := by
  rcases h with (h | ⟨o, h⟩) | h
  · exact .inl (.inl (e _ _ h))
  · exact .inl (.inr ⟨o, e _ _ h⟩)
  · exact .inr h
theorem at0 {α : Type} {x : α} {xs : List α} : atI (x :: xs) 0 = some x := M8 (j := 0) rfl
theorem at1 {α : Type} {x y : α} {xs : List α} : atI (x :: y :: xs) 1 = some y := M8 (j := 1) rfl
theorem at2 {α : Type} {x y z : α} {xs : List α} : atI (x :: y :: z :: xs) 2 = some z := M8 (j := 2) rfl
theorem at3 {α : Type} {x y z w : α} {xs : List α} : atI (x :: y :: z :: w :: xs) 3 = some w := M8 (j := 3) rfl
end L2
namespace L2
open PySem PySem.Spec PyProof.Rows
theorem A1g {prog : Program} {w : World} {A : Around} {R : Result -> Shared -> Prop} {s : Shared} {elt target iter : Expr} {ifs : List Expr} {scope : Scope} {pos : Pos} {it acc : Value} {env : Env} (I : Nat -> Shared -> Prop)
    (turn : ∀ n s, I n s -> wpAny (model prog w) A (pyNext it) (fun r s₁ => match r with
      | none => R (.ok .next) s₁
      | some v => wpAny (model prog w) A (letOwnedTupleGo target it v) (fun _ s₁' => wpAny (model prog w) A (assign target env v) (fun _ s₂ =>
          wpAny (model prog w) A (forIn ifs true fun c r => if r = true then do let ok <- isTrue c env (eval c env); pure (ForInStep.yield ok) else pure (ForInStep.yield r)) (fun ok s₃ =>
            if ok = true then wpAny (model prog w) A (eval elt env) (fun x s₄ =>
              wpAny (model prog w) A (call (.builtin "list.append") [acc, x]) (fun _ s₅ => ∃ m, m < n /\ I m s₅) (fun _ _ => False) s₄) (fun _ _ => False) s₃
            else ∃ m, m < n /\ I m s₃) (fun _ _ => False) s₂) (fun _ _ => False) s₁') (fun _ _ => False) s₁) (fun _ _ => False) s)
    (n : Nat) (h : I n s) : codeAny (model prog w) A (.compLoop (.ListComp elt [⟨target, iter, ifs, 0⟩] scope pos) 0 it acc env) R s := by
  refine codeAny_loop rfl I (fun n s hI => ?_) n h
  show wpAny _ A ((compTurn (.ListComp elt [⟨target, iter, ifs, 0⟩] scope pos) 0 it acc env).onRaise (fun x => do noteFrame x env; theTreesLotGoes x)) _ _ s
  refine wpAny_noted ?_
  rw [compTurn_list]
  refine wpAny_bind (wpAny_standAt (wpAny_bind (wpAny_mono (turn n s hI) (fun r s₁ h₁ => ?_) fun _ _ h' => h'.elim)))
  cases r with
  | none => exact wpAny_pure h₁
  | some v =>
    refine wpAny_bind (wpAny_mono h₁ (fun _ s₁' h₁' => ?_) fun _ _ h' => h'.elim)
    refine wpAny_bind (wpAny_mono h₁' (fun _ s₂ h₂ => wpAny_bind (wpAny_mono h₂ (fun ok s₃ h₃ => ?_) fun _ _ h' => h'.elim)) fun _ _ h' => h'.elim)
    cases ok with
    | false => exact wpAny_pure ⟨rfl, h₃⟩
    | true =>
      exact wpAny_bind (wpAny_bind (wpAny_mono h₃ (fun x s₄ h₄ => wpAny_bind (wpAny_mono h₄ (fun _ s₅ h₅ => wpAny_pure (wpAny_pure ⟨rfl, h₅⟩)) fun _ _ h' => h'.elim)) fun _ _ h' => h'.elim))
def PTs (X : Cx) (ifs : List Expr) (t : TT) : Prop :=
  ∀ (pins : List (Addr × Obj)) (s : Shared) (σ : St) (H : Hp) (Q : Bool -> Hp -> Prop), Inv X pins σ H s -> t σ H Q ->
    wpAny (model X.prog X.w) X.A (forIn ifs true fun c r => if r = true then do let ok <- isTrue c X.env (eval c X.env); pure (ForInStep.yield ok) else pure (ForInStep.yield r)) (TP X pins σ Q) X.xe s
def tYes : TT := fun _ H Q => Q true H
theorem B4z {X : Cx} : PTs X [] tYes := fun pins s σ H Q I h => wpAny_tests_nil ⟨H, I, h⟩
theorem B4y {X : Cx} {c : Expr} {t : TT} (h : PT X c t) : PTs X [c] t := fun pins s σ H Q I hw => wpAny_tests_one (h pins s σ H Q I hw)
def Cx.block (X : Cx) (scope : Scope) (cl : List (Str × Addr)) (N' : List Str) (s2 : Shared) (H2 : Hp) (fp : List Addr) : Cx where
  prog := X.prog
  w := X.w
  K := X.K
  mg := X.mg
  base := X.base
  A := X.A
  N := N'
  s₀ := s2
  H₀ := H2
  env := compEnvC scope cl s2.heap.objs.size X.env
  outer := X.stack
  stack := X.stack
  ex := fp
  fn := fun _ => false
  calm := X.calm
  pn := []
  xe := fun _ _ => False
structure CompSc (X : Cx) (scope : Scope) (cl : List (Str × Addr)) (N' : List Str) (cap : List (Option Nat)) : Prop where
  clos : closureFor scope X.env = pure cl
  sub : ∀ x c, cl.lookup x = some c -> X.env.cells.lookup x = some c
  has : ∀ x, ((relabel scope X.env).names.lookup x = some .cell \/ (relabel scope X.env).names.lookup x = some .free) -> ∃ c, cl.lookup x = some c
  kind : scope.kind = .function
  cell : ∀ y ∈ scope.names, y.2 ≠ .cell
  names : ∀ y ∈ scope.names, y.2 = .local -> scope.names.lookup y.1 = some .local
  nd : N'.Nodup
  len : cap.length = N'.length
  noloc : ∀ x c, cl.lookup x = some c -> X.env.kindOf x ≠ some .local
  capt : ∀ (i : Nat) (x : Str) (j : Nat), N'[i]? = some x -> cap[i]? = some (some j) -> X.N[j]? = some x /\ ((relabel scope X.env).names.lookup x = some .cell \/ (relabel scope X.env).names.lookup x = some .free) /\ Vis X.env.scope x /\ ∃ c, cl.lookup x = some c
def capσ (cap : List (Option Nat)) (σ : St) : St := cap.map fun o => o.bind fun j => (σ[j]?).join
section
variable {X : Cx} {pins : List (Addr × Obj)} {σ : St} {H : Hp} {s : Shared} {scope : Scope} {cl : List (Str × Addr)} {N' : List Str} {cap : List (Option Nat)} {fp : List Addr}
theorem B1m (I : Inv X pins σ H s) (C : CompSc X scope cl N' cap) (hf : ∀ b ∈ fp, FpOk X pins H b) (ho : ∀ b ∈ fp, ∃ o, s.heap.get? b = some o) : (X.block scope cl N' s H fp).Ok where
  mod := I.ok.mod
  kind := C.kind
  glob := I.ok.glob
  blt := I.ok.blt
  above := Nat.le_refl _
  inj := fun x y c h1 h2 => I.ok.inj x y c (C.sub x c h1) (C.sub y c h2)
  has := fun x h => C.has x h
  cab := fun x c h _ => absurd (show false = true from h) Bool.false_ne_true
  hd := I.ok.hd
  frames := I.ok.frames
  stk := .inl rfl
  exf := fun b hb => ⟨fun z => by
    obtain ⟨o, e⟩ := ho b hb
    exact absurd (Heap.lt_size e) (by rw [z]; exact Nat.lt_irrefl _), fun x c h => (hf b hb).2.2.2.2.1 x c (C.sub x c h)⟩
  bs := I.bs
  bsz := Nat.le_trans I.ok.bsz I.sz
  noex := fun b o e hb => by
    rcases (hf b hb).2.2.2.1 with z | z
    · exact I.ok.noex b o e z
    · exact absurd (Nat.lt_of_lt_of_le (Heap.lt_size e) (Nat.le_trans I.ok.bsz z)) (Nat.lt_irrefl _)
  exfs := fun b hb z => by
    rcases List.mem_cons.mp (I.stkSub b z) with e | e
    · exact (hf b hb).2.1 e
    · exact (hf b hb).2.2.1 e
  funs := I.stack
  frf := I.stkFree
theorem A98 {h1 : Heap} {tk : Nat} {m : Str -> Option Value} (I : Inv X pins σ H s) (C : CompSc X scope cl N' cap) (hf : ∀ b ∈ fp, FpOk X pins H b) (ho : ∀ b ∈ fp, ∃ o, s.heap.get? b = some o)
    (hn : h1.Ns s.heap.objs.size m) (hk : ∀ b o, s.heap.get? b = some o -> h1.get? b = some o) : Inv (X.block scope cl N' s H fp) [] (capσ cap σ) H { s with heap := h1, toks := tk } where
  ok := B1m I C hf ho
  os := rfl
  bare := I.bare
  base := Un.kept hk
  loc := ⟨m, hn, fun i x v h1' h2 h3 => by
    unfold capσ at h2
    rw [List.getElem?_map] at h2
    cases e : cap[i]? with
    | none => rw [e] at h2; cases h2
    | some o =>
      rw [e] at h2
      cases o with
      | none => cases h2
      | some j =>
        obtain ⟨q1, q2, q3, c, q4⟩ := C.capt i x j h1' e
        have hv : (σ[j]?).join = some v := Option.some.inj h2
        have hσ : σ[j]? = some (some v) := by
          cases z : σ[j]? with
          | none => rw [z] at hv; cases hv
          | some y => rw [z] at hv; cases (show y = some v from hv); rfl
        obtain ⟨m0, hn0, hl0⟩ := I.loc
        obtain ⟨u, r, l⟩ := hl0 j x v q1 hσ q3
        refine ⟨u, r, .inr ⟨q2, c, q4, ?_⟩⟩
        rcases l with ⟨l1, _⟩ | ⟨_, c', l2, l3⟩
        · exact absurd l1 (C.noloc x c q4)
        · have := C.sub x c q4
          rw [l2] at this
          cases this
          exact l3.keeps hk⟩
  cell := fun x c h => by
    obtain ⟨v, z⟩ := I.cell x c (C.sub x c h)
    exact ⟨v, z.keeps hk⟩
  free := I.hok.fresh (Nat.le_refl _)
  freeC := fun x c h => I.freeC x c (C.sub x c h)
  pin := fun p hp => absurd (show p ∈ ([] : List (Addr × Obj)) from hp) (by simp)
  hok := I.hok.kept hk
  len := by unfold capσ; rw [List.length_map]; exact C.len
theorem A97 {H' : Hp} {s' : Shared} {h' : Heap} {σ' : St} {pl : List (Addr × Obj)} (I : Inv X pins σ H s) (J : Inv (X.block scope cl N' s H fp) pl σ' H' s') (hf : ∀ b ∈ fp, FpOk X pins H b) (hs : Heap.SameBut s.heap.objs.size s'.heap h') :
    Inv X pins σ H' { s' with heap := h' } := by
  have ne : ∀ b o, s.heap.get? b = some o -> b ≠ s.heap.objs.size := fun b o e => Nat.ne_of_lt (Heap.lt_size e)
  have B : Un (frs X.stack) fp H H' s.heap s'.heap := J.base
  refine I.call' (s' := { s' with heap := h' }) (ch := fp) J.os ⟨fun b o e n h1 h2 => ?_, fun b o e n h1 h2 => ?_, B.free, fun b o e h2 => ?_, B.tups, B.frzs, B.tbls⟩ ?_ J.bare (fun b hb => ?_)
  · show h'.get? b = some o
    rw [hs.2 b (ne b o e)]; exact B.keep b o e n h1 h2
  · show ∃ sl, h'.get? b = _
    rw [hs.2 b (ne b o e)]; exact B.slot b o e n h1 h2
  · show ∃ o', h'.get? b = _
    rw [hs.2 b (ne b o e)]; exact B.there b o e h2
  · intro b u e
    have hfree : H' s.heap.objs.size = none := J.free
    have nC : ∀ c v, H' c = some v -> c ≠ s.heap.objs.size := fun c v q z => by rw [z, hfree] at q; cases q
    refine (J.hok b u e).stay (fun c v hc q => ?_) (fun _ q => q) fun _ _ q => q
    show h'.get? c = some v
    have : c ≠ s.heap.objs.size := by
      rcases hc with z | z
      · rw [z]; exact nC b u e
      · exact nC c _ z
    rw [hs.2 c this]; exact q
  · obtain ⟨f0, f1, f2, f3, f4, f5⟩ := hf b hb
    exact ⟨f3, f1, f4, f5⟩
end
def A4n (J : It) (g : TG) (tt : TT) (te : TE) (D : Addr) (Fin : Hp -> Prop) (σ0 : St) (H1 : Hp) : Prop :=
  ∃ W : Nat -> Nat -> St -> Hp -> List V -> Prop, (∃ m, W 0 m σ0 (upd H1 D (.lst [])) []) /\ ∀ i m σ' H' ys, W i m σ' H' ys -> H' D = some (.lst ys) /\ ys.length < sizeLine /\
    ((J.stop i H' /\ Fin H') \/ (J.go i H' /\ ∀ x H2, J.yld i H' x H2 -> g x σ' H2 fun σ2 H3 => tt σ2 H3 fun b H4 => if b = true then
      te σ2 H4 fun y H5 => ∃ zs, H5 D = some (.lst zs) /\ zs.length < sizeLine /\ ∃ m', m' < m /\ W (i + 1) m' σ2 (upd H5 D (.lst (zs ++ [y]))) (zs ++ [y])
      else ∃ m', m' < m /\ W (i + 1) m' σ2 H4 ys))
def B4j (wi : TI) (g : TG) (tt : TT) (te : TE) (cap : List (Option Nat)) : TE := fun σ H Q => wi σ H fun J H1 => ∀ D, H1 D = none -> A4n J g tt te D (fun H' => Q (.ref D) H') (capσ cap σ) H1
section
variable {X : Cx} {scope : Scope} {cl : List (Str × Addr)} {N' : List Str} {cap : List (Option Nat)} {elt tg iter : Expr} {ifs : List Expr} {wi : TI} {g : TG} {tt : TT} {te : TE} {pos : Pos}
theorem A1o {pins : List (Addr × Obj)} {σ : St} {H2 : Hp} {s2 : Shared} {it : Addr} {fp : List Addr} {tn : Nat -> Heap -> Prop} {J : It} {E : Value -> Shared -> Prop} {RR : Value -> Addr -> Result -> Shared -> Prop} {Fin : Addr -> Hp -> Prop}
    (hc : X.calm = true) (C : CompSc X scope cl N' cap) (I2 : Inv X pins σ H2 s2) (T : Turn X.prog X.w X.K tg J fp it tn) (st2 : tn 0 s2.heap) (f2 : ∀ b ∈ fp, FpOk X pins H2 b)
    (hg : ∀ s3 H3 fp, PG (X.block scope cl N' s3 H3 fp) tg g) (ht : ∀ s3 H3 fp, PTs (X.block scope cl N' s3 H3 fp) ifs tt) (he : ∀ s3 H3 fp, PE (X.block scope cl N' s3 H3 fp) elt te)
    (go : ∀ D, H2 D = none -> A4n J g tt te D (Fin D) (capσ cap σ) H2)
    (out : ∀ (D C : Addr) (s' : Shared) (m : Str -> Option Value) (H' : Hp), s'.heap.Ns C m -> C ≠ X.env.locals -> H' C = none -> X.s₀.heap.objs.size <= C -> (∀ x c, X.env.cells.lookup x = some c -> c ≠ C) -> (∀ p ∈ X.pn ++ pins, p.1 ≠ C) -> Fin D H' -> Inv X pins σ H' s' -> RR (.ref D) C (.ok .next) s') :
    wpAny (model X.prog X.w) X.A (newList []) (fun acc s₃ => wpAny (model X.prog X.w) X.A (newFunctionEnv scope X.env.globals cl [] X.env.qual none .none (some X.env)) (fun cenv s₄ =>
      codeAny (model X.prog X.w) X.A (.compStart (.ListComp elt [⟨tg, iter, ifs, 0⟩] scope pos) 0 (.ref it) acc { cenv with scope := relabel scope X.env }) (RR acc cenv.locals) s₄) E s₃) E s2 := by
  refine wpAny_newObj_type (wpAny_newFunctionEnv C.cell (by intro y hy; simp at hy) (fun h₁ hns₁ hsb₁ => ?_) C.kind)
  have hD : H2 s2.heap.objs.size = none := I2.hok.fresh (Nat.le_refl _)
  obtain ⟨W, ⟨m0, w0⟩, turn⟩ := go _ hD
  have I3 : Inv X pins σ (upd H2 s2.heap.objs.size (.lst [])) { s2 with heap := s2.heap.push { cls := .type "list", dict := none, data := .seq ([] : List Value).toArray } } :=
    I2.laid (t' := s2.toks) (o := .lst []) (fun b u e => Heap.get?_push_of_some _ e) (Nat.le_refl _) ⟨Nat.zero_le _, [], 0, .nil, Heap.get?_push_size _ rfl⟩
  have f3 : ∀ b ∈ fp, FpOk X pins (upd H2 s2.heap.objs.size (.lst [])) b := fun b hb => by
    obtain ⟨f0, fr⟩ := f2 b hb
    obtain ⟨o, e, _⟩ := T.obj _ _ st2 b hb
    exact ⟨by rw [C3 (Nat.ne_of_lt (Heap.lt_size e))]; exact f0, fr⟩
  generalize hs3 : ({ s2 with heap := s2.heap.push { cls := .type "list", dict := none, data := .seq ([] : List Value).toArray } } : Shared) = s3 at hns₁ hsb₁ I3 ⊢
  have o3 : ∀ b o, s2.heap.get? b = some o -> s3.heap.get? b = some o := fun b o e => by rw [<- hs3]; exact Heap.get?_push_of_some _ e
  have hk : ∀ b o, s3.heap.get? b = some o -> h₁.get? b = some o := fun b o e => by
    rw [hsb₁.2 b (Nat.ne_of_lt (Heap.lt_size e))]; exact Heap.get?_push_of_some _ e
  have st3 : tn 0 s3.heap := T.keep _ _ _ st2 fun b _ o e => o3 b o e
  have ho : ∀ b ∈ fp, ∃ o, s3.heap.get? b = some o := fun b hb => let ⟨o, e, _⟩ := T.obj _ _ st3 b hb; ⟨o, e⟩
  have I4 := A98 (tk := s3.toks + ([] : List (Str × Value)).length) I3 C f3 ho hns₁ hk
  have st4 : tn 0 h₁ := T.keep _ _ _ st3 fun b _ o e => hk b o e
  have hX : ∀ {H' : Hp} {pl : List (Addr × Obj)}, (∀ b ∈ fp, H' b = none) -> (∀ p ∈ pl, p.1 ∉ fp) -> ∀ b ∈ fp, FpOk (X.block scope cl N' s3 (upd H2 s2.heap.objs.size (.lst [])) fp) pl H' b := fun {H' pl} hn hp b hb => by
    refine ⟨hn b hb, I4.ok.exf b hb |>.1, I4.ok.exfs b hb, .inl hb, (I4.ok.exf b hb).2, fun p hp' z => ?_⟩
    have hp'' : p ∈ pl := by simpa [Cx.block] using hp'
    exact hp p hp'' (by rw [z]; exact hb)
  have fr3 : ∀ b ∈ fp, (upd H2 s2.heap.objs.size (.lst [])) b = none := fun b hb => (f3 b hb).1
  have loop : ∀ s₅ : Shared, s₅ = { s3 with heap := h₁, toks := s3.toks + ([] : List (Str × Value)).length } ->
      codeAny (model X.prog X.w) X.A (.compLoop (.ListComp elt [⟨tg, iter, ifs, 0⟩] scope pos) 0 (.ref it) (.ref s2.heap.objs.size) (compEnvC scope cl s3.heap.objs.size X.env)) (RR (.ref s2.heap.objs.size) s3.heap.objs.size) s₅ := by
    rintro s₅ rfl
    refine A1g (fun n s' => ∃ i σ' H' ys, Inv (X.block scope cl N' s3 (upd H2 s2.heap.objs.size (.lst [])) fp) [] σ' H' s' /\ tn i s'.heap /\ (∀ b ∈ fp, H' b = none) /\ W i n σ' H' ys) ?_ m0 ⟨0, _, _, [], I4, st4, fr3, w0⟩
    rintro n s6 ⟨i, σ6, H6, ys, I6, st6, fr6, w6⟩
    obtain ⟨hl6, hz6, hgo⟩ := turn i n σ6 H6 ys w6
    rcases hgo with ⟨stop, fin⟩ | ⟨go', step⟩
    · refine wpAny_mono (T.done (X.block scope cl N' s3 (upd H2 s2.heap.objs.size (.lst [])) fp) rfl rfl rfl hc i [] s6 σ6 H6 (fun _ _ => False) I6 (hX fr6 (fun _ z => nomatch z)) st6 stop) (fun r s7 ⟨hr, I7⟩ => ?_) fun _ _ z => z.elim
      subst hr
      obtain ⟨m7, hn7, _⟩ := id I7.loc
      refine out _ _ s7 m7 H6 hn7 (Nat.ne_of_gt I3.lt) I7.free I3.sz (fun x c e z => ?_) (fun p hp z => ?_) fin (A97 I3 I7 f3 (.refl ..))
      · obtain ⟨v, q⟩ := I3.cell x c e
        exact absurd q.lt (by rw [z]; exact Nat.lt_irrefl _)
      · exact absurd (Heap.lt_size (I3.pin p hp).1) (by rw [z]; exact Nat.lt_irrefl _)
    · refine wpAny_mono (T.item (X.block scope cl N' s3 (upd H2 s2.heap.objs.size (.lst [])) fp) rfl rfl rfl hc i [] s6 σ6 H6 (fun _ _ => False) I6 (hX fr6 (fun _ z => nomatch z)) st6 go') (fun r s7 ⟨u, hr, h7⟩ => ?_) fun _ _ z => z.elim
      subst hr
      refine wpAny_mono h7 (fun _ s8 ⟨x, H8, I8, r8, y8, st8, fr8⟩ => ?_) fun _ _ z => z.elim
      have I8' := I8.pinned (hX fr8 (fun _ z => nomatch z)) (T.obj _ _ st8)
      have again : ∀ {s9 : Shared} {σ9 : St} {H9 : Hp}, Inv (X.block scope cl N' s3 (upd H2 s2.heap.objs.size (.lst [])) fp) ([] ++ A0v fp s8.heap) σ9 H9 s9 -> ∀ {zs : List V}, (∃ m', m' < n /\ W (i + 1) m' σ9 H9 zs) ->
          ∃ m, m < n /\ ∃ i σ' H' ys, Inv (X.block scope cl N' s3 (upd H2 s2.heap.objs.size (.lst [])) fp) [] σ' H' s9 /\ tn i s9.heap /\ (∀ b ∈ fp, H' b = none) /\ W i m σ' H' ys := fun {s9 σ9 H9} I9 {zs} ⟨m', hm, w9⟩ => by
        refine ⟨m', hm, i + 1, σ9, H9, zs, I9.unpinned, T.keep _ _ _ st8 fun b hb o e => (I9.pin (b, o) (List.mem_append_right _ (List.mem_append_right _ (N3 hb e)))).1, fun b hb => ?_, w9⟩
        obtain ⟨o, e, d⟩ := T.obj _ _ st8 b hb
        exact (I9.pin (b, o) (List.mem_append_right _ (List.mem_append_right _ (N3 hb e)))).2.1
      refine wpAny_mono (hg _ _ _ _ s8 σ6 H8 x u _ I8' r8 (step x H8 y8)) (fun _ s9 ⟨σ9, H9, I9, q9⟩ => ?_) fun _ _ z => z.elim
      refine wpAny_mono (ht _ _ _ _ s9 σ9 H9 _ I9 q9) (fun ok s10 ⟨H10, I10, q10⟩ => ?_) fun _ _ z => z.elim
      cases ok with
      | false => exact again I10 q10
      | true =>
        rw [if_pos rfl]
        refine wpAny_mono (he _ _ _ _ s10 σ9 H10 _ I10 q10) (fun yv s11 ⟨y, H11, I11, r11, zs, hz, hlen, q11⟩ => ?_) fun _ _ z => z.elim
        refine wpAny_mono (F5 (X := X.block scope cl N' s3 (upd H2 s2.heap.objs.size (.lst [])) fp) _ s11 σ9 H11 (.ref s2.heap.objs.size) [y] (.ref s2.heap.objs.size) [yv] (fun _ H' => ∃ m', m' < n /\ W (i + 1) m' σ9 H' (zs ++ [y])) I11 rfl (.cons r11 .nil) ⟨_, zs, y, rfl, rfl, hz, hlen, q11⟩) (fun _ s12 ⟨_, H12, I12, _, q12⟩ => ?_) fun _ _ z => z.elim
        exact again I12 q12
  exact codeAny_compStart_list (loop _ rfl) (T.self _ 0 _ _ _ st4 (loop _ rfl))
theorem B5a (hc : X.calm = true) (C : CompSc X scope cl N' cap) (hi : PI X tg iter wi) (hg : ∀ s3 H3 fp, PG (X.block scope cl N' s3 H3 fp) tg g) (ht : ∀ s3 H3 fp, PTs (X.block scope cl N' s3 H3 fp) ifs tt)
    (he : ∀ s3 H3 fp, PE (X.block scope cl N' s3 H3 fp) elt te) (hs : ∀ x, foldedSetIterable iter X.env x = pure x := by intro _; rfl) : PE X (.ListComp elt [⟨tg, iter, ifs, 0⟩] scope pos) (B4j wi g tt te cap) := by
  intro pins s σ H Q I h
  rw [eval_ListComp]
  refine wpAny_comprehension_free (use := none) rfl hs C.clos C.kind C.names (thn (hi pins s σ H _ I h) fun v s1 h1 => thn h1 fun itv s2 h2 => ?_)
  obtain ⟨it, fp, tn, J, H2, e, I2, T, st2, f2, go⟩ := h2
  subst e
  refine A1o (RR := fun acc C => compPost (model X.prog X.w) X.A X.xe none (EP X pins σ Q) acc C) (Fin := fun D H' => Q (.ref D) H') hc C I2 T st2 f2 hg ht he go ?_
  intro D C' s' m H' hn n1 n2 n3 n4 n5 fin inv
  exact ⟨m, hn, fun h' hs' => ⟨.ref D, H', inv.turned (t' := s'.toks) (fun b o hb e => (hs'.2 b hb).trans e) n2 n1 (.inr n3) n4 n5, rfl, fin⟩⟩
end
end L2
namespace L2
open PySem PySem.Spec PyProof.Rows
def A1i (env : Env) : List (Str × NameKind) -> List (Str × Addr) -> List (Str × Addr)
  | [], acc => acc
  | (n, k) :: r, acc => A1i env r (if (k == .free) = true then (n, (env.cells.lookup n).getD 0) :: acc else acc)
theorem A0h {env : Env} : ∀ (l : List (Str × NameKind)) (acc : List (Str × Addr)), (∀ p ∈ l, p.2 = .free -> (env.cells.lookup p.1).isSome = true) ->
    (forIn l acc (fun x s => match x with
      | (name, kind) => if (kind == NameKind.free) = true then do
          let a <- cellOf env name
          pure (ForInStep.yield ((name, a) :: s))
        else pure (ForInStep.yield s)) : Sem (List (Str × Addr))) = pure (A1i env l acc)
  | [], acc, _ => rfl
  | (n, k) :: r, acc, h => by
    rw [List.forIn_cons]
    have hr := fun p hp => h p (List.mem_cons_of_mem _ hp)
    by_cases hk : (k == NameKind.free) = true
    · have h1 := h (n, k) List.mem_cons_self (by simpa using hk)
      obtain ⟨c, hc⟩ := Option.isSome_iff_exists.mp h1
      have hc : env.cells.lookup n = some c := hc
      have e1 : cellOf env n = pure c := by unfold cellOf; rw [hc]
      simp only [hk, if_true, e1, pure_bind]
      rw [A0h r _ hr]
      show _ = pure (A1i env r (if (k == .free) = true then (n, (env.cells.lookup n).getD 0) :: acc else acc))
      rw [if_pos hk, hc]
      rfl
    · simp only [hk, Bool.false_eq_true, if_false, pure_bind]
      rw [A0h r _ hr]
      show _ = pure (A1i env r (if (k == .free) = true then (n, (env.cells.lookup n).getD 0) :: acc else acc))
      rw [if_neg hk]
theorem A1h {env : Env} : ∀ (l : List (Str × NameKind)) (acc : List (Str × Addr)) (p : Str × Addr), p ∈ A1i env l acc -> p ∈ acc \/ ((p.1, NameKind.free) ∈ l /\ p.2 = (env.cells.lookup p.1).getD 0)
  | [], acc, p, h => .inl h
  | (n, k) :: r, acc, p, h => by
    rcases A1h r _ p h with z | ⟨z, e⟩
    · by_cases hk : (k == NameKind.free) = true
      · rw [if_pos hk] at z
        rcases List.mem_cons.mp z with rfl | z
        · right
          have : k = .free := by simpa using hk
          subst this
          exact ⟨List.mem_cons_self, rfl⟩
        · exact .inl z
      · rw [if_neg hk] at z
        exact .inl z
    · exact .inr ⟨List.mem_cons_of_mem _ z, e⟩
theorem V3 {env : Env} : ∀ (l : List (Str × NameKind)) (acc : List (Str × Addr)) (x : Str), ((∃ c, (x, c) ∈ acc) \/ (x, NameKind.free) ∈ l) -> ∃ c, (x, c) ∈ A1i env l acc
  | [], acc, x, h => by
    rcases h with h | h
    · exact h
    · exact absurd h (by simp)
  | (n, k) :: r, acc, x, h => by
    refine V3 r _ x ?_
    rcases h with ⟨c, h⟩ | h
    · left
      by_cases hk : (k == NameKind.free) = true
      · rw [if_pos hk]; exact ⟨c, List.mem_cons_of_mem _ h⟩
      · rw [if_neg hk]; exact ⟨c, h⟩
    · rcases List.mem_cons.mp h with e | h
      · left
        cases e
        rw [if_pos (by rfl)]
        exact ⟨_, List.mem_cons_self⟩
      · exact .inr h
theorem L7 {β : Type} {x : Str} : ∀ {l : List (Str × β)} {c : β}, (x, c) ∈ l -> ∃ c', l.lookup x = some c'
  | (n, d) :: r, c, h => by
    by_cases e : x = n
    · subst e; exact ⟨d, by simp [List.lookup_cons]⟩
    · rcases List.mem_cons.mp h with z | z
      · cases z; exact absurd rfl e
      · obtain ⟨c', q⟩ := L7 z
        refine ⟨c', ?_⟩
        rw [List.lookup_cons]
        have : (x == n) = false := by simpa using e
        rw [this]; exact q
theorem N6 {scope : Scope} {env : Env} {x : Str} {k : NameKind} (hcell : ∀ y ∈ scope.names, y.2 ≠ .cell) (h : (relabel scope env).names.lookup x = some k) (hk : k = .cell \/ k = .free) : (x, NameKind.free) ∈ scope.names := by
  have h1 := PySem.mem_of_lookup h
  obtain ⟨⟨n, k'⟩, hm, e⟩ := List.mem_map.mp (show (x, k) ∈ scope.names.map _ from h1)
  dsimp only at e
  split at e
  · rename_i q
    cases e
    simp only [Bool.and_eq_true] at q
    have : k' = .free := by simpa using q.1.1
    subst this
    exact hm
  · cases e
    rcases hk with rfl | rfl
    · exact absurd rfl (hcell _ hm)
    · exact hm
theorem M3 {env : Env} {x : Str} : ∀ {l : List (Str × NameKind)}, l.lookup x = some .free ->
    (l.map fun (n, k) => if (k == NameKind.free && env.scope.kind == .function && env.kindOf n == some .cell) then (n, NameKind.cell) else (n, k)).lookup x = some .cell \/
    (l.map fun (n, k) => if (k == NameKind.free && env.scope.kind == .function && env.kindOf n == some .cell) then (n, NameKind.cell) else (n, k)).lookup x = some .free
  | [], h => by simp at h
  | (n, k) :: r, h => by
    rw [List.lookup_cons] at h
    rw [List.map_cons]
    dsimp only
    by_cases e : (x == n) = true
    · rw [e] at h
      have hk : k = .free := by simpa using h
      subst hk
      by_cases q : (NameKind.free == NameKind.free && env.scope.kind == .function && env.kindOf n == some .cell) = true
      · left; rw [if_pos q, List.lookup_cons, e]
      · right; rw [if_neg q, List.lookup_cons, e]
    · have e' : (x == n) = false := by simpa using e
      rw [e'] at h
      have := M3 (env := env) h
      by_cases q : (k == NameKind.free && env.scope.kind == .function && env.kindOf n == some .cell) = true
      · rw [if_pos q, List.lookup_cons, e']; exact this
      · rw [if_neg q, List.lookup_cons, e']; exact this
theorem A0s {scope : Scope} {env : Env} {x : Str} (h : scope.names.lookup x = some .free) : (relabel scope env).names.lookup x = some .cell \/ (relabel scope env).names.lookup x = some .free := M3 h
theorem D4 {X : Cx} {scope : Scope} {N' : List Str} {cap : List (Option Nat)}
    (h1 : scope.names.all (fun p => !(p.2 == .free) || ((X.env.cells.lookup p.1).isSome && !(X.env.kindOf p.1 == some .local))) = true)
    (hk : scope.kind = .function) (h2 : scope.names.all (fun p => !(p.2 == .cell)) = true) (h3 : scope.names.all (fun p => !(p.2 == .local) || scope.names.lookup p.1 == some .local) = true)
    (nd : N'.Nodup) (len : cap.length = N'.length)
    (h4 : (N'.zip cap).all (fun q => match q.2 with | none => true | some j => (X.N[j]? == some q.1) && (scope.names.lookup q.1 == some .free) && (X.env.scope.names.lookup q.1 == some .cell || X.env.scope.names.lookup q.1 == some .free)) = true) :
    CompSc X scope (A1i X.env scope.names []) N' cap := by
  have hfree : ∀ p ∈ scope.names, p.2 = .free -> (X.env.cells.lookup p.1).isSome = true /\ X.env.kindOf p.1 ≠ some .local := fun p hp e => by
    have := List.all_eq_true.mp h1 p hp
    rw [e] at this
    have this : ((X.env.cells.lookup p.1).isSome && !(X.env.kindOf p.1 == some .local)) = true := this
    rw [Bool.and_eq_true] at this
    refine ⟨this.1, fun z => ?_⟩
    rw [z] at this
    exact absurd this.2 (by decide)
  have hcell : ∀ y ∈ scope.names, y.2 ≠ .cell := fun y hy e => by
    have := List.all_eq_true.mp h2 y hy
    rw [e] at this
    exact absurd this (by decide)
  have memsub : ∀ x c, (A1i X.env scope.names []).lookup x = some c -> (x, NameKind.free) ∈ scope.names /\ X.env.cells.lookup x = some c := fun x c h => by
    rcases A1h _ _ _ (PySem.mem_of_lookup h) with z | ⟨z, e⟩
    · exact absurd z (by simp)
    · refine ⟨z, ?_⟩
      obtain ⟨c', hc'⟩ := Option.isSome_iff_exists.mp (hfree _ z rfl).1
      have hc' : X.env.cells.lookup x = some c' := hc'
      have e : c = (X.env.cells.lookup x).getD 0 := e
      rw [hc'] at e ⊢
      exact congrArg some e.symm
  refine ⟨?_, fun x c h => (memsub x c h).2, fun x h => ?_, hk, hcell, fun y hy e => ?_, nd, len, fun x c h => (hfree _ (memsub x c h).1 rfl).2, fun i x j hi hc => ?_⟩
  · unfold closureFor
    show (forIn scope.names [] _ >>= fun r => pure r) = _
    rw [A0h scope.names [] fun p hp e => (hfree p hp e).1]
    rfl
  · have hm : (x, NameKind.free) ∈ scope.names := by
      rcases h with h | h
      · exact N6 hcell h (.inl rfl)
      · exact N6 hcell h (.inr rfl)
    obtain ⟨c, hc⟩ := V3 (env := X.env) scope.names [] x (.inr hm)
    exact L7 hc
  · have := List.all_eq_true.mp h3 y hy
    rw [e] at this
    simpa using this
  · have hz : (x, some j) ∈ N'.zip cap := by
      refine List.mem_iff_getElem?.mpr ⟨i, ?_⟩
      rw [List.getElem?_zip_eq_some]
      exact ⟨hi, hc⟩
    have := List.all_eq_true.mp h4 _ hz
    simp only [Bool.and_eq_true, Bool.or_eq_true, beq_iff_eq] at this
    obtain ⟨⟨q1, q2⟩, q3⟩ := this
    refine ⟨q1, A0s q2, ?_, ?_⟩
    · rcases q3 with q | q
      · exact .inr (.inl q)
      · exact .inr (.inr q)
    · obtain ⟨c, hc⟩ := V3 (env := X.env) scope.names [] x (.inr (PySem.mem_of_lookup q2))
      exact L7 hc
def Z0 (wi : TI) (g : TG) (tt : TT) (te : TE) (cap : List (Option Nat)) (i : Nat) : TS := fun D σ H => wi σ H fun J H1 => ∀ l, H1 l = none -> A4n J g tt te l (fun H' => D.nx (σ.set i (some (.ref l))) H') (capσ cap σ) H1
section
variable {X : Cx} {scope : Scope} {cl : List (Str × Addr)} {N' : List Str} {cap : List (Option Nat)} {elt tg iter : Expr} {ifs : List Expr} {wi : TI} {g : TG} {tt : TT} {te : TE} {pos spos py : Pos} {y : Str} {i : Nat}
theorem A43 (hc : X.calm = true) (hN : X.N.Nodup) (hi : X.N[i]? = some y) (hy : X.env.scope.names.lookup y = some .local) (C : CompSc X scope cl N' cap) (hit : PI X tg iter wi) (hg : ∀ s3 H3 fp, PG (X.block scope cl N' s3 H3 fp) tg g)
    (ht : ∀ s3 H3 fp, PTs (X.block scope cl N' s3 H3 fp) ifs tt) (he : ∀ s3 H3 fp, PE (X.block scope cl N' s3 H3 fp) elt te)
    (hsw : swapsWith (.ListComp elt [⟨tg, iter, ifs, 0⟩] scope pos) (some (.Name y py)) spos.line X.env = pure true) (hs : ∀ x, foldedSetIterable iter X.env x = pure x := by intro _; rfl) :
    PS X (.Assign [.Name y py] (.ListComp elt [⟨tg, iter, ifs, 0⟩] scope pos) spos) (Z0 wi g tt te cap i) := by
  intro pins s σ H D I h
  rw [exec_Assign_Name_used _ _ _ _ hsw]
  refine wpAny_bind (wpAny_standAt (wpAny_bind ?_))
  show wpAny _ X.A (do let _ <- comprehension (.ListComp elt [⟨tg, iter, ifs, 0⟩] scope pos) scope X.env _ (newList []) false (eval iter X.env) (some (assign (.Name y py) X.env))) _ _ s
  refine wpAny_bind (wpAny_mono (wpAny_comprehension_free (use := some (assign (.Name y py) X.env)) (Q := fun _ s' => SP X pins D .next s') rfl hs C.clos C.kind C.names
    (thn (hit pins s σ H _ I h) fun v s1 h1 => thn h1 fun itv s2 h2 => ?_)) (fun _ s' hq => wpAny_pure (wpAny_pure hq)) fun _ _ e => e)
  obtain ⟨it, fp, tn, J, H2, e, I2, T, st2, f2, go⟩ := h2
  subst e
  refine A1o (RR := fun acc C => compPost (model X.prog X.w) X.A X.xe (some (assign (.Name y py) X.env)) (fun _ s' => SP X pins D .next s') acc C) (Fin := fun l H' => D.nx (σ.set i (some (.ref l))) H') hc C I2 T st2 f2 hg ht he go ?_
  intro l C' s' m H' hn n1 n2 n3 n4 n5 fin inv
  show wpAny _ X.A (assign (.Name y py) X.env (.ref l)) _ _ _
  refine wpAny_assign_Name (A0l (v := .ref l) inv hN hi (.inl hy) rfl (fun s'' I'' ⟨a, sb, ha⟩ => ?_) (.inr hy))
  have na : C' ≠ a := by
    rcases ha with e | e
    · rw [e]; exact n1
    · exact (n4 _ _ e).symm
  exact ⟨m, hn.sameBut sb na, fun h' hs' => ⟨_, H', I''.turned (t' := s''.toks) (fun b o hb e => (hs'.2 b hb).trans e) n2 n1 (.inr n3) n4 n5, fin⟩⟩
end
section
variable {X : Cx} {K : PySem.W.Frag}
theorem B49 {pos : Pos} {es : List Expr} {k : Nat} {t : TGs} {n : Nat} (h : X.K = K) (hc : X.calm = true) (hg : PGs X es t)
    (hn : (assignEach es X.env).length = n := by rfl) (hst : (assignEach es X.env).findIdx? (·.1) = none := by rfl) : PG X (.Tuple es k pos) (gTup K n t) := by subst h; exact B7k hc hg hn hst
end
end L2
namespace Prf
open PySem L2 My
abbrev Hpp := L2.Hp
theorem ifD {p : Prop} [Decidable p] {A B : Prop} (h1 : p -> A) (h2 : ¬ p -> B) : if decide p = true then A else B := by
  by_cases h : p
  · rw [decide_eq_true h]; exact h1 h
  · rw [decide_eq_false h]; exact h2 h
structure StAt (H : Hpp) (p : Addr) : Prop where
  ex : ∃ (c m : Int) (f : Bool), H p = some (.lst [.int c, .int m, .bl f]) /\ 0 <= m /\ m < 2147483648
theorem StAt.same {H H' : Hpp} {p : Addr} (h : StAt H p) (e : Same H H') : StAt H' p := by
  obtain ⟨c, m, f, h, r⟩ := h.ex; exact ⟨c, m, f, e _ _ h, r⟩
theorem StAt.kp {H H' : Hpp} {p l : Addr} (h : StAt H p) (n : p ≠ l) (e : Kp l H H') : StAt H' p := by
  obtain ⟨c, m, f, h, r⟩ := h.ex; exact ⟨c, m, f, e _ _ n h, r⟩
def A2z (K : PySem.W.Frag) : Sp := fun vs H Q _ => ∃ (a : Addr) (ns : List Int) (k : Int), vs = [.ref a, .int k] /\ SqL K H a (ns.map V.int) /\ 0 <= k /\ k <= 63 /\ ∀ p H', H p = none -> StAt H' p -> Kp p H H' -> Q (.ref p) H'
def A5v : Sp := fun vs H Q _ => ∃ (p : Addr) (n : Int), vs = [.ref p, .int n] /\ StAt H p /\ 0 < n /\ Sm 4000 n /\ ∀ d H', 0 <= d -> d < n -> StAt H' p -> Kp p H H' -> Q (.int d) H'
def B4n (K : PySem.W.Frag) : Sp := fun vs H Q _ => ∃ (a : Addr) (ns : List Int), vs = [.ref a] /\ SqL K H a (ns.map V.int) /\ ns.length <= 63 /\ ∀ H', Q (.bl true) H'
theorem sm32 {m : Int} (h0 : 0 <= m) (h1 : m < 2147483648) : Sm 8000 m := Sm.mono (k := 32) (by unfold Sm; omega) (by decide)
theorem X2 {m : Int} (n : Nat) (h : m.natAbs < 2 ^ 64 := by decide) : Sm 8000 m := Sm.mono (k := 64) h (by decide)
theorem A0m {k : Nat} {t b : Int} (h : Sm k b) (hb : b ≠ 0) : Sm k ((Int.gcd t b : Nat) : Int) := by
  have h1 : Int.gcd t b ∣ b.natAbs := Nat.gcd_dvd_right _ _
  have h2 := Nat.le_of_dvd (by omega) h1
  exact h.le (by simpa using h2)
theorem B6x {k : Nat} {t b : Int} (h : Sm k b) (hb : b ≠ 0) : Sm k (sh t b) := by
  have h1 : Int.gcd t b ∣ b.natAbs := Nat.gcd_dvd_right _ _
  have h2 := Nat.le_of_dvd (by omega) h1
  exact h.le (by rw [B63]; exact h2)
end Prf
namespace Prf
open PySem L2 My
theorem A9z (n : Nat) (h : (n : Int) <= 1000000 := by decide) : CPow 10 (n : Int) := ⟨by omega, h, by decide⟩
theorem sm4 (n : Int) (h : n.natAbs < 2 ^ 64 := by decide) : Sm 4000 n := Sm.mono (k := 64) h (by decide)
theorem A23 {k : Int} (h0 : 0 <= k) (h1 : k <= 63) : Sm 8000 k := sm32 h0 (by omega)
theorem B6y {k : Int} (h0 : 0 <= k) (h1 : k <= 63) : Sm 20 k := by unfold Sm; omega
theorem B6z (b : Bool) : Sm 8000 (if b = true then (1 : Int) else 0) := by cases b <;> exact X2 0
theorem B3n : kitB "tuple" "tuple" = some true := by decide +kernel
theorem B3x : kitB "int" "bool" = some false := by decide +kernel
end Prf
namespace Prf
open PySem L2 My
inductive R2L {α : Type} (P : Addr -> α -> Prop) : List V -> List α -> Prop
  | nil : R2L P [] []
  | cons {a : Addr} {q : α} {rs : List V} {qs : List α} : P a q -> R2L P rs qs -> R2L P (.ref a :: rs) (q :: qs)
section
variable {α : Type} {P P' : Addr -> α -> Prop}
theorem R2L.get : ∀ {rs qs} {i : Nat} {x : V}, R2L P rs qs -> rs[i]? = some x -> ∃ a q, x = .ref a /\ qs[i]? = some q /\ P a q
  | _, _, _, _, .nil, e => by simp at e
  | _, _, 0, _, .cons h _, e => by simp at e; subst e; exact ⟨_, _, rfl, rfl, h⟩
  | _, _, i + 1, x, .cons _ t, e => by
    obtain ⟨a, q, h1, h2, h3⟩ := R2L.get (i := i) (x := x) t (by simpa using e)
    exact ⟨a, q, h1, by simpa using h2, h3⟩
end
def dq (q : Rat) : PyData := .tuple [.int q.num, .int q.den]
def dcn (c : Rat × Rat) : PyData := .tuple [dq c.1, dq c.2]
theorem A9x : ∀ cs : List (Rat × Rat), PyData.canLayAll0 (cs.map dcn) = true
  | [] => rfl
  | c :: r => by
    show ((dcn c).canLay0 && PyData.canLayAll0 (r.map dcn)) = true
    rw [show (dcn c).canLay0 = true from rfl, A9x r]; rfl
theorem J6 : ∀ cs : List (Rat × Rat), PyData.depthAll (cs.map dcn) <= 2
  | [] => Nat.zero_le _
  | c :: r => by
    show max (dcn c).depth (PyData.depthAll (r.map dcn)) <= 2
    have h1 := J6 r
    have h2 : (dcn c).depth = 2 := rfl
    omega
theorem B0m {k : Nat} {z : Int} {B : Nat} (h0 : -(B : Int) <= z) (h1 : z <= B) (hB : B < 2 ^ k) : Sm k z := by
  unfold Sm; omega
end Prf
set_option maxHeartbeats 4000000
namespace L2
open PySem
mutual
theorem Den.same {K : PySem.W.Frag} {F F' : Hp} (e : Same F F') : ∀ {v : V} {x : PyData}, Den K F v x -> Den K F' v x
  | _, _, .non => .non
  | _, _, .bl b => .bl b
  | _, _, .int i => .int i
  | _, _, .str x => .str x
  | _, _, .lst h t => .lst (e.seq h) (DenAll.same e t)
  | _, _, .tup h t => .tup (SqT.same e h) (DenAll.same e t)
  | _, _, .dct h => .dct (e _ _ h)
theorem DenAll.same {K : PySem.W.Frag} {F F' : Hp} (e : Same F F') : ∀ {vs : List V} {xs : List PyData}, DenAll K F vs xs -> DenAll K F' vs xs
  | _, _, .nil => .nil
  | _, _, .cons h t => .cons (Den.same e h) (DenAll.same e t)
end
section
variable {K : PySem.W.Frag} {F : Hp}
theorem Den.intE {v : V} {i : Int} (h : Den K F v (.int i)) : v = .int i := by cases h; rfl
theorem Den.blE {v : V} {b : Bool} (h : Den K F v (.bool b)) : v = .bl b := by cases h; rfl
theorem Den.nonE {v : V} (h : Den K F v .none) : v = .non := by cases h; rfl
theorem Den.tupE {v : V} {xs : List PyData} (h : Den K F v (.tuple xs)) : ∃ a vs, v = .ref a /\ SqT K F a vs /\ DenAll K F vs xs := by cases h; exact ⟨_, _, rfl, ‹_›, ‹_›⟩
theorem Den.lstE {v : V} {xs : List PyData} (h : Den K F v (.list xs)) : ∃ a vs, v = .ref a /\ SqL K F a vs /\ DenAll K F vs xs := by cases h; exact ⟨_, _, rfl, ‹_›, ‹_›⟩
theorem DenAll.len : ∀ {vs : List V} {xs : List PyData}, DenAll K F vs xs -> vs.length = xs.length
  | _, _, .nil => rfl
  | _, _, .cons _ t => congrArg (· + 1) (DenAll.len t)
theorem DenAll.get : ∀ {vs : List V} {xs : List PyData} {i : Nat} {v : V}, DenAll K F vs xs -> vs[i]? = some v -> ∃ x, xs[i]? = some x /\ Den K F v x
  | _, _, _, _, .nil, e => by simp at e
  | _, _, 0, _, .cons h _, e => by simp at e; subst e; exact ⟨_, rfl, h⟩
  | _, _, i + 1, v, .cons _ t, e => by
    obtain ⟨x, h1, h2⟩ := DenAll.get (i := i) (v := v) t (by simpa using e)
    exact ⟨x, by simpa using h1, h2⟩
theorem DenAll.at : ∀ {vs : List V} {xs : List PyData} {i : Nat} {x : PyData}, DenAll K F vs xs -> xs[i]? = some x -> ∃ v, vs[i]? = some v /\ Den K F v x
  | _, _, _, _, .nil, e => by simp at e
  | _, _, 0, _, .cons h _, e => by simp at e; subst e; exact ⟨_, rfl, h⟩
  | _, _, i + 1, x, .cons _ t, e => by
    obtain ⟨v, h1, h2⟩ := DenAll.at (i := i) (x := x) t (by simpa using e)
    exact ⟨v, by simpa using h1, h2⟩
theorem DenAll.app : ∀ {vs us : List V} {xs ys : List PyData}, DenAll K F vs xs -> DenAll K F us ys -> DenAll K F (vs ++ us) (xs ++ ys)
  | _, _, _, _, .nil, h => h
  | _, _, _, _, .cons h t, h' => .cons h (DenAll.app t h')
theorem DenAll.drop : ∀ {vs : List V} {xs : List PyData} (n : Nat), DenAll K F vs xs -> DenAll K F (vs.drop n) (xs.drop n)
  | _, _, 0, h => by simpa using h
  | _, _, _ + 1, .nil => by simpa using DenAll.nil
  | _, _, n + 1, .cons _ t => by simpa using DenAll.drop n t
theorem DenAll.take : ∀ {vs : List V} {xs : List PyData} (n : Nat), DenAll K F vs xs -> DenAll K F (vs.take n) (xs.take n)
  | _, _, 0, _ => by simpa using DenAll.nil
  | _, _, _ + 1, .nil => by simpa using DenAll.nil
  | _, _, n + 1, .cons h t => by simpa using DenAll.cons h (DenAll.take n t)
theorem DenAll.dropLast {vs : List V} {xs : List PyData} (h : DenAll K F vs xs) : DenAll K F vs.dropLast xs.dropLast := by
  rw [List.dropLast_eq_take, List.dropLast_eq_take, h.len]; exact h.take _
theorem DenAll.atIE {vs : List V} {xs : List PyData} {i : Int} {x : PyData} (h : DenAll K F vs xs) (e : L2.atI xs i = some x) : ∃ v, L2.atI vs i = some v /\ Den K F v x := by
  unfold L2.atI at *
  rw [h.len]
  cases q : ixN xs.length i with
  | none => rw [q] at e; cases e
  | some j => rw [q] at e; exact DenAll.at h e
end
end L2
namespace Pu
open PySem L2 My Prf
abbrev Frag := PySem.W.Frag
inductive OT where
  | leaf (x : PyData) | nd (b : Bool) (a : Addr) (k : OT) | nil | cons (h t : OT)
def OT.fp : OT -> List Addr
  | .leaf _ => []
  | .nd _ a k => a :: k.fp
  | .nil => []
  | .cons h t => h.fp ++ t.fp
def OT.dat : OT -> List PyData
  | .leaf x => [x]
  | .nd true _ k => [.list k.dat]
  | .nd false _ k => [.tuple k.dat]
  | .nil => []
  | .cons h t => h.dat ++ t.dat
def OT.put (a : Addr) (n : OT) : OT -> OT
  | .leaf x => .leaf x
  | .nd b a' k => .nd b a' (if a' = a then n else OT.put a n k)
  | .nil => .nil
  | .cons h t => .cons (OT.put a n h) (OT.put a n t)
inductive SV where
  | d (x : PyData) | own (xs : List PyData) | bor (xs : List PyData) | st | tr (t : OT) | bt (t : OT) | al (a : Addr)
def SV.foot (v : V) : SV -> Addr -> Prop
  | .own _, a => v = .ref a
  | .tr t, a => a ∈ t.fp
  | _, _ => False
def SV.isRes : SV -> Bool
  | .bor _ => false
  | .bt _ => false
  | .al _ => false
  | _ => true
abbrev PEnv := List (Option SV)
structure Wd where
  M : Addr -> Prop
  H : Hpp
  F : Hpp
structure Wd.Ok (w : Wd) : Prop where
  sub : Same w.F w.H
  st : ∀ p, w.M p -> StAt w.H p
  nf : ∀ p, w.M p -> w.F p = none
structure Lw (w w' : Wd) : Prop where
  f : Same w.F w'.F
  h : ∀ b o, w.H b = some o -> ¬ w.M b -> w'.H b = some o
  m : ∀ b, w.M b -> w'.M b
  mn : ∀ b, w'.M b -> w.M b \/ w.H b = none
  dom : ∀ b, w'.H b = none -> w.H b = none
structure Le (w w' : Wd) : Prop extends Lw w w' where
  n : ∀ a o, w'.F a = some o -> w.F a = some o \/ w.H a = none
theorem Lw.refl (w : Wd) : Lw w w := ⟨Same.refl _, fun _ _ h _ => h, fun _ h => h, fun _ h => .inl h, fun _ h => h⟩
theorem Le.refl (w : Wd) : Le w w := ⟨Lw.refl w, fun _ _ h => .inl h⟩
theorem Lw.nm {w w' : Wd} (a : Lw w w') {b : Addr} (h : w.H b ≠ none) (n : ¬ w.M b) : ¬ w'.M b := fun z => (a.mn b z).elim n h
theorem Lw.trans {w w1 w2 : Wd} (a : Lw w w1) (b : Lw w1 w2) : Lw w w2 :=
  ⟨a.f.trans b.f, fun c o h n => b.h c o (a.h c o h n) (a.nm (by rw [h]; simp) n), fun c h => b.m c (a.m c h),
   fun c h => (b.mn c h).elim (a.mn c) fun z => .inr (a.dom c z), fun c h => a.dom c (b.dom c h)⟩
theorem Le.trans {w w1 w2 : Wd} (a : Le w w1) (b : Le w1 w2) : Le w w2 :=
  ⟨a.toLw.trans b.toLw, fun c o h => (b.n c o h).elim (a.n c o) fun z => .inr (a.dom c z)⟩
theorem Le.fnone {w w' : Wd} (a : Le w w') {l : Addr} (h : w.F l = none) (h' : w.H l ≠ none) : w'.F l = none := by
  cases q : w'.F l with
  | none => rfl
  | some o => rcases a.n l o q with z | z
              · rw [h] at z; cases z
              · exact absurd z h'
structure Ct where
  K : Frag
  w0 : Wd
  Z : Addr -> Prop
def VV (K : Frag) (w : Wd) (v : V) (x : PyData) : Prop := Den K w.F v x \/ ∃ l vs xs, v = .ref l /\ x = .list xs /\ w.H l = some (.lst vs) /\ ¬ w.M l /\ DenAll K w.F vs xs
def ho : Bool -> List V -> HO
  | true, vs => .lst vs
  | false, vs => .tup vs
def Tre (K : Frag) (w : Wd) : OT -> List V -> Prop
  | .leaf x, vs => ∃ v, vs = [v] /\ Den K w.F v x
  | .nd b a k, vs => vs = [.ref a] /\ ∃ us, w.H a = some (ho b us) /\ Tre K w k us
  | .nil, vs => vs = []
  | .cons h t, vs => ∃ v r, vs = v :: r /\ Tre K w h [v] /\ Tre K w t r
theorem Tre.mono {K : Frag} {w w' : Wd} (a : Lw w w') : ∀ {t : OT} {vs : List V}, Tre K w t vs -> (∀ a ∈ t.fp, ¬ w.M a) -> Tre K w' t vs
  | .leaf _, _, ⟨v, e, h⟩, _ => ⟨v, e, Den.same a.f h⟩
  | .nd _ p _, _, ⟨e, us, h, k⟩, n => ⟨e, us, a.h _ _ h (n p (by simp [OT.fp])), Tre.mono a k fun q hq => n q (by simp [OT.fp, hq])⟩
  | .nil, _, e, _ => e
  | .cons _ _, _, ⟨v, r, e, h, t⟩, n => ⟨v, r, e, Tre.mono a h fun q hq => n q (by simp [OT.fp, hq]), Tre.mono a t fun q hq => n q (by simp [OT.fp, hq])⟩
theorem Tre.sameF {K : Frag} {M : Addr -> Prop} {H F F' : Hpp} (e : Same F F') : ∀ {t : OT} {vs : List V}, Tre K ⟨M, H, F⟩ t vs -> Tre K ⟨M, H, F'⟩ t vs
  | .leaf _, _, ⟨v, q, h⟩ => ⟨v, q, Den.same e h⟩
  | .nd _ _ _, _, ⟨q, us, h, k⟩ => ⟨q, us, h, Tre.sameF e k⟩
  | .nil, _, q => q
  | .cons _ _, _, ⟨v, r, q, h, t⟩ => ⟨v, r, q, Tre.sameF e h, Tre.sameF e t⟩
def VR (c : Ct) (w : Wd) (v : V) : SV -> Prop
  | .d x => Den c.K w.F v x
  | .own xs => ∃ l vs, v = .ref l /\ w.H l = some (.lst vs) /\ w.F l = none /\ ¬ w.M l /\ c.w0.H l = none /\ DenAll c.K w.F vs xs
  | .bor xs => Den c.K w.F v (.list xs) \/ ∃ l vs, v = .ref l /\ c.w0.H l = some (.lst vs) /\ ¬ c.w0.M l /\ DenAll c.K w.F vs xs
  | .st => ∃ p, v = .ref p /\ w.M p
  | .tr t => Tre c.K w t [v] /\ (∀ a ∈ t.fp, w.H a ≠ none /\ w.F a = none /\ ¬ w.M a /\ c.w0.H a = none) /\ t.fp.Nodup
  | .bt t => Tre c.K ⟨c.w0.M, c.w0.H, w.F⟩ t [v] /\ ∀ a ∈ t.fp, ¬ c.w0.M a
  | .al a => v = .ref a
theorem B0i {H : Hpp} {p b : Addr} {o : HO} (h : upd H p o b = none) : H b = none := by
  unfold upd at h; split at h
  · cases h
  · exact h
theorem VR.foot {c : Ct} {w : Wd} {v : V} {a : Addr} : ∀ {s : SV}, VR c w v s -> s.foot v a -> w.H a ≠ none /\ w.F a = none /\ ¬ w.M a /\ c.w0.H a = none
  | .own _, ⟨l, vs, e, h1, h2, h3, h4, _⟩, f => by
    have : V.ref l = .ref a := e.symm.trans f
    cases this
    exact ⟨by rw [h1]; simp, h2, h3, h4⟩
  | .tr _, h, f => h.2.1 a f
theorem VV.mono {K : Frag} {w w' : Wd} {v : V} {x : PyData} (a : Lw w w') (h : VV K w v x) : VV K w' v x := by
  rcases h with h | ⟨l, vs, xs, e, e', h1, h2, h3⟩
  · exact .inl (Den.same a.f h)
  · exact .inr ⟨l, vs, xs, e, e', a.h _ _ h1 h2, a.nm (by rw [h1]; simp) h2, DenAll.same a.f h3⟩
theorem VV.den {K : Frag} {w : Wd} {v : V} {x : PyData} (o : w.Ok) (h : VV K w v x) : Den K w.H v x := by
  rcases h with h | ⟨l, vs, xs, e, e', h1, h2, h3⟩
  · exact Den.same o.sub h
  · rw [e, e']; exact .lst (SqL.of h1) (DenAll.same o.sub h3)
theorem VR.mono {c : Ct} {w w' : Wd} {v : V} (a : Le w w') : ∀ {s : SV}, VR c w v s -> VR c w' v s
  | .d _, h => Den.same a.f h
  | .own xs, ⟨l, vs, e, h1, h2, h3, h4, h5⟩ => ⟨l, vs, e, a.h _ _ h1 h3, a.fnone h2 (by rw [h1]; simp), a.nm (by rw [h1]; simp) h3, h4, DenAll.same a.f h5⟩
  | .bor xs, .inl h => .inl (Den.same a.f h)
  | .bor xs, .inr ⟨l, vs, e, h1, h2, h3⟩ => .inr ⟨l, vs, e, h1, h2, DenAll.same a.f h3⟩
  | .st, ⟨p, e, h⟩ => ⟨p, e, a.m p h⟩
  | .bt t, ⟨h, o⟩ => ⟨h.sameF a.f, o⟩
  | .al _, h => h
  | .tr t, ⟨h, o, d⟩ => ⟨h.mono a.toLw fun q hq => (o q hq).2.2.1, fun q hq => let ⟨h1, h2, h3, h4⟩ := o q hq; ⟨fun z => h1 (a.dom q z), a.fnone h2 h1, a.nm h1 h3, h4⟩, d⟩
theorem Tre.writ {K : Frag} {w : Wd} {l : Addr} {us : List V} : ∀ {t : OT} {vs : List V}, Tre K w t vs -> l ∉ t.fp -> Tre K ⟨w.M, upd w.H l (.lst us), w.F⟩ t vs
  | .leaf _, _, h, _ => h
  | .nd _ p _, _, ⟨e, ys, h, k⟩, n => ⟨e, ys, by show upd w.H l _ p = _; rw [C3 (fun z => n (by simp [OT.fp, z]))]; exact h, Tre.writ k fun q => n (by simp [OT.fp, q])⟩
  | .nil, _, e, _ => e
  | .cons _ _, _, ⟨v, r, e, h, t⟩, n => ⟨v, r, e, Tre.writ h fun q => n (by simp [OT.fp, q]), Tre.writ t fun q => n (by simp [OT.fp, q])⟩
theorem VR.writ {c : Ct} {w : Wd} {v : V} {l : Addr} {us : List V} (hl : w.H l ≠ none) : ∀ {s : SV}, VR c w v s -> ¬ s.foot v l -> VR c ⟨w.M, upd w.H l (.lst us), w.F⟩ v s
  | .d _, h, _ => h
  | .own _, ⟨l', vs, e, k1, k2, k3, k4, k5⟩, n => ⟨l', vs, e, by show upd w.H l _ l' = _; rw [C3 (fun z => n (by rw [<- z]; exact e))]; exact k1, k2, k3, k4, k5⟩
  | .bor _, h, _ => h
  | .st, h, _ => h
  | .bt _, h, _ => h
  | .al _, h, _ => h
  | .tr _, ⟨h, o, d⟩, n => ⟨h.writ n, fun a ha => ⟨fun z => (o a ha).1 (B0i z), (o a ha).2⟩, d⟩
structure EnvOk (c : Ct) (w : Wd) (env : PEnv) (σ : St) : Prop where
  wok : w.Ok
  le0 : Le c.w0 w
  len : env.length = σ.length
  at' : ∀ (i : Nat) s, env[i]? = some (some s) -> ∃ v, σ[i]? = some (some v) /\ VR c w v s
  own : ∀ (i j : Nat) s t v u a, env[i]? = some (some s) -> env[j]? = some (some t) -> σ[i]? = some (some v) -> σ[j]? = some (some u) -> s.foot v a -> t.foot u a -> i = j
  zf : ∀ a, c.Z a -> w.F a = none /\ w.H a ≠ none /\ ¬ w.M a
  zo : ∀ a (j : Nat) t u, c.Z a -> env[j]? = some (some t) -> σ[j]? = some (some u) -> ¬ t.foot u a
def New (c : Ct) (env : PEnv) (σ : St) (v : V) (s : SV) : Prop := ∀ a, s.foot v a -> (∀ (j : Nat) t u, env[j]? = some (some t) -> σ[j]? = some (some u) -> ¬ t.foot u a) /\ ¬ c.Z a
theorem EnvOk.look {c : Ct} {w : Wd} {env : PEnv} {σ : St} (E : EnvOk c w env σ) {j : Nat} {t : SV} {u : V} (h : env[j]? = some (some t)) (hu : σ[j]? = some (some u)) : VR c w u t := by
  obtain ⟨v, h1, h2⟩ := E.at' j t h
  rw [hu] at h1; cases h1; exact h2
theorem EnvOk.fresh {c : Ct} {w : Wd} {env : PEnv} {σ : St} (E : EnvOk c w env σ) {p : Addr} (hp : w.H p = none) : (∀ (j : Nat) t u, env[j]? = some (some t) -> σ[j]? = some (some u) -> ¬ t.foot u p) /\ ¬ c.Z p :=
  ⟨fun _ _ _ h hu f => ((E.look h hu).foot f).1 hp, fun z => (E.zf p z).2.1 hp⟩
theorem Lw.hsome {w w' : Wd} (a : Lw w w') {l : Addr} (h : w.H l ≠ none) : w'.H l ≠ none := fun z => h (a.dom l z)
theorem EnvOk.mono {c : Ct} {w w' : Wd} {env : PEnv} {σ : St} (E : EnvOk c w env σ) (ok : w'.Ok) (a : Le w w') : EnvOk c w' env σ :=
  ⟨ok, E.le0.trans a, E.len, fun i s e => let ⟨v, h1, h2⟩ := E.at' i s e; ⟨v, h1, h2.mono a⟩, E.own, fun b z => let ⟨h1, h2, h3⟩ := E.zf b z; ⟨a.fnone h1 h2, a.hsome h2, a.nm h2 h3⟩, E.zo⟩
structure Res (c : Ct) (w : Wd) (env : PEnv) (σ : St) (w' : Wd) (v : V) (s : SV) : Prop where
  ev : EnvOk c w' env σ
  lw : Lw w w'
  val : VR c w' v s
  new : New c env σ v s
  res : s.isRes = true
theorem Res.data {c : Ct} {w : Wd} {env : PEnv} {σ : St} {v : V} {x : PyData} (E : EnvOk c w env σ) (h : Den c.K w.F v x) : Res c w env σ w v (.d x) :=
  ⟨E, Lw.refl w, h, fun _ e => (nomatch e), rfl⟩
def Wd.tup (w : Wd) (p : Addr) (o : HO) : Wd := ⟨w.M, upd w.H p o, upd w.F p o⟩
def Wd.lay (w : Wd) (p : Addr) (o : HO) : Wd := ⟨w.M, upd w.H p o, w.F⟩
theorem Wd.Ok.fnone {w : Wd} (o : w.Ok) {p : Addr} (h : w.H p = none) : w.F p = none := by
  cases q : w.F p with
  | none => rfl
  | some u => have := o.sub p u q; rw [h] at this; cases this
theorem Wd.Ok.mne {w : Wd} (o : w.Ok) {p q : Addr} (h : w.H p = none) (hq : w.M q) : q ≠ p := by
  obtain ⟨c, m, f, e, _⟩ := (o.st q hq).ex
  exact D0 e h
theorem M2 {H : Hpp} {p b : Addr} {o : HO} (h : upd H p o b = none) : H b = none := by
  unfold upd at h; split at h
  · cases h
  · exact h
theorem Wd.tup_ok {w : Wd} {p : Addr} {o : HO} (ok : w.Ok) (h : w.H p = none) : (w.tup p o).Ok :=
  ⟨fun b u e => by
    show upd w.H p o b = some u
    have e' : upd w.F p o b = some u := e
    unfold upd at e' ⊢
    split at e'
    · rename_i z; rw [if_pos z]; exact e'
    · rename_i z; rw [if_neg z]; exact ok.sub b u e',
   fun q hq => (ok.st q hq).same (Same.upd h), fun q hq => by
    show upd w.F p o q = none
    rw [C3 (ok.mne h hq)]; exact ok.nf q hq⟩
theorem Wd.lay_ok {w : Wd} {p : Addr} {o : HO} (ok : w.Ok) (h : w.H p = none) : (w.lay p o).Ok :=
  ⟨ok.sub.trans (Same.upd h), fun q hq => (ok.st q hq).same (Same.upd h), ok.nf⟩
theorem Wd.tup_le {w : Wd} {p : Addr} {o : HO} (ok : w.Ok) (h : w.H p = none) : Le w (w.tup p o) :=
  ⟨⟨Same.upd (ok.fnone h), fun b u e _ => Same.upd h b u e, fun _ z => z, fun _ z => .inl z, fun b z => M2 z⟩, fun a u e => by
    have e' : upd w.F p o a = some u := e
    unfold upd at e'
    split at e'
    · rename_i z; rw [z]; exact .inr h
    · exact .inl e'⟩
theorem Wd.lay_le {w : Wd} {p : Addr} {o : HO} (h : w.H p = none) : Le w (w.lay p o) :=
  ⟨⟨Same.refl _, fun b u e _ => Same.upd h b u e, fun _ z => z, fun _ z => .inl z, fun b z => M2 z⟩, fun a u e => .inl e⟩
theorem Res.tup {c : Ct} {w : Wd} {env : PEnv} {σ : St} {p : Addr} {vs : List V} {xs : List PyData} (E : EnvOk c w env σ) (h : w.H p = none) (hd : DenAll c.K w.F vs xs) : Res c w env σ (w.tup p (.tup vs)) (.ref p) (.d (.tuple xs)) :=
  ⟨E.mono (Wd.tup_ok E.wok h) (Wd.tup_le E.wok h), (Wd.tup_le E.wok h).toLw, .tup (SqT.of C7) (DenAll.same (Wd.tup_le E.wok h).f hd), fun _ e => (nomatch e), rfl⟩
theorem Res.lst {c : Ct} {w : Wd} {env : PEnv} {σ : St} {p : Addr} {vs : List V} {xs : List PyData} (E : EnvOk c w env σ) (h : w.H p = none) (hd : DenAll c.K w.F vs xs) : Res c w env σ (w.lay p (.lst vs)) (.ref p) (.own xs) :=
  ⟨E.mono (Wd.lay_ok E.wok h) (Wd.lay_le h), (Wd.lay_le h).toLw, ⟨p, vs, rfl, C7, E.wok.fnone h, fun z => E.wok.mne h z rfl, E.le0.dom p h, hd⟩,
   fun a f => (by
    have : V.ref p = .ref a := f
    cases this
    exact E.fresh h), rfl⟩
theorem Res.frz {c : Ct} {w w1 : Wd} {env : PEnv} {σ : St} {v : V} {xs : List PyData} (R : Res c w env σ w1 v (.own xs)) : ∃ w', w'.H = w1.H /\ EnvOk c w' env σ /\ Lw w w' /\ Den c.K w'.F v (.list xs) := by
  obtain ⟨E, lw, ⟨l, vs, e, h1, h2, h3, h4, h5⟩, new, _⟩ := R
  subst e
  obtain ⟨n1, n2⟩ := new l rfl
  have up : Same w1.F (upd w1.F l (.lst vs)) := Same.upd h2
  have lw' : Lw w1 ⟨w1.M, w1.H, upd w1.F l (.lst vs)⟩ := ⟨up, fun _ _ h _ => h, fun _ h => h, fun _ h => .inl h, fun _ h => h⟩
  refine ⟨⟨w1.M, w1.H, upd w1.F l (.lst vs)⟩, rfl, ⟨⟨fun b u q => ?_, E.wok.st, fun p hp => ?_⟩, ⟨E.le0.toLw.trans lw', fun a u q => ?_⟩, E.len, fun i s q => ?_, E.own, fun a za => ?_, E.zo⟩, lw.trans lw', .lst (SqL.of C7) (DenAll.same up h5)⟩
  · have q' : upd w1.F l (.lst vs) b = some u := q
    unfold upd at q'
    split at q'
    · rename_i z; rw [z]; exact h1.trans q'
    · exact E.wok.sub b u q'
  · show upd w1.F l (.lst vs) p = none
    rw [C3 (fun z => h3 (by rw [<- z]; exact hp))]; exact E.wok.nf p hp
  · have q' : upd w1.F l (.lst vs) a = some u := q
    unfold upd at q'
    split at q'
    · rename_i z; rw [z]; exact .inr h4
    · exact E.le0.n a u q'
  · obtain ⟨v, g1, g2⟩ := E.at' i s q
    refine ⟨v, g1, ?_⟩
    cases s with
    | d x => exact Den.same up g2
    | own ys =>
      obtain ⟨l', us, e', k1, k2, k3, k4, k5⟩ := g2
      subst e'
      refine ⟨l', us, rfl, k1, ?_, k3, k4, DenAll.same up k5⟩
      show upd w1.F l (.lst vs) l' = none
      rw [C3 (fun z => n1 i _ _ q g1 (by subst z; rfl))]; exact k2
    | bor ys =>
      rcases g2 with g | ⟨l', us, e', k1, k2, k3⟩
      · exact .inl (Den.same up g)
      · exact .inr ⟨l', us, e', k1, k2, DenAll.same up k3⟩
    | st => exact g2
    | bt t => exact ⟨g2.1.sameF up, g2.2⟩
    | al a => exact g2
    | tr t =>
      obtain ⟨k1, k2, k3⟩ := g2
      refine ⟨k1.mono lw' fun p hp => (k2 p hp).2.2.1, fun p hp => ⟨(k2 p hp).1, ?_, (k2 p hp).2.2⟩, k3⟩
      show upd w1.F l (.lst vs) p = none
      rw [C3 (fun z => n1 i _ _ q g1 (by subst z; exact hp))]; exact (k2 p hp).2.1
  · obtain ⟨z1, z2, z3⟩ := E.zf a za
    refine ⟨?_, z2, z3⟩
    show upd w1.F l (.lst vs) a = none
    rw [C3 (fun z => n2 (by subst z; exact za))]; exact z1
theorem EnvOk.set {c : Ct} {w : Wd} {env : PEnv} {σ : St} {v : V} {s : SV} {i : Nat} (E : EnvOk c w env σ) (h : VR c w v s) (new : New c env σ v s) :
    EnvOk c w (env.set i (some s)) (σ.set i (some v)) := by
  have hl := E.len
  have hd : ∀ {j : Nat} {t : SV} {u : V}, (env.set i (some s))[j]? = some (some t) -> (σ.set i (some v))[j]? = some (some u) -> (i = j /\ t = s /\ u = v) \/ (i ≠ j /\ env[j]? = some (some t) /\ σ[j]? = some (some u)) := by
    intro j t u q q'
    rw [List.getElem?_set] at q q'
    by_cases e : i = j
    · subst e
      rw [if_pos rfl] at q q'
      split at q
      · rename_i z
        rw [if_pos (by omega)] at q'
        cases q; cases q'; exact .inl ⟨rfl, rfl, rfl⟩
      · cases q
    · rw [if_neg e] at q q'
      exact .inr ⟨e, q, q'⟩
  refine ⟨E.wok, E.le0, by simpa using hl, fun j t q => ?_, fun j k s1 t1 v1 u1 a q1 q2 q3 q4 f1 f2 => ?_, E.zf, fun a j t u za q q' => ?_⟩
  · rw [List.getElem?_set] at q ⊢
    by_cases e : i = j
    · subst e
      rw [if_pos rfl] at q ⊢
      split at q
      · rename_i z
        rw [if_pos (by omega)]
        cases q
        exact ⟨v, rfl, h⟩
      · cases q
    · rw [if_neg e] at q ⊢
      exact E.at' j t q
  · rcases hd q1 q3 with ⟨e1, rfl, rfl⟩ | ⟨e1, p1, p3⟩
    · rcases hd q2 q4 with ⟨e2, rfl, rfl⟩ | ⟨e2, q2, q4⟩
      · exact e1.symm.trans e2
      · exact absurd f2 ((new a f1).1 k _ _ q2 q4)
    · rcases hd q2 q4 with ⟨e2, rfl, rfl⟩ | ⟨e2, p2, p4⟩
      · exact absurd f1 ((new a f2).1 j _ _ p1 p3)
      · exact E.own j k _ _ _ _ a p1 p2 p3 p4 f1 f2
  · rcases hd q q' with ⟨_, rfl, rfl⟩ | ⟨_, q, q'⟩
    · exact fun f => (new a f).2 za
    · exact E.zo a j t u za q q'
end Pu
namespace Pu
open PySem L2 My Prf
abbrev PX := PEnv -> (SV -> PEnv -> Prop) -> Prop
abbrev PDt := PEnv -> (PyData -> PEnv -> Prop) -> Prop
abbrev PTt := PEnv -> (Bool -> PEnv -> Prop) -> Prop
abbrev PAr := PEnv -> (List PyData -> PEnv -> Prop) -> Prop
abbrev PAs := PEnv -> (List SV -> PEnv -> Prop) -> Prop
theorem Res.pre {c : Ct} {w w1 w2 : Wd} {env : PEnv} {σ : St} {v : V} {s : SV} (a : Lw w w1) (R : Res c w1 env σ w2 v s) : Res c w env σ w2 v s := ⟨R.ev, a.trans R.lw, R.val, R.new, R.res⟩
class RE (K : Frag) (te : TE) (pe : outParam PX) : Prop where
  ok : ∀ (c : Ct) (w : Wd) (env : PEnv) (σ : St) (Qp : SV -> PEnv -> Prop) (Q : VK), c.K = K -> EnvOk c w env σ -> pe env Qp -> (∀ v s env' w', Res c w env' σ w' v s -> Qp s env' -> Q v w'.H) -> te σ w.H Q
class RD (K : Frag) (te : TE) (pd : outParam PDt) : Prop where
  ok : ∀ (c : Ct) (w : Wd) (env : PEnv) (σ : St) (Qp : PyData -> PEnv -> Prop) (Q : VK), c.K = K -> EnvOk c w env σ -> pd env Qp -> (∀ v x env' w', EnvOk c w' env' σ -> Lw w w' -> Den K w'.F v x -> Qp x env' -> Q v w'.H) -> te σ w.H Q
class RW (K : Frag) (te : TE) (pd : outParam PDt) : Prop where
  ok : ∀ (c : Ct) (w : Wd) (env : PEnv) (σ : St) (Qp : PyData -> PEnv -> Prop) (Q : VK), c.K = K -> EnvOk c w env σ -> pd env Qp -> (∀ v x env' w', EnvOk c w' env' σ -> Lw w w' -> VV K w' v x -> Qp x env' -> Q v w'.H) -> te σ w.H Q
def SV.asD (s : SV) (k : PyData -> Prop) : Prop := match s with
  | .d x => k x
  | .own xs => k (.list xs)
  | _ => False
def pdat (pe : PX) (env : PEnv) (Q : PyData -> PEnv -> Prop) : Prop := pe env fun s e => s.asD fun x => Q x e
instance rd_of {K : Frag} {te : TE} {pe : PX} [h : RE K te pe] : RD K te (pdat pe) where
  ok := by
    rintro c w env σ Qp Q rfl E p k
    refine h.ok c w env σ _ Q rfl E p fun v s env' w' R q => ?_
    cases s with
    | d x => exact k v x env' w' R.ev R.lw R.val q
    | own xs =>
      obtain ⟨w2, e, E2, l2, d2⟩ := R.frz
      rw [<- e]
      exact k v _ env' w2 E2 l2 d2 q
    | bor xs => exact (show False from q).elim
    | st => exact (show False from q).elim
    | tr t => exact (show False from q).elim
    | bt t => exact (show False from q).elim
    | al t => exact (show False from q).elim
instance (priority := low) rw_of {K : Frag} {te : TE} {pd : PDt} [h : RD K te pd] : RW K te pd where
  ok := fun c w env σ Qp Q e E p k => h.ok c w env σ Qp Q e E p fun v x env' w' E' l d q => k v x env' w' E' l (.inl d) q
def pVar (i : Nat) (env : PEnv) (Q : SV -> PEnv -> Prop) : Prop := match env[i]? with
  | some (some (.d x)) => Q (.d x) env
  | some (some (.own xs)) => Q (.d (.list xs)) (env.set i (some (.d (.list xs))))
  | some (some .st) => Q .st env
  | _ => False
def B5g (i : Nat) (env : PEnv) (Q : PyData -> PEnv -> Prop) : Prop := match env[i]? with
  | some (some (.d x)) => Q x env
  | some (some (.own xs)) => Q (.list xs) env
  | some (some (.bor xs)) => Q (.list xs) env
  | _ => False
theorem EnvOk.frz {c : Ct} {w : Wd} {env : PEnv} {σ : St} {i : Nat} {xs : List PyData} (E : EnvOk c w env σ) (h : env[i]? = some (some (.own xs))) :
    ∃ w' v, w'.H = w.H /\ σ[i]? = some (some v) /\ EnvOk c w' (env.set i (some (.d (.list xs)))) σ /\ Lw w w' /\ Den c.K w'.F v (.list xs) := by
  obtain ⟨v, hv, hV⟩ := E.at' i _ h
  have hV' := hV
  obtain ⟨l, vs, e, h1, h2, h3, h4, h5⟩ := hV'
  have up : ∀ {j : Nat} {t : SV}, (env.set i none)[j]? = some (some t) -> i ≠ j /\ env[j]? = some (some t) := by
    intro j t q
    rw [List.getElem?_set] at q
    split at q
    · split at q <;> cases q
    · rename_i z; exact ⟨z, q⟩
  have E' : EnvOk c w (env.set i none) σ := ⟨E.wok, E.le0, by simpa using E.len, fun j s q => E.at' j s (up q).2, fun j k s t v u a q1 q2 => E.own j k s t v u a (up q1).2 (up q2).2, E.zf, fun a j t u za q => E.zo a j t u za (up q).2⟩
  have R : Res c w (env.set i none) σ w v (.own xs) := ⟨E', Lw.refl w, hV, fun a f => ⟨fun j t u q z g => (up q).1 (E.own i j _ _ _ _ a h (up q).2 hv z f g), fun za => E.zo a i _ _ za h hv f⟩, rfl⟩
  obtain ⟨w', e', E2, l2, d2⟩ := R.frz
  refine ⟨w', v, e', hv, ?_, l2, d2⟩
  have E3 := E2.set (i := i) (v := v) (s := .d (.list xs)) d2 (fun _ z => nomatch z)
  rw [List.set_set] at E3
  have hi : i < σ.length := (List.getElem?_eq_some_iff.mp hv).1
  rwa [show σ.set i (some v) = σ by
    refine List.ext_getElem? fun j => ?_
    rw [List.getElem?_set]
    split
    · rename_i z; subst z; simp [hv]
    · rfl] at E3
instance re_var {K : Frag} {i : Nat} : RE K (tVar i) (pVar i) where
  ok := by
    rintro c w env σ Qp Q rfl E p k
    unfold pVar at p
    split at p
    · rename_i x e
      obtain ⟨v, h1, h2⟩ := E.at' i _ e
      exact ⟨v, h1, k v _ env w (Res.data E h2) p⟩
    · rename_i xs e
      obtain ⟨w', v, e', hv, E', l, d⟩ := E.frz e
      refine ⟨v, hv, ?_⟩
      rw [<- e']
      exact k v (.d (.list xs)) _ w' ⟨E', l, d, fun _ z => (nomatch z), rfl⟩ p
    · rename_i e
      obtain ⟨v, h1, h2⟩ := E.at' i _ e
      exact ⟨v, h1, k v _ env w ⟨E, Lw.refl w, h2, fun _ z => (nomatch z), rfl⟩ p⟩
    · exact p.elim
theorem VR.vv {c : Ct} {w : Wd} {v : V} {xs : List PyData} (l : Le c.w0 w) (h : VR c w v (.bor xs)) : VV c.K w v (.list xs) := by
  rcases h with h | ⟨l', vs, e, h1, h2, h3⟩
  · exact .inl h
  · exact .inr ⟨l', vs, xs, e, rfl, l.h _ _ h1 h2, l.nm (by rw [h1]; simp) h2, h3⟩
instance rw_var {K : Frag} {i : Nat} : RW K (tVar i) (B5g i) where
  ok := by
    rintro c w env σ Qp Q rfl E p k
    unfold B5g at p
    split at p
    · rename_i x e
      obtain ⟨v, h1, h2⟩ := E.at' i _ e
      exact ⟨v, h1, k v _ env w E (Lw.refl w) (.inl h2) p⟩
    · rename_i xs e
      obtain ⟨v, h1, l, vs, e', g1, g2, g3, g4, g5⟩ := E.at' i _ e
      exact ⟨v, h1, k v _ env w E (Lw.refl w) (.inr ⟨l, vs, xs, e', rfl, g1, g3, g5⟩) p⟩
    · rename_i xs e
      obtain ⟨v, h1, h2⟩ := E.at' i _ e
      exact ⟨v, h1, k v _ env w E (Lw.refl w) (h2.vv E.le0) p⟩
    · exact p.elim
def pC (x : PyData) (env : PEnv) (Q : SV -> PEnv -> Prop) : Prop := Q (.d x) env
theorem Z4 {K : Frag} {v : V} {x : PyData} (h : ∀ F, Den K F v x) : RE K (tC v) (pC x) where
  ok := by
    rintro c w env σ Qp Q rfl E p k
    exact k _ _ env w (Res.data E (h _)) p
instance re_int {K : Frag} {i : Int} : RE K (tC (.int i)) (pC (.int i)) := Z4 fun _ => .int i
instance re_bl {K : Frag} {b : Bool} : RE K (tC (.bl b)) (pC (.bool b)) := Z4 fun _ => .bl b
instance re_non {K : Frag} : RE K (tC .non) (pC .none) := Z4 fun _ => .non
class RO (K : Frag) (r : R2) (pr : outParam (PyData -> PyData -> (SV -> Prop) -> Prop)) : Prop where
  ok : ∀ (c : Ct) (w : Wd) (env : PEnv) (σ : St) (x y : V) (dx dy : PyData) (Qp : SV -> Prop) (Q : VK), c.K = K -> EnvOk c w env σ -> VV K w x dx -> VV K w y dy -> pr dx dy Qp -> (∀ v s w', Res c w env σ w' v s -> Qp s -> Q v w'.H) -> r x y w.H Q
def pOp (pr : PyData -> PyData -> (SV -> Prop) -> Prop) (pa pb : PDt) (env : PEnv) (Q : SV -> PEnv -> Prop) : Prop := pa env fun x e1 => pb e1 fun y e2 => pr x y fun s => Q s e2
instance re_op {K : Frag} {r : R2} {ta tb : TE} {pr : PyData -> PyData -> (SV -> Prop) -> Prop} {pa pb : PDt} [h : RO K r pr] [ha : RW K ta pa] [hb : RW K tb pb] : RE K (tOp r ta tb) (pOp pr pa pb) where
  ok := by
    rintro c w env σ Qp Q rfl E p k
    refine ha.ok c w env σ _ _ rfl E p fun x dx e1 w1 E1 l1 v1 q1 => ?_
    refine hb.ok c w1 e1 σ _ _ rfl E1 q1 fun y dy e2 w2 E2 l2 v2 q2 => ?_
    exact h.ok c w2 e2 σ x y dx dy _ _ rfl E2 (v1.mono l2) v2 q2 fun v s w' R q => k v s e2 w' (R.pre (l1.trans l2)) q
class SG (g : Int -> Int -> V) (gd : outParam (Int -> Int -> PyData)) : Prop where
  ok : ∀ i j K F, Den K F (g i j) (gd i j)
instance sg_int {f : Int -> Int -> Int} : SG (fun i j => .int (f i j)) (fun i j => .int (f i j)) := ⟨fun _ _ _ _ => .int _⟩
instance sg_bl {f : Int -> Int -> Bool} : SG (fun i j => .bl (f i j)) (fun i j => .bool (f i j)) := ⟨fun _ _ _ _ => .bl _⟩
def pI (C : Int -> Int -> Prop) (gd : Int -> Int -> PyData) (x y : PyData) (Q : SV -> Prop) : Prop := match x, y with
  | .int i, .int j => C i j /\ Q (.d (gd i j))
  | _, _ => False
def pI0 (gd : Int -> Int -> PyData) (x y : PyData) (Q : SV -> Prop) : Prop := match x, y with
  | .int i, .int j => Q (.d (gd i j))
  | _, _ => False
theorem VV.intE {K : Frag} {w : Wd} {v : V} {i : Int} (h : VV K w v (.int i)) : v = .int i := by
  rcases h with h | ⟨l, vs, xs, e, e', _⟩
  · exact h.intE
  · cases e'
theorem VV.blE {K : Frag} {w : Wd} {v : V} {b : Bool} (h : VV K w v (.bool b)) : v = .bl b := by
  rcases h with h | ⟨l, vs, xs, e, e', _⟩
  · exact h.blE
  · cases e'
instance ro_I {K : Frag} {C : Int -> Int -> Prop} {g : Int -> Int -> V} {gd : Int -> Int -> PyData} [s : SG g gd] : RO K (rI C g) (pI C gd) where
  ok := by
    rintro c w env σ x y dx dy Qp Q rfl E vx vy p k
    unfold pI at p
    split at p
    · rename_i i j
      exact ⟨i, j, vx.intE, vy.intE, p.1, k _ _ w (Res.data E (s.ok i j _ _)) p.2⟩
    · exact p.elim
instance ro_I0 {K : Frag} {g : Int -> Int -> V} {gd : Int -> Int -> PyData} [s : SG g gd] : RO K (rI0 g) (pI0 gd) where
  ok := by
    rintro c w env σ x y dx dy Qp Q rfl E vx vy p k
    unfold pI0 at p
    split at p
    · rename_i i j
      exact ⟨i, j, vx.intE, vy.intE, k _ _ w (Res.data E (s.ok i j _ _)) p⟩
    · exact p.elim
def pEqD (x y : PyData) (Q : SV -> Prop) : Prop := x.canLay0 = true /\ y.canLay0 = true /\ x.depth <= 60 /\ Q (.d (.bool (PyData.eqv x y)))
def pNeD (x y : PyData) (Q : SV -> Prop) : Prop := x.canLay0 = true /\ y.canLay0 = true /\ x.depth <= 60 /\ Q (.d (.bool (!PyData.eqv x y)))
def isNo : PyData -> Bool
  | .none => true
  | _ => false
def rIsN : R2 := fun x y H Q => y = .non /\ Q (.bl (decide (x = .non))) H
def B65 : R2 := fun x y H Q => y = .non /\ Q (.bl (!decide (x = .non))) H
theorem A7g {X : Cx} : OpR X (compareOp .Is) rIsN := B8m
theorem B02 {X : Cx} : OpR X (compareOp .IsNot) B65 := B5x
theorem Den.no {K : Frag} {F : Hpp} {v : V} {x : PyData} (h : Den K F v x) : decide (v = .non) = isNo x := by cases h <;> rfl
theorem VV.no {K : Frag} {w : Wd} {v : V} {x : PyData} (h : VV K w v x) : decide (v = .non) = isNo x := by
  rcases h with h | ⟨l, vs, xs, e, e', _⟩
  · exact Den.no h
  · subst e; subst e'; rfl
def pIsN (x y : PyData) (Q : SV -> Prop) : Prop := y = .none /\ Q (.d (.bool (isNo x)))
def B5n (x y : PyData) (Q : SV -> Prop) : Prop := y = .none /\ Q (.d (.bool (!isNo x)))
theorem VV.nonE {K : Frag} {w : Wd} {v : V} (h : VV K w v .none) : v = .non := by
  rcases h with h | ⟨l, vs, xs, e, e', _⟩
  · exact h.nonE
  · cases e'
instance ro_isN {K : Frag} : RO K rIsN pIsN where
  ok := by
    rintro c w env σ x y dx dy Qp Q rfl E vx vy ⟨rfl, p⟩ k
    refine ⟨vy.nonE, k _ _ w (Res.data E ?_) p⟩
    rw [vx.no]; exact .bl _
instance ro_notN {K : Frag} : RO K B65 B5n where
  ok := by
    rintro c w env σ x y dx dy Qp Q rfl E vx vy ⟨rfl, p⟩ k
    refine ⟨vy.nonE, k _ _ w (Res.data E ?_) p⟩
    rw [vx.no]; exact .bl _
def pGet (xs : List PyData) (i : Int) (Q : SV -> Prop) : Prop := match atI xs i with
  | some z => Q (.d z)
  | none => False
def pIx (x y : PyData) (Q : SV -> Prop) : Prop := match x, y with
  | .list xs, .int i => pGet xs i Q
  | .tuple xs, .int i => pGet xs i Q
  | _, _ => False
theorem VV.lst {K : Frag} {w : Wd} {v : V} {xs : List PyData} (o : w.Ok) (h : VV K w v (.list xs)) : ∃ a vs, v = .ref a /\ SqL K w.H a vs /\ DenAll K w.F vs xs := by
  rcases h with h | ⟨l, vs, ys, e, e', h1, h2, h3⟩
  · obtain ⟨a, vs, e, h1, h2⟩ := h.lstE
    exact ⟨a, vs, e, o.sub.seq h1, h2⟩
  · cases e'; exact ⟨l, vs, e, SqL.of h1, h3⟩
theorem VV.tup {K : Frag} {w : Wd} {v : V} {xs : List PyData} (o : w.Ok) (h : VV K w v (.tuple xs)) : ∃ a vs, v = .ref a /\ SqT K w.H a vs /\ DenAll K w.F vs xs := by
  rcases h with h | ⟨l, vs, ys, e, e', h1, h2, h3⟩
  · obtain ⟨a, vs, e, h1, h2⟩ := h.tupE
    exact ⟨a, vs, e, SqT.same o.sub h1, h2⟩
  · cases e'
instance ro_ix {K : Frag} : RO K (rIx K) pIx where
  ok := by
    rintro c w env σ x y dx dy Qp Q rfl E vx vy p k
    unfold pIx at p
    split at p
    · rename_i xs i
      unfold pGet at p
      split at p
      · rename_i z hz
        obtain ⟨a, vs, e, h1, h2⟩ := vx.lst E.wok
        obtain ⟨v, g1, g2⟩ := h2.atIE hz
        exact .inl ⟨a, vs, i, v, e, vy.intE, h1, g1, k _ _ w (Res.data E g2) p⟩
      · exact p.elim
    · rename_i xs i
      unfold pGet at p
      split at p
      · rename_i z hz
        obtain ⟨a, vs, e, h1, h2⟩ := vx.tup E.wok
        obtain ⟨v, g1, g2⟩ := h2.atIE hz
        exact .inr (.inl ⟨a, vs, i, v, e, vy.intE, h1, g1, k _ _ w (Res.data E g2) p⟩)
      · exact p.elim
    · exact p.elim
theorem A4 {X : Cx} {K : Frag} (h : X.K = K) : IxR X (rIx K) := by subst h; exact B9a
def pU (gd : Int -> PyData) (x : PyData) (Q : SV -> Prop) : Prop := match x with
  | .int i => Q (.d (gd i))
  | _ => False
def pUn (f : PyData -> (SV -> Prop) -> Prop) (pa : PDt) (env : PEnv) (Q : SV -> PEnv -> Prop) : Prop := pa env fun x e => f x fun s => Q s e
instance re_neg {K : Frag} {ta : TE} {pa : PDt} {f : Int -> Int} [ha : RW K ta pa] : RE K (tUn (rU fun i => .int (f i)) ta) (pUn (pU fun i => .int (f i)) pa) where
  ok := by
    rintro c w env σ Qp Q rfl E p k
    refine ha.ok c w env σ _ _ rfl E p fun x dx e1 w1 E1 l1 v1 q1 => ?_
    unfold pU at q1
    split at q1
    · rename_i i
      exact ⟨i, v1.intE, k _ _ e1 w1 ((Res.data E1 (.int _)).pre l1) q1⟩
    · exact q1.elim
inductive VVs (K : Frag) (w : Wd) : List V -> List PyData -> Prop
  | nil : VVs K w [] []
  | cons {v : V} {x : PyData} {vs : List V} {xs : List PyData} : VV K w v x -> VVs K w vs xs -> VVs K w (v :: vs) (x :: xs)
class RAv (K : Frag) (ta : TA) (pa : outParam PAr) : Prop where
  ok : ∀ (c : Ct) (w : Wd) (env : PEnv) (σ : St) (Qp : List PyData -> PEnv -> Prop) (Q : List V -> Hpp -> Prop), c.K = K -> EnvOk c w env σ -> pa env Qp -> (∀ vs xs env' w', EnvOk c w' env' σ -> Lw w w' -> VVs K w' vs xs -> Qp xs env' -> Q vs w'.H) -> ta σ w.H Q
class RAd (K : Frag) (ta : TA) (pa : outParam PAr) : Prop where
  ok : ∀ (c : Ct) (w : Wd) (env : PEnv) (σ : St) (Qp : List PyData -> PEnv -> Prop) (Q : List V -> Hpp -> Prop), c.K = K -> EnvOk c w env σ -> pa env Qp -> (∀ vs xs env' w', EnvOk c w' env' σ -> Lw w w' -> DenAll K w'.F vs xs -> Qp xs env' -> Q vs w'.H) -> ta σ w.H Q
def pNil (env : PEnv) (Q : List PyData -> PEnv -> Prop) : Prop := Q [] env
def B0z (pa : PDt) (pr : PAr) (env : PEnv) (Q : List PyData -> PEnv -> Prop) : Prop := pa env fun x e1 => pr e1 fun xs e2 => Q (x :: xs) e2
instance rav_nil {K : Frag} : RAv K tNil pNil := ⟨fun c w env σ Qp Q _ E p k => k [] [] env w E (Lw.refl w) .nil p⟩
instance rad_nil {K : Frag} : RAd K tNil pNil := ⟨fun c w env σ Qp Q _ E p k => k [] [] env w E (Lw.refl w) .nil p⟩
instance rav_cons {K : Frag} {ta : TE} {tr : TA} {pa : PDt} {pr : PAr} [ha : RW K ta pa] [hr : RAv K tr pr] : RAv K (G5 ta tr) (B0z pa pr) where
  ok := by
    rintro c w env σ Qp Q rfl E p k
    refine ha.ok c w env σ _ _ rfl E p fun x dx e1 w1 E1 l1 v1 q1 => ?_
    refine hr.ok c w1 e1 σ _ _ rfl E1 q1 fun vs xs e2 w2 E2 l2 v2 q2 => ?_
    exact k _ _ e2 w2 E2 (l1.trans l2) (.cons (v1.mono l2) v2) q2
instance rad_cons {K : Frag} {ta : TE} {tr : TA} {pa : PDt} {pr : PAr} [ha : RD K ta pa] [hr : RAd K tr pr] : RAd K (G5 ta tr) (B0z pa pr) where
  ok := by
    rintro c w env σ Qp Q rfl E p k
    refine ha.ok c w env σ _ _ rfl E p fun x dx e1 w1 E1 l1 v1 q1 => ?_
    refine hr.ok c w1 e1 σ _ _ rfl E1 q1 fun vs xs e2 w2 E2 l2 v2 q2 => ?_
    exact k _ _ e2 w2 E2 (l1.trans l2) (.cons (Den.same l2.f v1) v2) q2
def pTup (pa : PAr) (env : PEnv) (Q : SV -> PEnv -> Prop) : Prop := pa env fun xs e => xs.length <= 1000 /\ Q (.d (.tuple xs)) e
def pLst (pa : PAr) (env : PEnv) (Q : SV -> PEnv -> Prop) : Prop := pa env fun xs e => xs.length <= 1000 /\ Q (.own xs) e
instance re_tup {K : Frag} {ta : TA} {pa : PAr} [ha : RAd K ta pa] : RE K (tTup ta) (pTup pa) where
  ok := by
    rintro c w env σ Qp Q rfl E p k
    refine ha.ok c w env σ _ _ rfl E p fun vs xs e1 w1 E1 l1 v1 q1 => ⟨?_, fun p hp => ?_⟩
    · rw [v1.len]; exact Nat.le_of_lt (S2 q1.1)
    · exact k _ _ e1 _ ((Res.tup E1 hp v1).pre l1) q1.2
instance re_lst {K : Frag} {ta : TA} {pa : PAr} [ha : RAd K ta pa] : RE K (tLst ta) (pLst pa) where
  ok := by
    rintro c w env σ Qp Q rfl E p k
    refine ha.ok c w env σ _ _ rfl E p fun vs xs e1 w1 E1 l1 v1 q1 => ⟨?_, fun p hp => ?_⟩
    · rw [v1.len]; exact Nat.le_of_lt (S2 q1.1)
    · exact k _ _ e1 _ ((Res.lst E1 hp v1).pre l1) q1.2
class RB (K : Frag) (r : List V -> Hpp -> VK -> Prop) (pr : outParam (List PyData -> (SV -> Prop) -> Prop)) : Prop where
  ok : ∀ (c : Ct) (w : Wd) (env : PEnv) (σ : St) (vs : List V) (xs : List PyData) (Qp : SV -> Prop) (Q : VK), c.K = K -> EnvOk c w env σ -> VVs K w vs xs -> pr xs Qp -> (∀ v s w', Res c w env σ w' v s -> Qp s -> Q v w'.H) -> r vs w.H Q
def pCB (pr : List PyData -> (SV -> Prop) -> Prop) (pa : PAr) (env : PEnv) (Q : SV -> PEnv -> Prop) : Prop := pa env fun xs e => pr xs fun s => Q s e
instance re_cb {K : Frag} {r : List V -> Hpp -> VK -> Prop} {ta : TA} {pr : List PyData -> (SV -> Prop) -> Prop} {pa : PAr} [h : RB K r pr] [ha : RAv K ta pa] : RE K (tCB r ta) (pCB pr pa) where
  ok := by
    rintro c w env σ Qp Q rfl E p k
    refine ha.ok c w env σ _ _ rfl E p fun vs xs e1 w1 E1 l1 v1 q1 => ?_
    exact h.ok c w1 e1 σ vs xs _ _ rfl E1 v1 q1 fun v s w' R q => k v s e1 w' (R.pre l1) q
def rAbs : List V -> Hpp -> VK -> Prop := fun xs H Q => ∃ i, xs = [.int i] /\ Q (.int (if i < 0 then -i else i)) H
def rMax : List V -> Hpp -> VK -> Prop := fun xs H Q => ∃ i j, xs = [.int i, .int j] /\ Q (.int (if j > i then j else i)) H
def rMin : List V -> Hpp -> VK -> Prop := fun xs H Q => ∃ i j, xs = [.int i, .int j] /\ Q (.int (if j < i then j else i)) H
def rInt : List V -> Hpp -> VK -> Prop := fun xs H Q => (∃ i, xs = [.int i] /\ Q (.int i) H) \/ ∃ k, xs = [.bl k] /\ Q (.int (if k then 1 else 0)) H
def B1z (K : Frag) : List V -> Hpp -> VK -> Prop := fun xs H Q => ∃ p ys, xs = [.ref p] /\ (SqL K H p ys \/ SqT K H p ys) /\ ∀ l, H l = none -> Q (.ref l) (upd H l (.lst ys))
def rIsi (K : Frag) : List V -> Hpp -> VK -> Prop := fun xs H Q => ∃ x c T b, xs = [x, .ty c] /\ TyV K H x T /\ kitB T c = some b /\ Q (.bl b) H
section
variable {X : Cx}
theorem A1n : CallR X (.builtin "abs") rAbs := B1h
theorem A93 (hc : X.calm = true) : CallR X (.builtin "max") rMax := A94 hc
theorem A91 (hc : X.calm = true) : CallR X (.builtin "min") rMin := A92 hc
theorem A1l : CallR X (.type "int") rInt := A1m
theorem O7 {K : Frag} (h : X.K = K) : CallR X (.type "list") (B1z K) := by subst h; exact A1j
theorem V6 {K : Frag} (h : X.K = K) : CallR X (.builtin "isinstance") (rIsi K) := by subst h; exact A2q
end
def pLen (xs : List PyData) (Q : SV -> Prop) : Prop := match xs with
  | [.list ys] => Q (.d (.int ys.length))
  | [.tuple ys] => Q (.d (.int ys.length))
  | _ => False
def pAbs (xs : List PyData) (Q : SV -> Prop) : Prop := match xs with
  | [.int i] => Q (.d (.int (if i < 0 then -i else i)))
  | _ => False
def pMax (xs : List PyData) (Q : SV -> Prop) : Prop := match xs with
  | [.int i, .int j] => Q (.d (.int (if j > i then j else i)))
  | _ => False
def pMin (xs : List PyData) (Q : SV -> Prop) : Prop := match xs with
  | [.int i, .int j] => Q (.d (.int (if j < i then j else i)))
  | _ => False
def pInt (xs : List PyData) (Q : SV -> Prop) : Prop := match xs with
  | [.int i] => Q (.d (.int i))
  | [.bool k] => Q (.d (.int (if k then 1 else 0)))
  | _ => False
def A3m (xs : List PyData) (Q : SV -> Prop) : Prop := match xs with
  | [.list ys] => Q (.own ys)
  | [.tuple ys] => Q (.own ys)
  | _ => False
instance rb_abs {K : Frag} : RB K rAbs pAbs where
  ok := by
    rintro c w env σ vs xs Qp Q rfl E vv p k
    unfold pAbs at p
    split at p
    · cases vv with | cons h t => cases t; exact ⟨_, by rw [h.intE], k _ _ w (Res.data E (.int _)) p⟩
    · exact p.elim
instance rb_max {K : Frag} : RB K rMax pMax where
  ok := by
    rintro c w env σ vs xs Qp Q rfl E vv p k
    unfold pMax at p
    split at p
    · cases vv with | cons h t => cases t with | cons h' t => cases t; exact ⟨_, _, by rw [h.intE, h'.intE], k _ _ w (Res.data E (.int _)) p⟩
    · exact p.elim
instance rb_min {K : Frag} : RB K rMin pMin where
  ok := by
    rintro c w env σ vs xs Qp Q rfl E vv p k
    unfold pMin at p
    split at p
    · cases vv with | cons h t => cases t with | cons h' t => cases t; exact ⟨_, _, by rw [h.intE, h'.intE], k _ _ w (Res.data E (.int _)) p⟩
    · exact p.elim
instance rb_int {K : Frag} : RB K rInt pInt where
  ok := by
    rintro c w env σ vs xs Qp Q rfl E vv p k
    unfold pInt at p
    split at p
    · cases vv with | cons h t => cases t; exact .inl ⟨_, by rw [h.intE], k _ _ w (Res.data E (.int _)) p⟩
    · cases vv with | cons h t => cases t; exact .inr ⟨_, by rw [h.blE], k _ _ w (Res.data E (.int _)) p⟩
    · exact p.elim
instance rb_lst {K : Frag} : RB K (B1z K) A3m where
  ok := by
    rintro c w env σ vs xs Qp Q rfl E vv p k
    unfold A3m at p
    split at p
    · cases vv with | cons h t => cases t; obtain ⟨a, us, e, h1, h2⟩ := h.lst E.wok; exact ⟨a, us, by rw [e], .inl h1, fun l hl => k _ _ _ (Res.lst E hl h2) p⟩
    · cases vv with | cons h t => cases t; obtain ⟨a, us, e, h1, h2⟩ := h.tup E.wok; exact ⟨a, us, by rw [e], .inr h1, fun l hl => k _ _ _ (Res.lst E hl h2) p⟩
    · exact p.elim
def tyD : PyData -> String
  | .none => "NoneType"
  | .bool _ => "bool"
  | .int _ => "int"
  | .str _ => "str"
  | .list _ => "list"
  | .tuple _ => "tuple"
  | .dict _ => "dict"
theorem Den.ty {K : Frag} {H : Hpp} {v : V} {x : PyData} (h : Den K H v x) : TyV K H v (tyD x) := by
  cases h with
  | non => rfl
  | bl => rfl
  | int => rfl
  | str => rfl
  | lst h _ => exact .inl ⟨rfl, _, h⟩
  | tup h _ => exact .inr (.inl ⟨rfl, _, h⟩)
  | dct h => exact .inr (.inr ⟨rfl, _, h⟩)
def pIsi (c : String) (pa : PDt) (env : PEnv) (Q : SV -> PEnv -> Prop) : Prop := pa env fun x e => match kitB (tyD x) c with
  | some b => Q (.d (.bool b)) e
  | none => False
instance (priority := high) re_isi {K : Frag} {ta : TE} {pa : PDt} {c : String} [ha : RW K ta pa] : RE K (tCB (rIsi K) (G5 ta (G5 (tC (.ty c)) tNil))) (pIsi c pa) where
  ok := by
    rintro ct w env σ Qp Q rfl E p k
    refine ha.ok ct w env σ _ _ rfl E p fun x dx e1 w1 E1 l1 v1 q1 => ?_
    split at q1
    · rename_i b hb
      exact ⟨x, c, _, b, rfl, Den.ty (v1.den E1.wok), hb, k _ _ e1 w1 ((Res.data E1 (.bl _)).pre l1) q1⟩
    · exact q1.elim
end Pu
namespace Pu
open PySem L2 My Prf
class RT (K : Frag) (tt : TT) (pt : outParam PTt) : Prop where
  ok : ∀ (c : Ct) (w : Wd) (env : PEnv) (σ : St) (Qp : Bool -> PEnv -> Prop) (Q : Bool -> Hpp -> Prop), c.K = K -> EnvOk c w env σ -> pt env Qp -> (∀ b env' w', EnvOk c w' env' σ -> Lw w w' -> Qp b env' -> Q b w'.H) -> tt σ w.H Q
def asB (x : PyData) (k : Bool -> Prop) : Prop := match x with
  | .bool b => k b
  | _ => False
def B0x (pa : PDt) (env : PEnv) (Q : Bool -> PEnv -> Prop) : Prop := pa env fun x e => asB x fun b => Q b e
instance rt_test {K : Frag} {ta : TE} {pa : PDt} [ha : RW K ta pa] : RT K (B4g ta) (B0x pa) where
  ok := by
    rintro c w env σ Qp Q rfl E p k
    refine ha.ok c w env σ _ _ rfl E p fun x dx e1 w1 E1 l1 v1 q1 => ?_
    unfold asB at q1
    split at q1
    · exact ⟨_, v1.blE, k _ e1 w1 E1 l1 q1⟩
    · exact q1.elim
instance rt_B {K : Frag} {ta : TE} {pa : PDt} [ha : RW K ta pa] : RT K (tB ta) (B0x pa) where
  ok := by
    rintro c w env σ Qp Q rfl E p k
    refine ha.ok c w env σ _ _ rfl E p fun x dx e1 w1 E1 l1 v1 q1 => ?_
    unfold asB at q1
    split at q1
    · exact ⟨_, v1.blE, k _ e1 w1 E1 l1 q1⟩
    · exact q1.elim
def pYes (env : PEnv) (Q : Bool -> PEnv -> Prop) : Prop := Q true env
instance rt_yes {K : Frag} : RT K tYes pYes := ⟨fun c w env σ Qp Q _ E p k => k true env w E (Lw.refl w) p⟩
def pNot (pa : PTt) (env : PEnv) (Q : Bool -> PEnv -> Prop) : Prop := pa env fun b e => Q (!b) e
def pAnd (pa pb : PTt) (env : PEnv) (Q : Bool -> PEnv -> Prop) : Prop := pa env fun b e => if b = true then pb e Q else Q false e
def pOr (pa pb : PTt) (env : PEnv) (Q : Bool -> PEnv -> Prop) : Prop := pa env fun b e => if b = true then Q true e else pb e Q
instance rt_not {K : Frag} {ta : TT} {pa : PTt} [ha : RT K ta pa] : RT K (tNot ta) (pNot pa) where
  ok := by
    rintro c w env σ Qp Q rfl E p k
    exact ha.ok c w env σ _ _ rfl E p fun b e1 w1 E1 l1 q1 => k _ e1 w1 E1 l1 q1
instance rt_and {K : Frag} {ta tb : TT} {pa pb : PTt} [ha : RT K ta pa] [hb : RT K tb pb] : RT K (tAnd ta tb) (pAnd pa pb) where
  ok := by
    rintro c w env σ Qp Q rfl E p k
    refine ha.ok c w env σ _ _ rfl E p fun b e1 w1 E1 l1 q1 => ?_
    cases b with
    | true => exact hb.ok c w1 e1 σ _ _ rfl E1 q1 fun b e2 w2 E2 l2 q2 => k _ e2 w2 E2 (l1.trans l2) q2
    | false => exact k _ e1 w1 E1 l1 q1
instance rt_or {K : Frag} {ta tb : TT} {pa pb : PTt} [ha : RT K ta pa] [hb : RT K tb pb] : RT K (tOr ta tb) (pOr pa pb) where
  ok := by
    rintro c w env σ Qp Q rfl E p k
    refine ha.ok c w env σ _ _ rfl E p fun b e1 w1 E1 l1 q1 => ?_
    cases b with
    | false => exact hb.ok c w1 e1 σ _ _ rfl E1 q1 fun b e2 w2 E2 l2 q2 => k _ e2 w2 E2 (l1.trans l2) q2
    | true => exact k _ e1 w1 E1 l1 q1
def B72 (pa : PDt) (env : PEnv) (Q : SV -> PEnv -> Prop) : Prop := pa env fun x e => asB x fun b => Q (.d (.bool (!b))) e
def B5w (pa : PDt) (pb : PX) (env : PEnv) (Q : SV -> PEnv -> Prop) : Prop := pa env fun x e => asB x fun b => if b = true then pb e Q else Q (.d (.bool false)) e
def pOrV (pa : PDt) (pb : PX) (env : PEnv) (Q : SV -> PEnv -> Prop) : Prop := pa env fun x e => asB x fun b => if b = true then Q (.d (.bool true)) e else pb e Q
instance re_andV {K : Frag} {ta tb : TE} {pa : PDt} {pb : PX} [ha : RW K ta pa] [hb : RE K tb pb] : RE K (B4l ta tb) (B5w pa pb) where
  ok := by
    rintro c w env σ Qp Q rfl E p k
    refine ha.ok c w env σ _ _ rfl E p fun x dx e1 w1 E1 l1 v1 q1 => ?_
    unfold asB at q1
    split at q1
    · rename_i b
      refine ⟨_, v1.blE, ?_⟩
      cases b with
      | true => exact hb.ok c w1 e1 σ _ _ rfl E1 q1 fun v s e2 w2 R q2 => k _ _ e2 w2 (R.pre l1) q2
      | false => exact k _ _ e1 w1 ((Res.data E1 (.bl _)).pre l1) q1
    · exact q1.elim
instance re_orV {K : Frag} {ta tb : TE} {pa : PDt} {pb : PX} [ha : RW K ta pa] [hb : RE K tb pb] : RE K (tOrV ta tb) (pOrV pa pb) where
  ok := by
    rintro c w env σ Qp Q rfl E p k
    refine ha.ok c w env σ _ _ rfl E p fun x dx e1 w1 E1 l1 v1 q1 => ?_
    unfold asB at q1
    split at q1
    · rename_i b
      refine ⟨_, v1.blE, ?_⟩
      cases b with
      | false => exact hb.ok c w1 e1 σ _ _ rfl E1 q1 fun v s e2 w2 R q2 => k _ _ e2 w2 (R.pre l1) q2
      | true => exact k _ _ e1 w1 ((Res.data E1 (.bl _)).pre l1) q1
    · exact q1.elim
def pIfE (pt : PTt) (pa pb : PX) (env : PEnv) (Q : SV -> PEnv -> Prop) : Prop := pt env fun b e => if b = true then pa e Q else pb e Q
instance re_if {K : Frag} {tt : TT} {ta tb : TE} {pt : PTt} {pa pb : PX} [ht : RT K tt pt] [ha : RE K ta pa] [hb : RE K tb pb] : RE K (tIf tt ta tb) (pIfE pt pa pb) where
  ok := by
    rintro c w env σ Qp Q rfl E p k
    refine ht.ok c w env σ _ _ rfl E p fun b e1 w1 E1 l1 q1 => ?_
    cases b with
    | true => exact ha.ok c w1 e1 σ _ _ rfl E1 q1 fun v s e2 w2 R q2 => k _ _ e2 w2 (R.pre l1) q2
    | false => exact hb.ok c w1 e1 σ _ _ rfl E1 q1 fun v s e2 w2 R q2 => k _ _ e2 w2 (R.pre l1) q2
inductive Md where
  | dat | vw | st | bt
def TV (K : Frag) (w : Wd) (v : V) (t : OT) : Prop := Tre K w t [v] /\ ∀ a ∈ t.fp, ¬ w.M a
theorem TV.mono {K : Frag} {w w' : Wd} {v : V} {t : OT} (a : Lw w w') (h : TV K w v t) (hs : ∀ a ∈ t.fp, w.H a ≠ none) : TV K w' v t :=
  ⟨h.1.mono a h.2, fun b hb => a.nm (hs b hb) (h.2 b hb)⟩
theorem Tre.has {K : Frag} {w : Wd} : ∀ {t : OT} {vs : List V}, Tre K w t vs -> ∀ a ∈ t.fp, w.H a ≠ none
  | .leaf _, _, _, _, z => nomatch z
  | .nd _ p _, _, ⟨_, _, h, k⟩, a, z => (List.mem_cons.mp z).elim (fun e => by rw [e, h]; simp) (Tre.has k a)
  | .nil, _, _, _, z => nomatch z
  | .cons _ _, _, ⟨_, _, _, h, t⟩, a, z => (List.mem_append.mp z).elim (Tre.has h a) (Tre.has t a)
inductive Args (K : Frag) (w : Wd) : List Md -> List V -> List SV -> Prop
  | nil : Args K w [] [] []
  | dat {v : V} {x : PyData} {md : List Md} {vs : List V} {as : List SV} : Den K w.F v x -> Args K w md vs as -> Args K w (.dat :: md) (v :: vs) (.d x :: as)
  | vw {v : V} {xs : List PyData} {md : List Md} {vs : List V} {as : List SV} : VV K w v (.list xs) -> Args K w md vs as -> Args K w (.vw :: md) (v :: vs) (.bor xs :: as)
  | bt {v : V} {t : OT} {md : List Md} {vs : List V} {as : List SV} : TV K w v t -> Args K w md vs as -> Args K w (.bt :: md) (v :: vs) (.bt t :: as)
  | st {v : V} {md : List Md} {vs : List V} {as : List SV} : (∃ p, v = .ref p /\ w.M p) -> Args K w md vs as -> Args K w (.st :: md) (v :: vs) (.st :: as)
theorem Args.len {K : Frag} {w : Wd} : ∀ {md vs as}, Args K w md vs as -> vs.length = md.length
  | _, _, _, .nil => rfl
  | _, _, _, .dat _ t => congrArg (· + 1) (Args.len t)
  | _, _, _, .vw _ t => congrArg (· + 1) (Args.len t)
  | _, _, _, .st _ t => congrArg (· + 1) (Args.len t)
  | _, _, _, .bt _ t => congrArg (· + 1) (Args.len t)
abbrev PSp := List SV -> (SV -> Prop) -> Prop
def noZ : Addr -> Prop := fun _ => False
def spOf (K : Frag) (md : List Md) (psp : PSp) : Sp := fun vs H Q _ => ∃ (w : Wd) (as : List SV) (Qp : SV -> Prop), w.H = H /\ w.Ok /\ Args K w md vs as /\ psp as Qp /\
  ∀ v s w', w'.Ok -> Le w w' -> VR ⟨K, w, noZ⟩ w' v s -> s.isRes = true -> Qp s -> Q v w'.H
theorem spOf.len {K : Frag} {md : List Md} {psp : PSp} {n : Nat} (h : md.length = n) : ∀ vs H Q E, spOf K md psp vs H Q E -> vs.length = n := by
  rintro vs H Q E ⟨w, as, Qp, _, _, a, _⟩
  exact a.len.trans h
class RAm (K : Frag) (md : List Md) (ta : TA) (pa : outParam PAs) : Prop where
  ok : ∀ (c : Ct) (w : Wd) (env : PEnv) (σ : St) (Qp : List SV -> PEnv -> Prop) (Q : List V -> Hpp -> Prop), c.K = K -> EnvOk c w env σ -> pa env Qp -> (∀ vs as env' w', EnvOk c w' env' σ -> Lw w w' -> Args K w' md vs as -> Qp as env' -> Q vs w'.H) -> ta σ w.H Q
def B5p (env : PEnv) (Q : List SV -> PEnv -> Prop) : Prop := Q [] env
def A69 (pa : PDt) (pr : PAs) (env : PEnv) (Q : List SV -> PEnv -> Prop) : Prop := pa env fun x e1 => pr e1 fun as e2 => Q (.d x :: as) e2
def asL (x : PyData) (k : List PyData -> Prop) : Prop := match x with
  | .list xs => k xs
  | _ => False
def A67 (pa : PDt) (pr : PAs) (env : PEnv) (Q : List SV -> PEnv -> Prop) : Prop := pa env fun x e1 => asL x fun xs => pr e1 fun as e2 => Q (.bor xs :: as) e2
def isSt (o : Option (Option SV)) (k : Prop) : Prop := match o with
  | some (some .st) => k
  | _ => False
def A3r (i : Nat) (pr : PAs) (env : PEnv) (Q : List SV -> PEnv -> Prop) : Prop := isSt env[i]? (pr env fun as e2 => Q (.st :: as) e2)
instance ram_nil {K : Frag} : RAm K [] tNil B5p := ⟨fun c w env σ Qp Q _ E p k => k [] [] env w E (Lw.refl w) .nil p⟩
instance ram_dat {K : Frag} {md : List Md} {ta : TE} {tr : TA} {pa : PDt} {pr : PAs} [ha : RD K ta pa] [hr : RAm K md tr pr] : RAm K (.dat :: md) (G5 ta tr) (A69 pa pr) where
  ok := by
    rintro c w env σ Qp Q rfl E p k
    refine ha.ok c w env σ _ _ rfl E p fun x dx e1 w1 E1 l1 v1 q1 => ?_
    refine hr.ok c w1 e1 σ _ _ rfl E1 q1 fun vs xs e2 w2 E2 l2 v2 q2 => ?_
    exact k _ _ e2 w2 E2 (l1.trans l2) (.dat (Den.same l2.f v1) v2) q2
instance ram_vw {K : Frag} {md : List Md} {ta : TE} {tr : TA} {pa : PDt} {pr : PAs} [ha : RW K ta pa] [hr : RAm K md tr pr] : RAm K (.vw :: md) (G5 ta tr) (A67 pa pr) where
  ok := by
    rintro c w env σ Qp Q rfl E p k
    refine ha.ok c w env σ _ _ rfl E p fun x dx e1 w1 E1 l1 v1 q1 => ?_
    unfold asL at q1
    split at q1
    · refine hr.ok c w1 e1 σ _ _ rfl E1 q1 fun vs xs e2 w2 E2 l2 v2 q2 => ?_
      exact k _ _ e2 w2 E2 (l1.trans l2) (.vw (v1.mono l2) v2) q2
    · exact q1.elim
instance ram_st {K : Frag} {md : List Md} {i : Nat} {tr : TA} {pr : PAs} [hr : RAm K md tr pr] : RAm K (.st :: md) (G5 (tVar i) tr) (A3r i pr) where
  ok := by
    rintro c w env σ Qp Q rfl E p k
    unfold A3r isSt at p
    split at p
    · rename_i e
      obtain ⟨v, h1, h2⟩ := E.at' i _ e
      refine ⟨v, h1, ?_⟩
      refine hr.ok c w env σ _ _ rfl E p fun vs xs e2 w2 E2 l2 v2 q2 => ?_
      obtain ⟨q, e', hm⟩ := h2
      exact k _ _ e2 w2 E2 l2 (.st ⟨q, e', l2.m _ hm⟩ v2) q2
    · exact p.elim
def B8h (psp : PSp) (pa : PAs) (env : PEnv) (Q : SV -> PEnv -> Prop) : Prop := pa env fun as e => psp as fun s => Q s e
theorem Res.called {c : Ct} {w w' : Wd} {env : PEnv} {σ : St} {v : V} {s : SV} (E : EnvOk c w env σ) (ok : w'.Ok) (l : Le w w') (h : VR ⟨c.K, w, noZ⟩ w' v s) (r : s.isRes = true) : Res c w env σ w' v s := by
  refine ⟨E.mono ok l, l.toLw, ?_, fun a f => E.fresh (h.foot f).2.2.2, r⟩
  cases s with
  | d x => exact h
  | own xs => obtain ⟨a, vs, e, h1, h2, h3, h4, h5⟩ := h; exact ⟨a, vs, e, h1, h2, h3, E.le0.dom _ h4, h5⟩
  | bor xs => cases r
  | bt t => cases r
  | al t => cases r
  | st => exact h
  | tr t => exact ⟨h.1, fun a f => ⟨(h.2.1 a f).1, (h.2.1 a f).2.1, (h.2.1 a f).2.2.1, E.le0.dom _ (h.2.1 a f).2.2.2⟩, h.2.2⟩
instance re_call {K : Frag} {md : List Md} {psp : PSp} {E0' : XK} {ta : TA} {pa : PAs} [ha : RAm K md ta pa] : RE K (B4k (spOf K md psp) [] E0' ta) (B8h psp pa) where
  ok := by
    rintro c w env σ Qp Q rfl E p k
    refine ha.ok c w env σ _ _ rfl E p fun vs as e1 w1 E1 l1 a1 q1 => ?_
    rw [List.append_nil]
    exact ⟨w1, as, _, rfl, E1.wok, a1, q1, fun v s w' ok l h r q => k v s e1 w' ((Res.called E1 ok l h r).pre l1) q⟩
structure PEnds where
  nx : PEnv -> Prop
  rt : SV -> PEnv -> Prop
  bk : PEnv -> Prop
  ct : PEnv -> Prop
abbrev PSt := PEnds -> PEnv -> Prop
structure EndsOk (c : Ct) (w : Wd) (Dp : PEnds) (D : Ends) : Prop where
  nx : ∀ env σ w', EnvOk c w' env σ -> Same w.F w'.F -> Dp.nx env -> D.nx σ w'.H
  rt : ∀ v s env σ w', EnvOk c w' env σ -> VR c w' v s -> s.isRes = true -> Dp.rt s env -> D.rt v w'.H
  bk : ∀ env σ w', EnvOk c w' env σ -> Same w.F w'.F -> Dp.bk env -> D.bk σ w'.H
  ct : ∀ env σ w', EnvOk c w' env σ -> Same w.F w'.F -> Dp.ct env -> D.ct σ w'.H
theorem EndsOk.on {c : Ct} {w w1 : Wd} {Dp : PEnds} {D : Ends} (h : EndsOk c w Dp D) (s : Same w.F w1.F) : EndsOk c w1 Dp D :=
  ⟨fun e σ w' E s' => h.nx e σ w' E (s.trans s'), h.rt, fun e σ w' E s' => h.bk e σ w' E (s.trans s'), fun e σ w' E s' => h.ct e σ w' E (s.trans s')⟩
class RS (K : Frag) (ts : TS) (ps : outParam PSt) : Prop where
  ok : ∀ (c : Ct) (w : Wd) (env : PEnv) (σ : St) (Dp : PEnds) (D : Ends), c.K = K -> EnvOk c w env σ -> EndsOk c w Dp D -> ps Dp env -> ts D σ w.H
def B5q (D : PEnds) (env : PEnv) : Prop := D.nx env
def B20 (D : PEnds) (env : PEnv) : Prop := D.bk env
def B8c (D : PEnds) (env : PEnv) : Prop := D.ct env
def A6r (_ : PEnds) (_ : PEnv) : Prop := False
def pSeq (p q : PSt) (D : PEnds) (env : PEnv) : Prop := p { D with nx := q D } env
instance rs_next {K : Frag} : RS K B4i B5q := ⟨fun c w env σ Dp D _ E h p => h.nx env σ w E (Same.refl _) p⟩
instance rs_never {K : Frag} : RS K A5t A6r := ⟨fun c w env σ Dp D _ E h p => p.elim⟩
instance rs_seq {K : Frag} {t u : TS} {p q : PSt} [ht : RS K t p] [hu : RS K u q] : RS K (tSeq t u) (pSeq p q) where
  ok := by
    rintro c w env σ Dp D rfl E h pr
    refine ht.ok c w env σ { Dp with nx := q Dp } _ rfl E ⟨fun e1 σ1 w1 E1 s1 n1 => ?_, h.rt, h.bk, h.ct⟩ pr
    exact hu.ok c w1 e1 σ1 Dp D rfl E1 (h.on s1) n1
def B8a (pe : PX) (D : PEnds) (env : PEnv) : Prop := pe env fun _ e => D.nx e
def pRet (pe : PX) (D : PEnds) (env : PEnv) : Prop := pe env fun s e => D.rt s e
instance (priority := low) rs_ret {K : Frag} {te : TE} {pe : PX} [he : RE K te pe] : RS K (tRet te) (pRet pe) where
  ok := by
    rintro c w env σ Dp D rfl E h p
    exact he.ok c w env σ _ _ rfl E p fun v s e1 w1 R q => h.rt v s e1 σ w1 R.ev R.val R.res q
def B5k (i : Nat) (D : PEnds) (env : PEnv) : Prop := match env[i]? with
  | some (some (.bor _)) => False
  | some (some (.bt _)) => False
  | some (some (.al _)) => False
  | some (some s) => D.rt s env
  | _ => False
instance rs_retV {K : Frag} {i : Nat} : RS K (tRet (tVar i)) (B5k i) where
  ok := by
    rintro c w env σ Dp D rfl E h p
    unfold B5k at p
    split at p
    · exact p.elim
    · exact p.elim
    · exact p.elim
    · rename_i s hn hn2 hn3 e
      obtain ⟨v, h1, h2⟩ := E.at' i _ e
      refine ⟨v, h1, h.rt v s env σ w E h2 ?_ p⟩
      cases s with
      | bor xs => exact absurd rfl (hn xs)
      | bt t => exact absurd rfl (hn2 t)
      | al t => exact absurd rfl (hn3 t)
      | _ => rfl
    · exact p.elim
def B7z (D : PEnds) (env : PEnv) : Prop := D.rt (.d .none) env
def pIf (pt : PTt) (p q : PSt) (D : PEnds) (env : PEnv) : Prop := pt env fun b e => if b = true then p D e else q D e
instance rs_if {K : Frag} {tt : TT} {t u : TS} {pt : PTt} {p q : PSt} [hc : RT K tt pt] [ht : RS K t p] [hu : RS K u q] : RS K (tIfS tt t u) (pIf pt p q) where
  ok := by
    rintro c w env σ Dp D rfl E h pr
    refine hc.ok c w env σ _ _ rfl E pr fun b e1 w1 E1 l1 q1 => ?_
    cases b with
    | true => exact ht.ok c w1 e1 σ Dp D rfl E1 (h.on l1.f) q1
    | false => exact hu.ok c w1 e1 σ Dp D rfl E1 (h.on l1.f) q1
def pAsg (pe : PX) (i : Nat) (D : PEnds) (env : PEnv) : Prop := pe env fun s e => D.nx (e.set i (some s))
instance rs_asg {K : Frag} {te : TE} {pe : PX} {i : Nat} [he : RE K te pe] : RS K (tAsg te (Q8 i)) (pAsg pe i) where
  ok := by
    rintro c w env σ Dp D rfl E h p
    exact he.ok c w env σ _ _ rfl E p fun v s e1 w1 R q => h.nx _ _ w1 (R.ev.set R.val R.new) R.lw.f q
class RG (K : Frag) (g : TG) (pg : outParam (PyData -> PEnv -> (PEnv -> Prop) -> Prop)) : Prop where
  ok : ∀ (c : Ct) (w : Wd) (env : PEnv) (σ : St) (v : V) (x : PyData) (Qp : PEnv -> Prop) (Q : St -> Hpp -> Prop), c.K = K -> EnvOk c w env σ -> Den K w.F v x -> pg x env Qp -> (∀ env' σ', EnvOk c w env' σ' -> Qp env' -> Q σ' w.H) -> g v σ w.H Q
class RGs (K : Frag) (g : TGs) (pg : outParam (List PyData -> PEnv -> (PEnv -> Prop) -> Prop)) : Prop where
  ok : ∀ (c : Ct) (w : Wd) (env : PEnv) (σ : St) (vs : List V) (xs : List PyData) (Qp : PEnv -> Prop) (Q : St -> Hpp -> Prop), c.K = K -> EnvOk c w env σ -> DenAll K w.F vs xs -> pg xs env Qp -> (∀ env' σ', EnvOk c w env' σ' -> Qp env' -> Q σ' w.H) -> g vs σ w.H Q
def B4u (i : Nat) (x : PyData) (env : PEnv) (Q : PEnv -> Prop) : Prop := Q (env.set i (some (.d x)))
instance rg_name {K : Frag} {i : Nat} : RG K (Q8 i) (B4u i) where
  ok := by
    rintro c w env σ v x Qp Q rfl E d p k
    exact k _ _ (E.set (s := .d x) d (fun _ z => nomatch z)) p
def qNil (xs : List PyData) (env : PEnv) (Q : PEnv -> Prop) : Prop := match xs with
  | [] => Q env
  | _ => False
def B4v (pg : PyData -> PEnv -> (PEnv -> Prop) -> Prop) (pr : List PyData -> PEnv -> (PEnv -> Prop) -> Prop) (xs : List PyData) (env : PEnv) (Q : PEnv -> Prop) : Prop := match xs with
  | x :: r => pg x env fun e => pr r e Q
  | [] => False
def qTup (n : Nat) (pr : List PyData -> PEnv -> (PEnv -> Prop) -> Prop) (x : PyData) (env : PEnv) (Q : PEnv -> Prop) : Prop := match x with
  | .tuple xs => xs.length = n /\ pr xs env Q
  | _ => False
instance rgs_nil {K : Frag} : RGs K gNil qNil where
  ok := by
    rintro c w env σ vs xs Qp Q rfl E d p k
    unfold qNil at p
    split at p
    · cases d; exact ⟨rfl, k env σ E p⟩
    · exact p.elim
instance rgs_cons {K : Frag} {g : TG} {gs : TGs} {pg : PyData -> PEnv -> (PEnv -> Prop) -> Prop} {pr : List PyData -> PEnv -> (PEnv -> Prop) -> Prop} [hg : RG K g pg] [hr : RGs K gs pr] : RGs K (A2m g gs) (B4v pg pr) where
  ok := by
    rintro c w env σ vs xs Qp Q rfl E d p k
    unfold B4v at p
    split at p
    · cases d with
      | cons h t =>
        refine ⟨_, _, rfl, hg.ok c w env σ _ _ _ _ rfl E h p fun e1 σ1 E1 q1 => ?_⟩
        exact hr.ok c w e1 σ1 _ _ _ _ rfl E1 t q1 k
    · exact p.elim
instance rg_tup {K : Frag} {n : Nat} {gs : TGs} {pr : List PyData -> PEnv -> (PEnv -> Prop) -> Prop} [hr : RGs K gs pr] : RG K (gTup K n gs) (qTup n pr) where
  ok := by
    rintro c w env σ v x Qp Q rfl E d p k
    unfold qTup at p
    split at p
    · obtain ⟨a, vs, e, h1, h2⟩ := d.tupE
      exact ⟨a, vs, e, SqT.same E.wok.sub h1, h2.len.trans p.1, hr.ok c w env σ _ _ _ _ rfl E h2 p.2 k⟩
    · exact p.elim
def B8i (pd : PDt) (n : Nat) (pr : List PyData -> PEnv -> (PEnv -> Prop) -> Prop) (D : PEnds) (env : PEnv) : Prop := pd env fun x e => qTup n pr x e D.nx
def pPar (i j : Nat) (pa : PAr) (D : PEnds) (env : PEnv) : Prop := pa env fun xs e => match xs with
  | [x, y] => D.nx ((e.set i (some (.d x))).set j (some (.d y)))
  | _ => False
instance rs_par {K : Frag} {ta : TA} {pa : PAr} {i j : Nat} [ha : RAd K ta pa] : RS K (tPar i j ta) (pPar i j pa) where
  ok := by
    rintro c w env σ Dp D rfl E h p
    refine ha.ok c w env σ _ _ rfl E p fun vs xs e1 w1 E1 l1 d1 q1 => ?_
    split at q1
    · cases d1 with
      | cons a t => cases t with
        | cons b t =>
          cases t
          exact ⟨_, _, rfl, h.nx _ _ w1 ((E1.set (s := .d _) a (fun _ z => nomatch z)).set (s := .d _) b (fun _ z => nomatch z)) l1.f q1⟩
    · exact q1.elim
def L4 (o : Option (Option SV)) (k : List PyData -> Prop) : Prop := match o with
  | some (some (.own xs)) => k xs
  | _ => False
theorem EnvOk.writeAt {c : Ct} {w : Wd} {env : PEnv} {σ : St} {i : Nat} {s s' : SV} {l : Addr} {us : List V} {v : V} (E : EnvOk c w env σ) (e : env[i]? = some (some s)) (hσ : σ[i]? = some (some v)) (hf : s.foot v l) (hf' : ∀ a, s'.foot v a -> s.foot v a)
    (hd : VR c ⟨w.M, upd w.H l (.lst us), w.F⟩ v s') : EnvOk c ⟨w.M, upd w.H l (.lst us), w.F⟩ (env.set i (some s')) σ := by
  obtain ⟨h1, h2, h3, h4⟩ := (E.look e hσ).foot hf
  have ne : ∀ b, w.M b -> b ≠ l := fun b hb z => h3 (z ▸ hb)
  have hd' : ∀ {j : Nat} {t : SV}, (env.set i (some s'))[j]? = some (some t) -> (i = j /\ t = s') \/ (i ≠ j /\ env[j]? = some (some t)) := by
    intro j t q
    rw [List.getElem?_set] at q
    split at q
    · rename_i z
      split at q
      · cases q; exact .inl ⟨z, rfl⟩
      · cases q
    · rename_i z; exact .inr ⟨z, q⟩
  have ft : ∀ {j : Nat} {t : SV} {u : V} {a : Addr}, (env.set i (some s'))[j]? = some (some t) -> σ[j]? = some (some u) -> t.foot u a -> ∃ t', env[j]? = some (some t') /\ t'.foot u a := by
    intro j t u a q qu f
    rcases hd' q with ⟨rfl, rfl⟩ | ⟨_, q⟩
    · rw [hσ] at qu; cases qu; exact ⟨s, e, hf' a f⟩
    · exact ⟨t, q, f⟩
  refine ⟨⟨fun b o q => ?_, fun p hp => (E.wok.st p hp).kp (ne p hp) Kp.upd, E.wok.nf⟩, ⟨⟨E.le0.f, fun b o q n => ?_, E.le0.m, E.le0.mn, fun b q => E.le0.dom b (M2 q)⟩, E.le0.n⟩, by simpa using E.len, fun j t q => ?_, fun j k s1 t1 v1 u1 a q1 q2 q3 q4 f1 f2 => ?_, fun a za => ?_, fun a j t u za q q' f => ?_⟩
  · show upd w.H l (.lst us) b = some o
    rw [C3 (fun z => by rw [z, h2] at q; cases q)]; exact E.wok.sub b o q
  · show upd w.H l (.lst us) b = some o
    rw [C3 (fun z => by rw [z, h4] at q; cases q)]; exact E.le0.h b o q n
  · rcases hd' q with ⟨rfl, rfl⟩ | ⟨z, q⟩
    · exact ⟨v, hσ, hd⟩
    · obtain ⟨u, g1, g2⟩ := E.at' j t q
      exact ⟨u, g1, g2.writ h1 fun f => z (E.own i j _ _ _ _ l e q hσ g1 hf f)⟩
  · obtain ⟨_, p1, g1⟩ := ft q1 q3 f1
    obtain ⟨_, p2, g2⟩ := ft q2 q4 f2
    exact E.own j k _ _ _ _ a p1 p2 q3 q4 g1 g2
  · obtain ⟨z1, z2, z3⟩ := E.zf a za
    exact ⟨z1, fun q => z2 (M2 q), z3⟩
  · obtain ⟨_, p, g⟩ := ft q q' f
    exact E.zo a j _ _ za p q' g
theorem EnvOk.write {c : Ct} {w : Wd} {env : PEnv} {σ : St} {i : Nat} {xs ys : List PyData} {l : Addr} {vs us : List V} (E : EnvOk c w env σ) (e : env[i]? = some (some (.own xs))) (hσ : σ[i]? = some (some (.ref l))) (h1 : w.H l = some (.lst vs)) (h2 : w.F l = none) (h3 : ¬ w.M l) (h4 : c.w0.H l = none)
    (hd : DenAll c.K w.F us ys) : EnvOk c ⟨w.M, upd w.H l (.lst us), w.F⟩ (env.set i (some (.own ys))) σ :=
  E.writeAt e hσ rfl (fun _ f => f) ⟨l, us, rfl, C7, h2, h3, h4, hd⟩
def pApp (i : Nat) (pd : PDt) (D : PEnds) (env : PEnv) : Prop := L4 env[i]? fun _ => pd env fun x e => L4 e[i]? fun xs => xs.length < 1000000 /\ D.nx (e.set i (some (.own (xs ++ [x]))))
theorem A22 {n : Nat} (h : n < 1000000) : n < sizeLine := Nat.lt_of_lt_of_le h (by decide)
instance rs_app {K : Frag} {i : Nat} {te : TE} {pd : PDt} [he : RD K te pd] : RS K (A4y (tBM K "list" A14 (tVar i) (G5 te tNil))) (pApp i pd) where
  ok := by
    rintro c w env σ Dp D rfl E h p
    unfold pApp L4 at p
    split at p
    · rename_i xs0 e0
      obtain ⟨v, g0, l, vs, ev, h1, h2, h3, h4, h5⟩ := E.at' i _ e0
      subst ev
      refine ⟨_, g0, .inl ⟨rfl, _, SqL.of h1⟩, ?_⟩
      refine he.ok c w env σ _ _ rfl E p fun y x e1 w1 E1 l1 d1 q1 => ?_
      split at q1
      · rename_i xs e
        obtain ⟨v', g0', l', vs', ev', k1, k2, k3, k4, k5⟩ := E1.at' i _ e
        rw [g0] at g0'; cases g0'; cases ev'
        refine ⟨l, vs', y, rfl, rfl, k1, by rw [k5.len]; exact A22 q1.1, ?_⟩
        exact h.nx _ σ ⟨w1.M, upd w1.H l (.lst (vs' ++ [y])), w1.F⟩ (E1.write e g0 k1 k2 k3 k4 (k5.app (.cons d1 .nil))) l1.f q1.2
      · exact q1.elim
    · exact p.elim
def B2w (i : Nat) (D : PEnds) (env : PEnv) : Prop := L4 env[i]? fun _ => D.nx (env.set i (some (.own [])))
def B71 (i : Nat) (D : PEnds) (env : PEnv) : Prop := L4 env[i]? fun xs => 0 < xs.length /\ D.nx (env.set i (some (.own xs.dropLast)))
end Pu
namespace L2
open PySem PySem.Spec PyProof.Rows
section
variable {X : Cx} {tg : Expr}
def iSq (K : PySem.W.Frag) (tl : TE) : TI := fun σ H R => tl σ H fun x H1 => (∃ a, x = .ref a /\ (∃ xs, SqL K H1 a xs) /\ R (Itl K a) H1) \/ ∃ a, x = .ref a /\ (∃ xs, SqT K H1 a xs) /\ R (Itt K a) H1
theorem B99 {l : Expr} {tl : TE} (hl : PE X l tl) : PI X tg l (iSq X.K tl) := by
  intro pins s σ H R I h
  refine thn (hl pins s σ H _ I h) fun v s1 ⟨x, H1, I1, r1, q1⟩ => ?_
  rcases q1 with ⟨a, e, ⟨xs, hq⟩, q⟩ | ⟨a, e, ⟨xs, hq⟩, q⟩
  · subst e
    cases r1
    obtain ⟨its, rv, p, hz⟩ := I1.list hq
    refine wpAny_pyIter_list p.isList ?_
    refine ⟨s1.heap.objs.size, [s1.heap.objs.size], _, _, H1, rfl, I1.kept (t' := s1.toks) fun b o e => Heap.get?_push_of_some _ e, A5q a _, ⟨_, Heap.get?_push_size _ rfl, rfl, rfl⟩, fun b hb => ?_, q⟩
    have e : b = s1.heap.objs.size := by simpa using hb
    subst e
    exact I1.fpOk (Nat.le_refl _) (I1.hok.fresh (Nat.le_refl _))
  · subst e
    cases r1
    obtain ⟨its, rv, p, hz⟩ := I1.tuple hq
    refine wpAny_pyIter_tuple (show s1.heap.IsTuple a its.toArray from p) ?_
    refine ⟨s1.heap.objs.size, [s1.heap.objs.size], _, _, H1, rfl, I1.kept (t' := s1.toks) fun b o e => Heap.get?_push_of_some _ e, A4w a _, ⟨_, Heap.get?_push_size _ rfl, rfl, rfl⟩, fun b hb => ?_, q⟩
    have e : b = s1.heap.objs.size := by simpa using hb
    subst e
    exact I1.fpOk (Nat.le_refl _) (I1.hok.fresh (Nat.le_refl _))
theorem B7j {K : PySem.W.Frag} {l : Expr} {tl : TE} (h : X.K = K) (hl : PE X l tl) : PI X tg l (iSq K tl) := by subst h; exact B99 hl
theorem K4 {K : PySem.W.Frag} (h : X.K = K) (hu : X.A.units + 64 < cLine) : OpR X (compareOp .Eq) (rEqD K) := by subst h; exact B8o hu
theorem J5 {K : PySem.W.Frag} (h : X.K = K) (hu : X.A.units + 64 < cLine) : OpR X (compareOp .NotEq) (rNeD K) := by subst h; exact B8l hu
theorem A24 {K : PySem.W.Frag} (h : X.K = K) : SlR X (rSlL K) := by subst h; exact B4p
end
end L2
namespace Pu
open PySem L2 My Prf
def A3i (pt : PTt) (pb : PSt) (D : PEnds) (env : PEnv) : Prop := ∃ Inv : Nat -> PEnv -> Prop, (∃ m, Inv m env) /\ ∀ m e, Inv m e -> pt e fun b e2 => if b = true then pb ⟨fun e3 => ∃ m', m' < m /\ Inv m' e3, D.rt, D.nx, fun e3 => ∃ m', m' < m /\ Inv m' e3⟩ e2 else D.nx e2
instance rs_while {K : Frag} {tt : TT} {tb : TS} {pt : PTt} {pb : PSt} [ht : RT K tt pt] [hb : RS K tb pb] : RS K (A5s tt tb) (A3i pt pb) where
  ok := by
    rintro c w env σ Dp D rfl E h ⟨Inv, ⟨m0, i0⟩, step⟩
    refine ⟨fun m σ' H' => ∃ e w', w'.H = H' /\ EnvOk c w' e σ' /\ Same w.F w'.F /\ Inv m e, ⟨m0, env, w, rfl, E, Same.refl _, i0⟩, ?_⟩
    rintro m σ1 _ ⟨e1, w1, rfl, E1, s1, i1⟩
    refine ht.ok c w1 e1 σ1 _ _ rfl E1 (step m e1 i1) fun b e2 w2 E2 l2 q2 => ?_
    cases b with
    | true =>
      refine ⟨fun σ' H' => ∃ e w', w'.H = H' /\ EnvOk c w' e σ' /\ Same w.F w'.F /\ ∃ m', m' < m /\ Inv m' e, fun σ' H' ⟨e, w', e1, E', s', m', hm, i'⟩ => ⟨m', hm, e, w', e1, E', s', i'⟩, ?_⟩
      refine hb.ok c w2 e2 σ1 ⟨fun e3 => ∃ m', m' < m /\ Inv m' e3, Dp.rt, Dp.nx, fun e3 => ∃ m', m' < m /\ Inv m' e3⟩ _ rfl E2 ⟨fun e3 σ3 w3 E3 s3 n3 => ⟨e3, w3, rfl, E3, s1.trans (l2.f.trans s3), n3⟩, h.rt, fun e3 σ3 w3 E3 s3 n3 => h.nx e3 σ3 w3 E3 (s1.trans (l2.f.trans s3)) n3, fun e3 σ3 w3 E3 s3 n3 => ⟨e3, w3, rfl, E3, s1.trans (l2.f.trans s3), n3⟩⟩ q2
    | false => exact h.nx e2 σ1 w2 E2 (s1.trans l2.f) q2
def Walk (c : Ct) (w1 : Wd) (J : It) (xs : List PyData) : Prop :=
  ∀ w', w'.Ok -> Le c.w0 w' -> Same w1.F w'.F -> (∀ i, i < xs.length -> J.go i w'.H) /\ J.stop xs.length w'.H /\ ∀ i v H', J.yld i w'.H v H' -> i < xs.length -> ∃ w2 x, w2.H = H' /\ w2.Ok /\ Le w' w2 /\ xs[i]? = some x /\ Den c.K w2.F v x
class RI (K : Frag) (wi : TI) (pi : outParam PAr) : Prop where
  ok : ∀ (c : Ct) (w : Wd) (env : PEnv) (σ : St) (Qp : List PyData -> PEnv -> Prop) (R : It -> Hpp -> Prop), c.K = K -> EnvOk c w env σ -> pi env Qp -> (∀ J xs env' w', EnvOk c w' env' σ -> Lw w w' -> Walk c w' J xs -> Qp xs env' -> R J w'.H) -> wi σ w.H R
theorem M1 {c : Ct} {w1 : Wd} {a : Addr} {vs : List V} {xs : List PyData} (d : DenAll c.K w1.F vs xs) (h : ∀ w', w'.Ok -> Le c.w0 w' -> Same w1.F w'.F -> SqL c.K w'.H a vs) : Walk c w1 (Itl c.K a) xs := by
  intro w' ok l s
  have q := h w' ok l s
  have hl := d.len
  refine ⟨fun i hi => ⟨vs, vs[i]'(by omega), q, List.getElem?_eq_getElem _⟩, ⟨vs, q, by omega⟩, fun i v H' y hi => ?_⟩
  obtain ⟨e, y⟩ := y
  obtain ⟨x, g1, g2⟩ := d.get (y vs q)
  exact ⟨w', x, e.symm, ok, Le.refl w', g1, Den.same s g2⟩
theorem A2t {c : Ct} {w1 : Wd} {a : Addr} {vs : List V} {xs : List PyData} (d : DenAll c.K w1.F vs xs) (h : ∀ w', w'.Ok -> Le c.w0 w' -> Same w1.F w'.F -> SqT c.K w'.H a vs) : Walk c w1 (Itt c.K a) xs := by
  intro w' ok l s
  have q := h w' ok l s
  have hl := d.len
  refine ⟨fun i hi => ⟨vs, vs[i]'(by omega), q, List.getElem?_eq_getElem _⟩, ⟨vs, q, by omega⟩, fun i v H' y hi => ?_⟩
  obtain ⟨e, y⟩ := y
  obtain ⟨x, g1, g2⟩ := d.get (y vs q)
  exact ⟨w', x, e.symm, ok, Le.refl w', g1, Den.same s g2⟩
def R0 (x : PyData) (k : List PyData -> Prop) : Prop := match x with
  | .list xs => k xs
  | .tuple xs => k xs
  | _ => False
def B5t (pd : PDt) (env : PEnv) (Q : List PyData -> PEnv -> Prop) : Prop := pd env fun x e => R0 x fun xs => Q xs e
instance (priority := low) ri_sq {K : Frag} {tl : TE} {pd : PDt} [hl : RD K tl pd] : RI K (iSq K tl) (B5t pd) where
  ok := by
    rintro c w env σ Qp R rfl E p k
    refine hl.ok c w env σ _ _ rfl E p fun v x e1 w1 E1 l1 d1 q1 => ?_
    unfold R0 at q1
    split at q1
    · obtain ⟨a, vs, e, h1, h2⟩ := d1.lstE
      exact .inl ⟨a, e, ⟨vs, E1.wok.sub.seq h1⟩, k _ _ e1 w1 E1 l1 (M1 h2 fun w' ok l s => (s.trans ok.sub).seq h1) q1⟩
    · obtain ⟨a, vs, e, h1, h2⟩ := d1.tupE
      exact .inr ⟨a, e, ⟨vs, SqT.same E1.wok.sub h1⟩, k _ _ e1 w1 E1 l1 (A2t h2 fun w' ok l s => SqT.same (s.trans ok.sub) h1) q1⟩
    · exact q1.elim
def A62 (i : Nat) (env : PEnv) (Q : List PyData -> PEnv -> Prop) : Prop := match env[i]? with
  | some (some (.d x)) => R0 x fun xs => Q xs env
  | some (some (.own xs)) => Q xs (env.set i (some (.d (.list xs))))
  | some (some (.bor xs)) => Q xs env
  | _ => False
instance ri_var {K : Frag} {i : Nat} : RI K (iSq K (tVar i)) (A62 i) where
  ok := by
    rintro c w env σ Qp R rfl E p k
    unfold A62 at p
    split at p
    · rename_i x e
      obtain ⟨v, h1, h2⟩ := E.at' i _ e
      refine ⟨v, h1, ?_⟩
      unfold R0 at p
      split at p
      · obtain ⟨a, vs, e, g1, g2⟩ := Den.lstE h2
        exact .inl ⟨a, e, ⟨vs, E.wok.sub.seq g1⟩, k _ _ env w E (Lw.refl w) (M1 g2 fun w' ok l s => (s.trans ok.sub).seq g1) p⟩
      · obtain ⟨a, vs, e, g1, g2⟩ := Den.tupE h2
        exact .inr ⟨a, e, ⟨vs, SqT.same E.wok.sub g1⟩, k _ _ env w E (Lw.refl w) (A2t g2 fun w' ok l s => SqT.same (s.trans ok.sub) g1) p⟩
      · exact p.elim
    · rename_i xs e
      obtain ⟨w', v, e', hv, E', l, d⟩ := E.frz e
      refine ⟨v, hv, ?_⟩
      obtain ⟨a, vs, e, g1, g2⟩ := d.lstE
      have := k _ _ _ w' E' l (M1 g2 fun w' ok l s => (s.trans ok.sub).seq g1) p
      rw [e'] at this
      exact .inl ⟨a, e, ⟨vs, by rw [<- e']; exact E'.wok.sub.seq g1⟩, this⟩
    · rename_i xs e
      obtain ⟨v, h1, h2⟩ := E.at' i _ e
      refine ⟨v, h1, ?_⟩
      rcases h2 with h2 | ⟨l, vs, ev, g1, g2, g3⟩
      · obtain ⟨a, vs, e, g1, g2⟩ := Den.lstE h2
        exact .inl ⟨a, e, ⟨vs, E.wok.sub.seq g1⟩, k _ _ env w E (Lw.refl w) (M1 g2 fun w' ok l s => (s.trans ok.sub).seq g1) p⟩
      · exact .inl ⟨l, ev, ⟨vs, SqL.of (E.le0.h _ _ g1 g2)⟩, k _ _ env w E (Lw.refl w) (M1 g3 fun w' ok l' s => SqL.of (l'.h _ _ g1 g2)) p⟩
    · exact p.elim
def rngD (lo : Int) (n : Nat) : List PyData := (List.range n).map fun k : Nat => PyData.int (lo + (k : Int))
theorem M9 (lo : Int) (n : Nat) : (rngD lo n).length = n := by simp [rngD]
theorem A26 {lo : Int} {n i : Nat} {x : PyData} (h : (rngD lo n)[i]? = some x) : i < n /\ x = .int (lo + (i : Int)) := by
  unfold rngD at h
  rw [List.getElem?_map] at h
  by_cases hi : i < n
  · rw [List.getElem?_range hi] at h; cases h; exact ⟨hi, rfl⟩
  · rw [List.getElem?_eq_none (by simpa using hi)] at h; cases h
theorem B0h {c : Ct} {w1 : Wd} {lo : Int} {n : Nat} : Walk c w1 (Itr lo n) (rngD lo n) := by
  intro w' ok l s
  refine ⟨fun i hi => by rw [M9] at hi; exact hi, by rw [M9]; exact Nat.le_refl _, fun i v H' y hi => ?_⟩
  obtain ⟨e, y⟩ := y
  subst y
  rw [M9] at hi
  refine ⟨w', .int (lo + i), e.symm, ok, Le.refl w', ?_, .int _⟩
  unfold rngD
  rw [List.getElem?_map, List.getElem?_range hi]; rfl
def B7y (pa : PAr) (env : PEnv) (Q : List PyData -> PEnv -> Prop) : Prop := pa env fun xs e => match xs with
  | [.int j] => (-(2 ^ 62) <= j /\ j < 2 ^ 62) /\ Q (rngD 0 j.toNat) e
  | _ => False
def C0e (pa : PAr) (env : PEnv) (Q : List PyData -> PEnv -> Prop) : Prop := pa env fun xs e => match xs with
  | [.int i, .int j] => (-(2 ^ 62) <= i /\ i < 2 ^ 62 /\ -(2 ^ 62) <= j /\ j < 2 ^ 62) /\ Q (rngD i (j - i).toNat) e
  | _ => False
instance ri_rng1 {K : Frag} {ta : TA} {pa : PAr} [ha : RAv K ta pa] : RI K (B6b ta) (B7y pa) where
  ok := by
    rintro c w env σ Qp R rfl E p k
    refine ha.ok c w env σ _ _ rfl E p fun vs xs e1 w1 E1 l1 v1 q1 => ?_
    split at q1
    · cases v1 with | cons h t => cases t; exact ⟨_, by rw [h.intE], q1.1.1, q1.1.2, k _ _ e1 w1 E1 l1 B0h q1.2⟩
    · exact q1.elim
def A02 (xs : List PyData) (pg : PyData -> PEnv -> (PEnv -> Prop) -> Prop) (pb : PSt) (D : PEnds) (env : PEnv) : Prop :=
  ∃ Inv : Nat -> PEnv -> Prop, Inv 0 env /\ (∀ i x e, xs[i]? = some x -> Inv i e -> pg x e fun e2 => pb ⟨Inv (i + 1), D.rt, D.nx, Inv (i + 1)⟩ e2) /\ ∀ e, Inv xs.length e -> D.nx e
def pFor (pi : PAr) (pg : PyData -> PEnv -> (PEnv -> Prop) -> Prop) (pb : PSt) (D : PEnds) (env : PEnv) : Prop := pi env fun xs e => A02 xs pg pb D e
instance rs_for {K : Frag} {wi : TI} {g : TG} {tb : TS} {pi : PAr} {pg : PyData -> PEnv -> (PEnv -> Prop) -> Prop} {pb : PSt} [hi : RI K wi pi] [hg : RG K g pg] [hb : RS K tb pb] : RS K (tFor wi g tb) (pFor pi pg pb) where
  ok := by
    rintro c w env σ Dp D rfl E h p
    refine hi.ok c w env σ _ _ rfl E p fun J xs e1 w1 E1 l1 wk ⟨Iv, i0, step, fin⟩ => ?_
    refine ⟨fun i m σ' H' => m = xs.length - i /\ i <= xs.length /\ ∃ e w', w'.H = H' /\ EnvOk c w' e σ' /\ Same w1.F w'.F /\ Iv i e, ⟨xs.length, rfl, Nat.zero_le _, e1, w1, rfl, E1, Same.refl _, i0⟩, ?_⟩
    rintro i m σ2 _ ⟨rfl, hle, e2, w2, rfl, E2, s2, i2⟩
    obtain ⟨go, stop, yld⟩ := wk w2 E2.wok E2.le0 s2
    by_cases hlt : i < xs.length
    · refine .inr ⟨go i hlt, fun σ' H' => i + 1 <= xs.length /\ ∃ e w', w'.H = H' /\ EnvOk c w' e σ' /\ Same w1.F w'.F /\ Iv (i + 1) e, fun σ' H' ⟨q0, q⟩ => ⟨xs.length - (i + 1), by omega, rfl, q0, q⟩, fun v H' y => ?_⟩
      obtain ⟨w2', x, rfl, ok2, le2, hx, dx⟩ := yld i v H' y hlt
      replace E2 := E2.mono ok2 le2
      replace s2 := s2.trans le2.f
      clear yld go stop y le2 ok2
      generalize w2' = w2 at E2 s2 dx
      refine hg.ok c w2 e2 σ2 v x _ _ rfl E2 dx (step i x e2 hx i2) fun e3 σ3 E3 q3 => ?_
      refine hb.ok c w2 e3 σ3 ⟨Iv (i + 1), Dp.rt, Dp.nx, Iv (i + 1)⟩ _ rfl E3 ⟨fun e4 σ4 w4 E4 s4 n4 => ⟨hlt, e4, w4, rfl, E4, s2.trans s4, n4⟩, h.rt, fun e4 σ4 w4 E4 s4 n4 => h.nx e4 σ4 w4 E4 (l1.f.trans (s2.trans s4)) n4, fun e4 σ4 w4 E4 s4 n4 => ⟨hlt, e4, w4, rfl, E4, s2.trans s4, n4⟩⟩ q3
    · have e : i = xs.length := by omega
      subst e
      exact .inl ⟨stop, h.nx e2 σ2 w2 E2 (l1.f.trans s2) (fin e2 i2)⟩
theorem A2n {lo : Int} {n : Nat} {pg : PyData -> PEnv -> (PEnv -> Prop) -> Prop} {pb : PSt} {D : PEnds} {env : PEnv} (Inv : Nat -> PEnv -> Prop) (h0 : Inv 0 env)
    (hs : ∀ (i : Nat) e, i < n -> Inv i e -> pg (.int (lo + (i : Int))) e fun e2 => pb ⟨Inv (i + 1), D.rt, D.nx, Inv (i + 1)⟩ e2) (hd : ∀ e, Inv n e -> D.nx e) : A02 (rngD lo n) pg pb D env :=
  ⟨Inv, h0, fun i x e hx hi => by obtain ⟨h1, rfl⟩ := A26 hx; exact hs i e h1 hi, fun e h => hd e (by rwa [M9] at h)⟩
def SV.lent : SV -> Option SV
  | .own xs => some (.bor xs)
  | .tr _ => none
  | .bt _ => none
  | s => some s
def G7 (cap : List (Option Nat)) (env : PEnv) : PEnv := cap.map fun o => o.bind fun j => (env[j]?).join.bind SV.lent
theorem EnvOk.writeZ {c : Ct} {w : Wd} {env : PEnv} {σ : St} {l : Addr} {us : List V} (E : EnvOk c w env σ) (z : c.Z l) (h4 : c.w0.H l = none) : EnvOk c ⟨w.M, upd w.H l (.lst us), w.F⟩ env σ := by
  obtain ⟨h2, h1, h3⟩ := E.zf l z
  have ne : ∀ b, w.M b -> b ≠ l := fun b hb z => h3 (z ▸ hb)
  refine ⟨⟨fun b o q => ?_, fun p hp => (E.wok.st p hp).kp (ne p hp) Kp.upd, E.wok.nf⟩, ⟨⟨E.le0.f, fun b o q n => ?_, E.le0.m, E.le0.mn, fun b q => E.le0.dom b (M2 q)⟩, E.le0.n⟩, E.len, fun j s q => ?_, E.own, fun a za => ?_, E.zo⟩
  · show upd w.H l (.lst us) b = some o
    rw [C3 (fun z => by rw [z, h2] at q; cases q)]; exact E.wok.sub b o q
  · show upd w.H l (.lst us) b = some o
    rw [C3 (fun z => by rw [z, h4] at q; cases q)]; exact E.le0.h b o q n
  · obtain ⟨v, g1, g2⟩ := E.at' j s q
    exact ⟨v, g1, g2.writ h1 (E.zo l j s v z q g1)⟩
  · obtain ⟨z1, z2, z3⟩ := E.zf a za
    exact ⟨z1, fun q => z2 (M2 q), z3⟩
theorem EnvOk.cap {c : Ct} {w : Wd} {env : PEnv} {σ : St} {D : Addr} (cap : List (Option Nat)) (E : EnvOk c w env σ) (hD : w.H D = none) : EnvOk ⟨c.K, w, fun a => a = D⟩ (w.lay D (.lst [])) (G7 cap env) (capσ cap σ) := by
  have nown : ∀ (i : Nat) s v a, (G7 cap env)[i]? = some (some s) -> ¬ s.foot v a := fun i s0 v a q f => by
    unfold G7 at q
    rw [List.getElem?_map] at q
    cases hc : cap[i]? with
    | none => rw [hc] at q; cases q
    | some o =>
      rw [hc] at q
      cases o with
      | none => cases q
      | some j =>
        have q' : ((env[j]?).join.bind SV.lent) = some s0 := Option.some.inj q
        cases hj : (env[j]?).join with
        | none => rw [hj] at q'; cases q'
        | some s => rw [hj] at q'; cases s <;> cases q' <;> exact f
  refine ⟨Wd.lay_ok E.wok hD, Wd.lay_le hD, by simp [G7, capσ], fun i s q => ?_, fun i j s t v u a q _ _ _ f => absurd f (nown i s v a q), fun a za => ?_, fun a j t u _ q _ => nown j t u a q⟩
  · unfold G7 at q
    unfold capσ
    rw [List.getElem?_map] at q ⊢
    cases hc : cap[i]? with
    | none => rw [hc] at q; cases q
    | some o =>
      rw [hc] at q
      cases o with
      | none => cases q
      | some j =>
        have q' : ((env[j]?).join.bind SV.lent) = some s := Option.some.inj q
        cases hj : env[j]? with
        | none => rw [hj] at q'; cases q'
        | some t =>
          rw [hj] at q'
          cases t with
          | none => cases q'
          | some s0 =>
            have q2 : s0.lent = some s := q'
            obtain ⟨v, h1, h2⟩ := E.at' j s0 hj
            refine ⟨v, by simp [h1], ?_⟩
            cases s0 with
            | d x => cases q2; exact h2
            | own xs => cases q2; obtain ⟨l, vs, e, g1, g2, g3, g4, g5⟩ := h2; exact .inr ⟨l, vs, e, g1, g3, g5⟩
            | bor xs =>
              cases q2
              rcases h2.vv E.le0 with g | ⟨l, vs, ys, e, e', g1, g2, g3⟩
              · exact .inl g
              · cases e'; exact .inr ⟨l, vs, e, g1, g2, g3⟩
            | st => cases q2; exact h2
            | tr t => cases q2
            | bt t => cases q2
            | al t => cases q2; exact h2
  · have e : a = D := za
    subst e
    exact ⟨E.wok.fnone hD, by show upd w.H a (.lst []) a ≠ none; rw [C7]; simp, fun z => E.wok.mne hD z rfl⟩
theorem Walk.up {c : Ct} {w : Wd} {J : It} {xs : List PyData} (h : Walk c w J xs) (l : Le c.w0 w) : Walk ⟨c.K, w, c.Z⟩ w J xs := fun w' ok l' s => h w' ok (l.trans l') s
def L5 (xs : List PyData) (pg : PyData -> PEnv -> (PEnv -> Prop) -> Prop) (pt : PTt) (pd : PDt) (e0 : PEnv) (Fin : List PyData -> Prop) : Prop :=
  ∃ Pv : Nat -> PEnv -> List PyData -> Prop, Pv 0 e0 [] /\ (∀ i x e ys, xs[i]? = some x -> Pv i e ys -> pg x e fun e2 => pt e2 fun b e3 => if b = true then pd e3 fun y e4 => Pv (i + 1) e4 (ys ++ [y]) else Pv (i + 1) e3 ys) /\ ∀ e ys, Pv xs.length e ys -> Fin ys
theorem A90 {K : Frag} {g : TG} {tt : TT} {te : TE} {pg : PyData -> PEnv -> (PEnv -> Prop) -> Prop} {pt : PTt} {pd : PDt} [hg : RG K g pg] [ht : RT K tt pt] [he : RD K te pd] {c : Ct} {w : Wd} {env : PEnv} {σ : St} {J : It} {xs : List PyData} {cap : List (Option Nat)} {D : Addr} {Fp : List PyData -> Prop} {Fin : Hpp -> Prop}
    (hK : c.K = K) (E : EnvOk c w env σ) (wk : Walk ⟨c.K, w, c.Z⟩ w J xs) (hn : xs.length < 1000000) (p : L5 xs pg pt pd (G7 cap env) Fp) (hD : w.H D = none) (k : ∀ w' ys, Res c w env σ w' (.ref D) (.own ys) -> Fp ys -> Fin w'.H) : A4n J g tt te D Fin (capσ cap σ) w.H := by
  subst hK
  obtain ⟨Pv, p0, step, fin⟩ := p
  have hw0 : c.w0.H D = none := E.le0.dom D hD
  refine ⟨fun i m σ' H' vs => m = xs.length - i /\ i <= xs.length /\ ∃ e w' ys, w'.H = H' /\ EnvOk ⟨c.K, w, fun a => a = D⟩ w' e σ' /\ w'.H D = some (.lst vs) /\ vs.length <= i /\ DenAll c.K w'.F vs ys /\ Pv i e ys,
    ⟨xs.length, rfl, Nat.zero_le _, G7 cap env, w.lay D (.lst []), [], rfl, E.cap cap hD, C7, Nat.le_refl _, .nil, p0⟩, ?_⟩
  rintro i m σ1 _ vs ⟨rfl, hle, e1, w1, ys, rfl, E1, h1, hvl, d1, q1⟩
  refine ⟨h1, A22 (by omega), ?_⟩
  obtain ⟨go, stop, yld⟩ := wk w1 E1.wok E1.le0 E1.le0.f
  by_cases hlt : i < xs.length
  · refine .inr ⟨go i hlt, fun v H' y => ?_⟩
    obtain ⟨w1', x, rfl, ok1', le1, hx, dx⟩ := yld i v H' y hlt
    replace h1 := le1.h _ _ h1 (E1.zf D rfl).2.2
    replace E1 := E1.mono ok1' le1
    replace d1 := DenAll.same le1.f d1
    clear yld go stop y le1 ok1'
    generalize w1' = w1 at E1 h1 d1 dx
    refine hg.ok ⟨c.K, w, fun a => a = D⟩ w1 e1 σ1 v x _ _ rfl E1 dx (step i x e1 ys hx q1) fun e2 σ2 E2 q2 => ?_
    refine ht.ok ⟨c.K, w, fun a => a = D⟩ w1 e2 σ2 _ _ rfl E2 q2 fun b e3 w3 E3 l3 q3 => ?_
    have nm := (E2.zf D rfl).2.2
    have h3 := l3.h _ _ h1 nm
    cases b with
    | true =>
      refine he.ok ⟨c.K, w, fun a => a = D⟩ w3 e3 σ2 _ _ rfl E3 q3 fun y' y e4 w4 E4 l4 d4 q4 => ?_
      have h4 := l4.h _ _ h3 (E3.zf D rfl).2.2
      refine ⟨vs, h4, A22 (by omega), xs.length - (i + 1), by omega, rfl, hlt, e4, ⟨w4.M, upd w4.H D (.lst (vs ++ [y'])), w4.F⟩, ys ++ [y], rfl, E4.writeZ rfl hD, C7, by rw [List.length_append]; simp; exact hvl, (DenAll.same (l3.f.trans l4.f) d1).app (.cons d4 .nil), q4⟩
    | false =>
      exact ⟨xs.length - (i + 1), by omega, rfl, hlt, e3, w3, ys, rfl, E3, h3, by omega, DenAll.same l3.f d1, q3⟩
  · have e : i = xs.length := by omega
    subst e
    obtain ⟨z1, z2, z3⟩ := E1.zf D rfl
    refine .inl ⟨stop, k w1 ys ⟨E.mono E1.wok E1.le0, E1.le0.toLw, ⟨D, vs, rfl, h1, z1, z3, hw0, d1⟩, fun a f => ?_, rfl⟩ (fin e1 ys q1)⟩
    have : V.ref D = .ref a := f
    cases this
    exact E.fresh hD
def B8d (pi : PAr) (pg : PyData -> PEnv -> (PEnv -> Prop) -> Prop) (pt : PTt) (pd : PDt) (cap : List (Option Nat)) (env : PEnv) (Q : SV -> PEnv -> Prop) : Prop := pi env fun xs e => xs.length < 1000000 /\ L5 xs pg pt pd (G7 cap e) fun ys => Q (.own ys) e
instance re_comp {K : Frag} {wi : TI} {g : TG} {tt : TT} {te : TE} {cap : List (Option Nat)} {pi : PAr} {pg : PyData -> PEnv -> (PEnv -> Prop) -> Prop} {pt : PTt} {pd : PDt} [hi : RI K wi pi] [hg : RG K g pg] [ht : RT K tt pt] [he : RD K te pd] : RE K (B4j wi g tt te cap) (B8d pi pg pt pd cap) where
  ok := by
    rintro c w env σ Qp Q rfl E p k
    refine hi.ok c w env σ _ _ rfl E p fun J xs e1 w1 E1 l1 wk ⟨hn, q⟩ D hD => ?_
    exact A90 (pg := pg) (pt := pt) (pd := pd) rfl E1 (wk.up E1.le0) hn q hD fun w' ys R q' => k _ _ e1 w' (R.pre l1) q'
def A3j (pi : PAr) (pg : PyData -> PEnv -> (PEnv -> Prop) -> Prop) (pt : PTt) (pd : PDt) (cap : List (Option Nat)) (i : Nat) (D : PEnds) (env : PEnv) : Prop := pi env fun xs e => xs.length < 1000000 /\ L5 xs pg pt pd (G7 cap e) fun ys => D.nx (e.set i (some (.own ys)))
instance rs_setComp {K : Frag} {wi : TI} {g : TG} {tt : TT} {te : TE} {cap : List (Option Nat)} {i : Nat} {pi : PAr} {pg : PyData -> PEnv -> (PEnv -> Prop) -> Prop} {pt : PTt} {pd : PDt} [hi : RI K wi pi] [hg : RG K g pg] [ht : RT K tt pt] [he : RD K te pd] : RS K (Z0 wi g tt te cap i) (A3j pi pg pt pd cap i) where
  ok := by
    rintro c w env σ Dp D rfl E h p
    refine hi.ok c w env σ _ _ rfl E p fun J xs e1 w1 E1 l1 wk ⟨hn, q⟩ l hl => ?_
    exact A90 (pg := pg) (pt := pt) (pd := pd) rfl E1 (wk.up E1.le0) hn q hl fun w' ys R q' => h.nx _ _ w' (R.ev.set R.val R.new) (l1.f.trans R.lw.f) q'
class RP (K : Frag) (to : TO) (po : outParam (PEnv -> (Option Int -> PEnv -> Prop) -> Prop)) : Prop where
  ok : ∀ (c : Ct) (w : Wd) (env : PEnv) (σ : St) (Qp : Option Int -> PEnv -> Prop) (Q : Option Int -> Hpp -> Prop), c.K = K -> EnvOk c w env σ -> po env Qp -> (∀ o env' w', EnvOk c w' env' σ -> Lw w w' -> Qp o env' -> Q o w'.H) -> to σ w.H Q
def A2c (env : PEnv) (Q : Option Int -> PEnv -> Prop) : Prop := Q none env
def asI (x : PyData) (k : Int -> Prop) : Prop := match x with
  | .int i => k i
  | _ => False
def B5l (pa : PDt) (env : PEnv) (Q : Option Int -> PEnv -> Prop) : Prop := pa env fun x e => asI x fun i => Q (some i) e
instance rp_no {K : Frag} : RP K A10 A2c := ⟨fun c w env σ Qp Q _ E p k => k none env w E (Lw.refl w) p⟩
instance rp_part {K : Frag} {te : TE} {pa : PDt} [ha : RW K te pa] : RP K (B4h te) (B5l pa) where
  ok := by
    rintro c w env σ Qp Q rfl E p k
    refine ha.ok c w env σ _ _ rfl E p fun x dx e1 w1 E1 l1 v1 q1 => ?_
    unfold asI at q1
    split at q1
    · exact ⟨_, v1.intE, k _ e1 w1 E1 l1 q1⟩
    · exact q1.elim
def cutD (xs : List PyData) (lo hi : Option Int) : List PyData := (xs.drop (HT.sIx xs.length 0 lo)).take (HT.sIx xs.length xs.length hi - HT.sIx xs.length 0 lo)
def pSlL (pa : PDt) (pl ph : PEnv -> (Option Int -> PEnv -> Prop) -> Prop) (env : PEnv) (Q : SV -> PEnv -> Prop) : Prop := pa env fun x e => asL x fun xs => pl e fun lo e1 => ph e1 fun hi e2 => Q (.own (cutD xs lo hi)) e2
instance re_sl {K : Frag} {te : TE} {tl th : TO} {pa : PDt} {pl ph : PEnv -> (Option Int -> PEnv -> Prop) -> Prop} [ha : RW K te pa] [hl : RP K tl pl] [hh : RP K th ph] : RE K (tSl (rSlL K) te tl th) (pSlL pa pl ph) where
  ok := by
    rintro c w env σ Qp Q rfl E p k
    refine ha.ok c w env σ _ _ rfl E p fun x dx e1 w1 E1 l1 v1 q1 => ?_
    unfold asL at q1
    split at q1
    · rename_i xs
      refine hl.ok c w1 e1 σ _ _ rfl E1 q1 fun lo e2 w2 E2 l2 q2 => ?_
      refine hh.ok c w2 e2 σ _ _ rfl E2 q2 fun hi e3 w3 E3 l3 q3 => ?_
      obtain ⟨a, vs, e, g1, g2⟩ := ((v1.mono l2).mono l3).lst E3.wok
      refine ⟨a, vs, e, g1, fun p hp => k _ _ e3 _ ((Res.lst E3 hp (xs := cutD xs lo hi) ?_).pre (l1.trans (l2.trans l3))) q3⟩
      unfold cutV cutD
      rw [g2.len]
      exact (g2.drop _).take _
    · exact q1.elim
def pRev (pa pb : PDt) (env : PEnv) (Q : SV -> PEnv -> Prop) : Prop := pa env fun x e => asL x fun xs => pb e fun k e2 => k = .int (-1) /\ Q (.own xs.reverse) e2
theorem M0 {K : Frag} {w : Wd} : ∀ {md : List Md} {vs : List V} {as : List SV}, Args K w md vs as -> as.length = vs.length /\ ∀ (i : Nat) s, as[i]? = some s -> (∃ v, vs[i]? = some v /\ VR ⟨K, w, noZ⟩ w v s) /\ ∀ u a, ¬ s.foot u a
  | _, _, _, .nil => ⟨rfl, fun i s h => by simp at h⟩
  | _, _, _, .dat h t => ⟨by simp [(M0 t).1], fun i s e => match i, e with
    | 0, e => by simp at e; subst e; exact ⟨⟨_, rfl, h⟩, fun _ _ z => z⟩
    | i + 1, e => by simpa using (M0 t).2 i s (by simpa using e)⟩
  | _, _, _, .vw h t => ⟨by simp [(M0 t).1], fun i s e => match i, e with
    | 0, e => by
      simp at e; subst e
      refine ⟨⟨_, rfl, ?_⟩, fun _ _ z => z⟩
      rcases h with h | ⟨l, vs, ys, e1, e2, h1, h2, h3⟩
      · exact .inl h
      · cases e2; exact .inr ⟨l, vs, e1, h1, h2, h3⟩
    | i + 1, e => by simpa using (M0 t).2 i s (by simpa using e)⟩
  | _, _, _, .bt h t => ⟨by simp [(M0 t).1], fun i s e => match i, e with
    | 0, e => by simp at e; subst e; exact ⟨⟨_, rfl, h⟩, fun _ _ z => z⟩
    | i + 1, e => by simpa using (M0 t).2 i s (by simpa using e)⟩
  | _, _, _, .st h t => ⟨by simp [(M0 t).1], fun i s e => match i, e with
    | 0, e => by simp at e; subst e; exact ⟨⟨_, rfl, h⟩, fun _ _ z => z⟩
    | i + 1, e => by simpa using (M0 t).2 i s (by simpa using e)⟩
theorem E5 {K : Frag} {ts : TS} {ps : PSt} [hs : RS K ts ps] {md : List Md} {psp : PSp} {vs : List V} {H : Hpp} {Q : VK} {E : XK} {N : List Str} (h : spOf K md psp vs H Q E)
    (hb : ∀ as Qp, psp as Qp -> ps ⟨fun _ => Qp (.d .none), fun s _ => Qp s, fun _ => False, fun _ => False⟩ (as.map some ++ List.replicate (N.length - md.length) none)) : ts { nx := fun _ H' => Q .non H', rt := Q } (L2.Q7 N vs) H := by
  obtain ⟨w, as, Qp, rfl, ok, a, p, k⟩ := h
  obtain ⟨hl, hat⟩ := M0 a
  have look : ∀ (i : Nat) s, (as.map some ++ List.replicate (N.length - md.length) none)[i]? = some (some s) -> as[i]? = some s := fun i s e => by
    rw [List.getElem?_append] at e
    split at e
    · rw [List.getElem?_map] at e
      cases q : as[i]? with
      | none => rw [q] at e; cases e
      | some t => rw [q] at e; cases e; rfl
    · rw [List.getElem?_replicate] at e
      split at e <;> cases e
  refine hs.ok ⟨K, w, noZ⟩ w (as.map some ++ List.replicate (N.length - md.length) none) (L2.Q7 N vs) _ _ rfl ⟨ok, Le.refl w, by simp [L2.Q7, hl, a.len], fun i s e => ?_, fun i j s t v u a e _ _ _ f => absurd f ((hat i _ (look i _ e)).2 v a), fun a z => z.elim, fun a j t u z => z.elim⟩ ⟨fun env σ w' E' _ q => ?_, fun v s _ _ w' E' h r q => k v s w' E'.wok E'.le0 h r q, fun _ _ _ _ _ z => z, fun _ _ _ _ _ z => z⟩ (hb as Qp p)
  · obtain ⟨⟨v, h1, h2⟩, _⟩ := hat i s (look i s e)
    refine ⟨v, ?_, h2⟩
    unfold L2.Q7
    rw [List.getElem?_append_left (by rw [List.length_map]; exact (List.getElem?_eq_some_iff.mp h1).1), List.getElem?_map, h1]; rfl
  · exact k .non (.d .none) w' E'.wok E'.le0 (show Den _ _ _ _ from .non) rfl q
def pLaw : PSp := fun as Q => ∃ ns : List Int, as = [.bor (ns.map .int)] /\ ns.length <= 63 /\ Q (.d (.bool true))
theorem A9w {K : Frag} {F : Hpp} : ∀ ns : List Int, DenAll K F (ns.map V.int) (ns.map .int)
  | [] => .nil
  | n :: r => .cons (.int n) (A9w r)
theorem B83 {K : Frag} : ∀ vs H Q E, B4n K vs H Q E -> spOf K [.vw] pLaw vs H Q E := by
  rintro vs H Q E ⟨a, ns, rfl, hS, hl, k⟩
  refine ⟨⟨fun _ => False, H, fun b => if b = a then H a else none⟩, [.bor (ns.map .int)], fun s => s = .d (.bool true), rfl, ⟨fun b o e => ?_, fun _ z => z.elim, fun _ z => z.elim⟩, .vw (.inl (.lst ?_ (A9w ns))) .nil, ⟨ns, rfl, hl, rfl⟩, fun v s w' ok l h r e => ?_⟩
  · dsimp only at e
    split at e
    · rename_i z; rw [z]; exact e
    · cases e
  · rcases hS with (h | ⟨o, h⟩) | h
    · exact .inl (.inl (by dsimp only; rw [if_pos rfl]; exact h))
    · exact .inl (.inr ⟨o, by dsimp only; rw [if_pos rfl]; exact h⟩)
    · exact .inr h
  · subst e
    have : v = .bl true := Den.blE h
    subst this
    exact k _
end Pu
namespace L2
open PySem PySem.Spec PyProof.Rows
end L2
namespace Pu
open PySem L2 My Prf
theorem A61 {q : Rat} {Q : SV -> Prop} : pIx (dq q) (.int 0) Q = Q (.d (.int q.num)) := rfl
theorem A60 {q : Rat} {Q : SV -> Prop} : pIx (dq q) (.int 1) Q = Q (.d (.int (q.den : Int))) := rfl
theorem A8i {i : Int} : (PyData.int i).canLay0 = true := rfl
theorem A33 {b : Bool} : (PyData.bool b).canLay0 = true := rfl
theorem A32 : PyData.none.canLay0 = true := rfl
theorem A9u {i : Int} : (PyData.int i).depth = 0 := rfl
theorem A4m {b : Bool} : (PyData.bool b).depth = 0 := rfl
theorem A9s {s : Str} : (PyData.str s).depth = 0 := rfl
theorem A4l : PyData.none.depth = 0 := rfl
theorem B3m {q : Rat} : (dq q).canLay0 = true := rfl
theorem B39 {q : Rat} : (dq q).depth = 1 := rfl
theorem A0g {i j : Int} : PyData.eqv (.int i) (.int j) = decide (i = j) := by
  show (i == j) = _
  by_cases h : i = j <;> simp [h]
theorem B4q {p q : Rat} (h1 : p.num = q.num) (h2 : (p.den : Int) = q.den) : p = q := Rat.ext h1 (by omega)
theorem A4i {p q : Rat} : PyData.eqv (dq p) (dq q) = decide (p = q) := by
  show (PyData.eqv (.int p.num) (.int q.num) && (PyData.eqv (.int (p.den : Int)) (.int (q.den : Int)) && true)) = _
  rw [A0g, A0g, Bool.and_true]
  by_cases h : p = q
  · subst h; simp
  · rw [decide_eq_false h]
    by_cases h1 : p.num = q.num
    · have h2 : ¬ (p.den : Int) = (q.den : Int) := fun z => h (B4q h1 z)
      rw [decide_eq_false h2, Bool.and_false]
    · rw [decide_eq_false h1, Bool.false_and]
theorem A1e {q : Rat} : PyData.eqv .none (dq q) = false := rfl
theorem A1d {q : Rat} : PyData.eqv (dq q) .none = false := rfl
theorem A9c {q : Rat} : isNo (dq q) = false := rfl
theorem A5i : PyData.tuple [.int 0, .int 1] = dq 0 := rfl
theorem B26 : PyData.tuple [.int 1, .int 1] = dq 1 := rfl
theorem B1r {q : Rat} : tyD (dq q) = "tuple" := rfl
theorem B30 : kitB "bool" "bool" = some true := by decide +kernel
theorem B3w : kitB "int" "int" = some true := by decide +kernel
theorem B3z : kitB "bool" "int" = some true := by decide +kernel
theorem B3q : kitB "str" "str" = some true := by decide +kernel
theorem B3u : kitB "list" "list" = some true := by decide +kernel
theorem B3t : kitB "list" "tuple" = some false := by decide +kernel
theorem B3o : kitB "tuple" "list" = some false := by decide +kernel
theorem B3p : kitB "tuple" "bool" = some false := by decide +kernel
theorem B3r : kitB "NoneType" "tuple" = some false := by decide +kernel
theorem A9f {K : Frag} {F : Hpp} : ∀ {vs : List V} {ns : List Int}, DenAll K F vs (ns.map .int) -> vs = ns.map V.int
  | _, [], .nil => rfl
  | _, n :: r, .cons h t => by rw [h.intE, A9f t]; rfl
def A55 : PSp := fun as Q => ∃ n : Int, as = [.st, .d (.int n)] /\ 0 < n /\ Sm 4000 n /\ ∀ d : Int, 0 <= d -> d < n -> Q (.d (.int d))
def A3f : PSp := fun as Q => ∃ (ns : List Int) (k : Int), as = [.bor (ns.map .int), .d (.int k)] /\ 0 <= k /\ k <= 63 /\ Q .st
theorem B4f {K : Frag} : ∀ vs H Q E, spOf K [.st, .dat] A55 vs H Q E -> A5v vs H Q E := by
  rintro vs H Q E ⟨w, as, Qp, rfl, ok, a, ⟨n, rfl, n0, sn, q⟩, k⟩
  cases a with
  | st h t => cases t with
    | dat h' t =>
      cases t
      obtain ⟨p, e, hm⟩ := h
      subst e
      rw [Den.intE h']
      refine ⟨p, n, rfl, ok.st p hm, n0, sn, fun d H' d0 d1 S' kp => ?_⟩
      have out : ∀ b o, w.H b = some o -> b ≠ p -> H' b = some o := fun b o e ne => kp b o ne e
      have pn := ok.nf p hm
      refine k (.int d) (.d (.int d)) ⟨w.M, H', w.F⟩ ⟨fun b o e => out b o (ok.sub b o e) (fun z => by rw [z, pn] at e; cases e), fun r hr => ?_, ok.nf⟩ ⟨⟨Same.refl _, fun b o e nb => out b o e (fun z => nb (z ▸ hm)), fun _ z => z, fun _ z => .inl z, fun b e => ?_⟩, fun _ _ z => .inl z⟩ (Den.int d) rfl (q d d0 d1)
      · by_cases z : r = p
        · subst z; exact S'
        · exact (ok.st r hr).kp z kp
      · cases hb : w.H b with
        | none => rfl
        | some o =>
          by_cases z : b = p
          · subst z; obtain ⟨_, _, _, hp, _⟩ := S'.ex; rw [show H' b = none from e] at hp; cases hp
          · have := out b o hb z; rw [show H' b = none from e] at this; cases this
theorem B1n {K : Frag} : ∀ vs H Q E, spOf K [.vw, .dat] A3f vs H Q E -> A2z K vs H Q E := by
  rintro vs H Q E ⟨w, as, Qp, rfl, ok, a, ⟨ns, kk, rfl, k0, k1, q⟩, k⟩
  cases a with
  | vw h t => cases t with
    | dat h' t =>
      cases t
      obtain ⟨a, us, e, hS, hd⟩ := h.lst ok
      subst e
      rw [Den.intE h']
      refine ⟨a, ns, kk, rfl, by rw [<- A9f hd]; exact hS, k0, k1, fun p H' hp S' kp => ?_⟩
      have out : ∀ b o, w.H b = some o -> H' b = some o := fun b o e => kp b o (D0 e hp) e
      refine k (.ref p) .st ⟨fun b => w.M b \/ b = p, H', w.F⟩ ⟨fun b o e => out b o (ok.sub b o e), fun r hr => ?_, fun r hr => ?_⟩ ⟨⟨Same.refl _, fun b o e _ => out b o e, fun _ z => .inl z, fun b z => ?_, fun b e => ?_⟩, fun _ _ z => .inl z⟩ ⟨p, rfl, .inr rfl⟩ rfl q
      · rcases hr with hr | rfl
        · exact (ok.st r hr).kp (ok.mne hp hr) kp
        · exact S'
      · rcases hr with hr | rfl
        · exact ok.nf r hr
        · exact ok.fnone hp
      · rcases z with z | rfl
        · exact .inl z
        · exact .inr hp
      · cases hb : w.H b with
        | none => rfl
        | some o => have := out b o hb; rw [show H' b = none from e] at this; cases this
def B7i : PSp := fun as Q => ∃ a b : Int, as = [.d (.int a), .d (.int b)] /\ Q (.d (.int ((Int.gcd a b : Nat) : Int)))
def B40 : PSp := fun as Q => ∃ t b : Int, as = [.d (.int t), .d (.int b)] /\ 0 < b /\ Sm 8000 t /\ Sm 8000 b /\ Q (.d (dq (Rat.divInt t b)))
def X6 (f : Rat -> Rat -> Rat) : PSp := fun as Q => ∃ p q : Rat, as = [.d (dq p), .d (dq q)] /\ SmQ 3900 p /\ SmQ 3900 q /\ Q (.d (dq (f p q)))
def A56 : PSp := fun as Q => ∃ p q : Rat, as = [.d (dq p), .d (dq q)] /\ SmQ 3900 p /\ SmQ 3900 q /\ q ≠ 0 /\ Q (.d (dq (p / q)))
def A46 : PSp := fun as Q => ∃ p q : Rat, as = [.d (dq p), .d (dq q)] /\ SmQ 3900 p /\ SmQ 3900 q /\ 0 < q /\ Q (.d (dq (p / q)))
def A57 : PSp := fun as Q => ∃ p q : Rat, as = [.d (dq p), .d (dq q)] /\ SmQ 3900 p /\ SmQ 3900 q /\ Q (.d (.bool (decide (p < q))))
def A59 : PSp := fun as Q => ∃ (pl : Bool) (le : Int), as = [.st, .d (.bool pl), .d (.int le)] /\ (le = 0 \/ le = 1) /\ ∀ q : Rat, 0 <= q -> (le = 1 -> 0 < q) -> SmR 41 6 q -> (pl = true -> SmR 3 1 q /\ q.den = 1) -> Q (.d (dq q))
end Pu
namespace L2
open PySem PySem.Spec PyProof.Rows
section
variable {X : Cx} {tg : Expr}
def ItrD (lo : Int) (n : Nat) : It := ⟨fun i _ => i < n, fun i H x H' => H' = H /\ x = .int (lo - i), fun i _ => n <= i⟩
theorem A5r {P : Program} {w : World} {K : PySem.W.Frag} {tg : Expr} (it : Addr) (lo : Int) (n : Nat) : Turn P w K tg (ItrD lo n) [it] it (fun i h => IsRangeIter h it (lo + (i : Nat) * (-1)) ((n : Int) - (i : Nat)) (-1)) where
  mem := List.mem_singleton.mpr rfl
  obj := fun i h st b hb => by
    cases List.mem_singleton.mp hb
    refine ⟨_, st, fun v z => ?_⟩
    have z' : Data.fields _ = Data.cell v := z
    cases z'
  keep := fun i h h' st k => k it (List.mem_singleton.mpr rfl) _ st
  item := by
    intro X hP hw hK hc i pins s σ H E I hf st hg
    subst hP hw hK
    have f := hf it (List.mem_singleton.mpr rfl)
    have W := Walks.range (prog := X.prog) (w := X.w) (I.ok.hd hc) it lo (-1) n
    refine W.item i s _ _ hg st fun v h' tk hv st' kk => ?_
    obtain ⟨t, rfl⟩ := hv
    have I1 : Inv X pins σ H { s with heap := h', toks := tk } := I.turned (fun b o hb e => kk b o (fun z => hb (List.mem_singleton.mp z)) e) f.1 f.2.1 f.2.2.2.1 f.2.2.2.2.1 f.2.2.2.2.2
    refine ⟨_, rfl, A9j (s := { s with heap := h', toks := tk }) (n := "range_iterator") st' rfl rfl (by decide) ⟨.int (lo - i), H, I1, ⟨t, ?_⟩, ⟨rfl, rfl⟩, st', fun b hb => (hf b hb).1⟩⟩
    congr 1
    omega
  done := by
    intro X hP hw hK hc i pins s σ H E I hf st hg
    subst hP hw hK
    have f := hf it (List.mem_singleton.mpr rfl)
    have hn : n <= i := hg
    exact wpAny_pyNext_range_end (I.ok.hd hc) st (by omega) fun h' eb => ⟨rfl, I.turned (t' := s.toks) (fun b o hb e => eb b o hb e) f.1 f.2.1 f.2.2.2.1 f.2.2.2.2.1 f.2.2.2.2.2⟩
  self := fun _ _ _ _ _ st h => wpAny_pyIter_rangeiter st h
theorem A0r (a b : Int) : Builtin.Range.rangeSize a b (-1) = if b < a then a - b else 0 := by
  unfold Builtin.Range.rangeSize
  rw [if_neg (by decide)]
  by_cases h : b < a
  · rw [if_pos h, if_pos h, show -(-1 : Int) = 1 from rfl, Int.ediv_one]; omega
  · rw [if_neg h, if_neg h]
theorem A40 {a b : Int} (h : (-(2 ^ 61) <= a /\ a < 2 ^ 61) /\ -(2 ^ 61) <= b /\ b < 2 ^ 61) : Builtin.Range.small a b (-1) = true := by
  obtain ⟨⟨h1, h2⟩, h3, h4⟩ := h
  unfold Builtin.Range.small
  rw [A0r]
  simp only [Builtin.Range.rangeFitsLong, Bool.and_eq_true, Bool.or_eq_true, decide_eq_true_eq, beq_iff_eq, show ¬ (-1 : Int) > 0 by decide, if_false]
  by_cases h : b < a
  · simp only [if_pos h]; omega
  · simp only [if_neg h]; omega
def B6a (ta : TA) : TI := fun σ H R => ta σ H fun vs H1 => ∃ i j : Int, vs = [.int i, .int j, .int (-1)] /\ ((-(2 ^ 61) <= i /\ i < 2 ^ 61) /\ -(2 ^ 61) <= j /\ j < 2 ^ 61) /\ R (ItrD i (i - j).toNat) H1
theorem A6h {a b c : Expr} {ta : TA} {p pos : Pos} (hg : Gl X "range") (hm : X.mg "range" = none) (ha : PA X [a, b, c] ta) (hs : starEach [a, b, c] X.env = [(false, eval a X.env), (false, eval b X.env), (false, eval c X.env)] := by rfl)
    (hs2 : starEach [b, c] X.env = [(false, eval b X.env), (false, eval c X.env)] := by rfl) : PI X tg (.Call (.Name "range" p) [a, b, c] [] pos) (B6a ta) := by
  intro pins s σ H R I h
  refine Call_ (U6 I hg hm boot_range (PyProof.Rows.callWith_type1 (thn (ha pos pins s σ H _ I h) fun us s1 ⟨vs, H1, I1, r1, q1⟩ => ?_) (hs.trans (by rw [hs2])) (by rw [hs2]; rfl)))
  obtain ⟨i, j, e, hb, q⟩ := q1
  subst e
  cases r1 with
  | cons r rr => cases rr with
    | cons r' rr => cases rr with
      | cons r2 rr =>
        cases rr
        obtain ⟨t, rfl⟩ := r
        obtain ⟨t', rfl⟩ := r'
        obtain ⟨t2, rfl⟩ := r2
        refine call_range_3 (by decide) ?_ (.inl (PyProof.noPylong_small (by decide)))
        refine wpAny_pyIter_range (IsRange.new ..) (A40 hb) ?_
        have I2 : Inv X pins σ H1 { s1 with heap := s1.heap.push { cls := .type "range", data := .fields #[.int i t, .int j t', .int (-1) t2] }, toks := s1.toks } := I1.kept fun b o e => Heap.get?_push_of_some _ e
        refine ⟨(s1.heap.push { cls := .type "range", data := .fields #[.int i t, .int j t', .int (-1) t2] }).objs.size, [(s1.heap.push { cls := .type "range", data := .fields #[.int i t, .int j t', .int (-1) t2] }).objs.size], _, _, H1, rfl,
          I2.kept (t' := s1.toks) fun b o e => Heap.get?_push_of_some _ e, A5r _ i (i - j).toNat, ?_, fun b hb => ?_, q⟩
        · have e1 : i + ((0 : Nat) : Int) * (-1) = i := by omega
          have e2 : (((i - j).toNat : Nat) : Int) - ((0 : Nat) : Int) = Builtin.Range.rangeSize i j (-1) := by rw [A0r]; split <;> omega
          show IsRangeIter _ _ (i + ((0 : Nat) : Int) * (-1)) ((((i - j).toNat : Nat) : Int) - ((0 : Nat) : Int)) (-1)
          rw [e1, e2]
          exact Heap.get?_push_size _ rfl
        · cases List.mem_singleton.mp hb
          exact I2.fpOk (Nat.le_refl _) (I2.hok.fresh (Nat.le_refl _))
def B67 (K : PySem.W.Frag) : R2 := fun x y H Q => ∃ l b xs zs, x = .ref l /\ y = .ref b /\ SqL K H l xs /\ SqL K H b zs /\ xs.length + zs.length <= sizeLine /\ ∀ p, H p = none -> Q (.ref p) (upd H p (.lst (xs ++ zs)))
theorem P5 {K : PySem.W.Frag} (hK : X.K = K) : OpR X (binaryOp .Add) (B67 K) := by
  subst hK
  intro pins s σ H x y v u Q I rx ry h
  obtain ⟨l, b, xs, zs, rfl, rfl, hH, hB, hz, q⟩ := h
  cases rx
  cases ry
  obtain ⟨its, r, hl, z⟩ := I.list hH
  obtain ⟨its2, r2, hl2, z2⟩ := I.list hB
  have n1 := r.length
  have n2 := r2.length
  obtain ⟨⟨k1, dd, da, sl⟩, m1, ho, e1, e2, e3⟩ := hl
  obtain ⟨⟨k2, dd2, da2, sl2⟩, m2, ho2, e4, e5, e6⟩ := hl2
  dsimp only at e1 e2 e3 e4 e5 e6
  subst e1 e2 e3 e4 e5 e6
  refine concat_meets ⟨_, ho, rfl⟩ ⟨_, ho2, rfl⟩ noFill_list_add seq_list_add F.slot_list_add F.entry_list_add (F.args_list_add_2 _ _) (list_addW l b its.toArray its2.toArray m1 m2 none none sl sl2 (by rw [List.size_toArray, List.size_toArray]; omega)) ⟨ho, ho2, ?_⟩
  rw [show its.toArray ++ its2.toArray = (its ++ its2).toArray by simp]
  exact ⟨.ref _, _, I.lnew (t' := s.toks) (r.append r2) (by rw [List.length_append]; omega), rfl, q _ I.fresh⟩
end
end L2
namespace L2
open PySem PySem.Spec PyProof.Rows
section
variable {X : Cx}
def A0f (T : String) : List String -> Option Bool
  | [] => some false
  | c :: r => match kitB T c with
    | some true => some true
    | some false => A0f T r
    | none => none
end
end L2
namespace Pu
open PySem L2 My Prf
def dwnD (lo : Int) (n : Nat) : List PyData := (List.range n).map fun k : Nat => PyData.int (lo - (k : Int))
theorem R7 (lo : Int) (n : Nat) : (dwnD lo n).length = n := by simp [dwnD]
theorem B1e {lo : Int} {n i : Nat} {x : PyData} (h : (dwnD lo n)[i]? = some x) : i < n /\ x = .int (lo - (i : Int)) := by
  unfold dwnD at h
  rw [List.getElem?_map] at h
  by_cases hi : i < n
  · rw [List.getElem?_range hi] at h; cases h; exact ⟨hi, rfl⟩
  · rw [List.getElem?_eq_none (by simpa using hi)] at h; cases h
def B7x (pa : PAr) (env : PEnv) (Q : List PyData -> PEnv -> Prop) : Prop := pa env fun xs e => match xs with
  | [.int i, .int j, .int k] => k = -1 /\ ((-(2 ^ 61) <= i /\ i < 2 ^ 61) /\ -(2 ^ 61) <= j /\ j < 2 ^ 61) /\ Q (dwnD i (i - j).toNat) e
  | _ => False
instance ri_rngD {K : Frag} {ta : TA} {pa : PAr} [ha : RAv K ta pa] : RI K (B6a ta) (B7x pa) where
  ok := by
    rintro c w env σ Qp R rfl E p k
    refine ha.ok c w env σ _ _ rfl E p fun vs xs e1 w1 E1 l1 v1 q1 => ?_
    split at q1
    · rename_i i j k'
      obtain ⟨rfl, hb, q1⟩ := q1
      cases v1 with | cons h t => cases t with | cons h' t => cases t with | cons h2 t =>
        cases t
        refine ⟨i, j, by rw [h.intE, h'.intE, h2.intE], hb, k _ _ e1 w1 E1 l1 ?_ q1⟩
        intro w' ok l s
        refine ⟨fun m hm => by rw [R7] at hm; exact hm, by rw [R7]; exact Nat.le_refl _, fun m v H' y hm => ?_⟩
        obtain ⟨e, y⟩ := y
        subst y
        rw [R7] at hm
        refine ⟨w', .int (i - m), e.symm, ok, Le.refl w', ?_, .int _⟩
        unfold dwnD
        rw [List.getElem?_map, List.getElem?_range hm]; rfl
    · exact q1.elim
theorem B6f {lo : Int} {n : Nat} {pg : PyData -> PEnv -> (PEnv -> Prop) -> Prop} {pb : PSt} {D : PEnds} {env : PEnv} (Iv : Nat -> PEnv -> Prop) (h0 : Iv 0 env)
    (hs : ∀ (i : Nat) e, i < n -> Iv i e -> pg (.int (lo - (i : Int))) e fun e2 => pb ⟨Iv (i + 1), D.rt, D.nx, Iv (i + 1)⟩ e2) (hd : ∀ e, Iv n e -> D.nx e) : A02 (dwnD lo n) pg pb D env :=
  ⟨Iv, h0, fun i x e hx hi => by obtain ⟨h1, rfl⟩ := B1e hx; exact hs i e h1 hi, fun e h => hd e (by rwa [R7] at h)⟩
def pCat (x y : PyData) (Q : SV -> Prop) : Prop := match x, y with
  | .list xs, .list ys => xs.length + ys.length <= 1000000 /\ Q (.own (xs ++ ys))
  | _, _ => False
instance ro_cat {K : Frag} : RO K (B67 K) pCat where
  ok := by
    rintro c w env σ x y dx dy Qp Q rfl E vx vy p k
    unfold pCat at p
    split at p
    · obtain ⟨a, vs, e, h1, h2⟩ := vx.lst E.wok
      obtain ⟨b, us, e', g1, g2⟩ := vy.lst E.wok
      exact ⟨a, b, vs, us, e, e', h1, g1, by rw [h2.len, g2.len]; exact Nat.le_trans p.1 (by decide), fun q hq => k _ _ _ (Res.lst E hq (h2.app g2)) p.2⟩
    · exact p.elim
def blsD : List PyData -> Option (List Bool)
  | [] => some []
  | .bool b :: r => (blsD r).map (b :: ·)
  | _ => none
def pAll (xs : List PyData) (Q : SV -> Prop) : Prop := match xs with
  | [.list ys] => ∃ bs, blsD ys = some bs /\ Q (.d (.bool (bs.all id)))
  | _ => False
def pAny (xs : List PyData) (Q : SV -> Prop) : Prop := match xs with
  | [.list ys] => ∃ bs, blsD ys = some bs /\ Q (.d (.bool (bs.any id)))
  | _ => False
def C0g (cs : List String) (pa : PDt) (env : PEnv) (Q : SV -> PEnv -> Prop) : Prop := pa env fun x e => cs.length <= 1000 /\ match A0f (tyD x) cs with
  | some b => Q (.d (.bool b)) e
  | none => False
theorem A39 : A0f "bool" ["list", "tuple"] = some false := by decide +kernel
theorem A36 : A0f "NoneType" ["list", "tuple"] = some false := by decide +kernel
theorem A38 : A0f "int" ["list", "tuple"] = some false := by decide +kernel
theorem A35 : A0f "str" ["list", "tuple"] = some false := by decide +kernel
theorem A37 : A0f "list" ["list", "tuple"] = some true := by decide +kernel
theorem A34 : A0f "tuple" ["list", "tuple"] = some true := by decide +kernel
end Pu
namespace Pu
open PySem L2 My Prf
theorem B5v {x : PyData} {xs : List PyData} {Q : SV -> Prop} : pGet (x :: xs) 0 Q = Q (.d x) := by unfold pGet; rw [at0]
theorem B5u {x y : PyData} {xs : List PyData} {Q : SV -> Prop} : pGet (x :: y :: xs) 1 Q = Q (.d y) := by unfold pGet; rw [at1]
theorem B79 {x y z : PyData} {xs : List PyData} {Q : SV -> Prop} : pGet (x :: y :: z :: xs) 2 Q = Q (.d z) := by unfold pGet; rw [at2]
theorem B78 {x y z u : PyData} {xs : List PyData} {Q : SV -> Prop} : pGet (x :: y :: z :: u :: xs) 3 Q = Q (.d u) := by unfold pGet; rw [at3]
theorem P4 {xs : List PyData} {i : Int} {z : PyData} {Q : SV -> Prop} (h : atI xs i = some z) (q : Q (.d z)) : pGet xs i Q := by unfold pGet; rw [h]; exact q
theorem B54 {xs : List Int} {d : Int} (h0 : 0 <= d) (h1 : d < xs.length) : ∃ z, z ∈ xs /\ atI (xs.map PyData.int) d = some (.int z) := by
  obtain ⟨n, rfl⟩ := Int.eq_ofNat_of_zero_le h0
  have hn : n < xs.length := by omega
  refine ⟨xs[n], List.getElem_mem hn, M8 ?_⟩
  rw [List.getElem?_map, List.getElem?_eq_getElem hn]; rfl
theorem B2 {α : Type} {f : α -> PyData} {xs : List α} {n : Nat} {a : α} {Q : SV -> Prop} (h : xs[n]? = some a) (q : Q (.d (f a))) : pGet (xs.map f) (n : Int) Q :=
  P4 (M8 (by rw [List.getElem?_map, h]; rfl)) q
theorem A64 {α : Type} {f : α -> PyData} {xs : List α} {a : α} {Q : SV -> Prop} (h : xs[xs.length - 1]? = some a) (h1 : 1 <= xs.length) (q : Q (.d (f a))) : pGet (xs.map f) (-1) Q := by
  refine P4 (z := f a) ?_ q
  unfold L2.atI ixN
  rw [if_neg (by decide), if_pos (by rw [List.length_map]; omega)]
  show (xs.map f)[((-1 : Int) + ((xs.map f).length : Int)).toNat]? = _
  rw [show ((-1 : Int) + ((xs.map f).length : Int)).toNat = xs.length - 1 by rw [List.length_map]; omega, List.getElem?_map, h]; rfl
end Pu
namespace Pu
open PySem L2 My Prf
theorem pIxT {xs : List PyData} {i : Int} {Q : SV -> Prop} : pIx (.tuple xs) (.int i) Q = pGet xs i Q := rfl
end Pu
namespace L2
open PySem PySem.Spec PyProof.Rows
structure QE (X : Cx) (e : Expr) (t : TE) : Prop where
  out : PE X e  t
structure QT (X : Cx) (e : Expr) (t : TT) : Prop where
  out : PT X e  t
structure QW (X : Cx) (e : Expr) (t : TT) : Prop where
  out : PW X e  t
structure QA (X : Cx) (e : List Expr) (t : TA) : Prop where
  out : PA X e  t
structure QSs (X : Cx) (e : List Stmt) (t : TS) : Prop where
  out : PSs X e  t
structure QS (X : Cx) (e : Stmt) (t : TS) : Prop where
  out : PS X e  t
structure QGs (X : Cx) (e : List Expr) (t : TGs) : Prop where
  out : PGs X e  t
structure QG (X : Cx) (e : Expr) (t : TG) : Prop where
  out : PG X e  t
structure QI (X : Cx) (e e2 : Expr) (t : TI) : Prop where
  out : PI X e e2  t
structure QTs (X : Cx) (e : List Expr) (t : TT) : Prop where
  out : PTs X e  t
structure QO (X : Cx) (e : Option Expr) (t : TO) : Prop where
  out : PO X e  t
section
variable {X : Cx}
theorem qpv (i: Nat) {x : Str} {pos : Pos} (hN: X.N[i]? = some x := by rfl) (hv: Vis X.env.scope x := by first | exact Or.inl rfl | exact Or.inr (Or.inl rfl) | exact Or.inr (Or.inr rfl)) (hd: (x == ("__debug__" : Str)) = false := by decide) (hcd: (x == ("__classdict__" : Str)) = false := by decide) : QE X (.Name x pos) (tVar i) := ⟨pv i hN hv hd hcd⟩
theorem A2 {i j pos} : QE X (.Constant (.int i) j pos) (tC (.int i)) := ⟨D1 ⟩
theorem G2 {b j pos} : QE X (.Constant (.bool b) j pos) (tC (.bl b)) := ⟨C0d ⟩
theorem M4 {j pos} : QE X (.Constant .none j pos) (tC .non) := ⟨B7o ⟩
theorem Z5 {x : Str} {v : V} {u : Value} {pos : Pos} (hg: Gl X x) (hm: X.mg x = none) (hv: bootBuiltins x = some u) (r: RelV v u) (hn: x ≠ "__name__" := by decide) (hd: (x == ("__debug__" : Str)) = false := by decide) : QE X (.Name x pos) (tC v) := ⟨B5c hg hm hv r hn hd⟩
theorem B5 {op : Operator} {r : R2} (ho: OpR X (binaryOp op) r) (ha: QE X a ta) (hb: QE X b tb) : QE X (.BinOp a op b pos) (tOp r ta tb) := ⟨J8 ho ha.out hb.out⟩
theorem X4 {op : UnaryOp} {r : V -> Hp -> VK -> Prop} (ho: UnR X (unaryOp op) r) (ha: QE X a ta) : QE X (.UnaryOp op a pos) (tUn r ta) := ⟨C0a ho ha.out⟩
theorem O6 {op : CmpOp} {r : R2} (ho: OpR X (compareOp op) r) (ha: QE X a ta) (hb: QE X b tb) (hm: behindInMarks op b = false) : QE X (.Compare a [op] [b] pos) (tOp r ta tb) := ⟨A0b ho ha.out hb.out hm⟩
theorem B6 {op : CmpOp} {r : R2} (ho: OpR X (compareOp op) r) (ha: QE X a ta) (hb: QE X b tb) (hm: behindInMarks op b = false) : QT X (.Compare a [op] [b] pos) (B4g (tOp r ta tb)) := ⟨A54 ho ha.out hb.out hm⟩
theorem B4t {rest : List Expr} (ha: QE X a ta) (hb: QE X (.BoolOp .And (b :: rest) pos) tb) : QE X (.BoolOp .And (a :: b :: rest) pos) (B4l ta tb) := ⟨B7q ha.out hb.out⟩
theorem B68 {rest : List Expr} (ha: QE X a ta) (hb: QE X (.BoolOp .Or (b :: rest) pos) tb) : QE X (.BoolOp .Or (a :: b :: rest) pos) (tOrV ta tb) := ⟨C0b ha.out hb.out⟩
theorem A51 {op} {t : TE} (h: QE X a t) : QE X (.BoolOp op [a] pos) t := ⟨B7n h.out⟩
theorem S3 {rest : List Expr} (ha: QT X a tA) (hb: QW X (.BoolOp .And (b :: rest) pos) tB') : QW X (.BoolOp .And (a :: b :: rest) pos) (tAnd tA tB') := ⟨B7f ha.out hb.out⟩
theorem K7 {rest : List Expr} (ha: QT X a tA) (hb: QW X (.BoolOp .Or (b :: rest) pos) tB') : QW X (.BoolOp .Or (a :: b :: rest) pos) (tOr tA tB') := ⟨B98 ha.out hb.out⟩
theorem O2 (ha: QT X a tA) : QW X (.BoolOp .And [a] pos) tA := ⟨B4x ha.out⟩
theorem J3 (ha: QT X a tA) : QW X (.BoolOp .Or [a] pos) tA := ⟨B7e ha.out⟩
theorem E7 (ha: QT X a tA) : QT X (.UnaryOp .Not a pos) (tNot tA) := ⟨B7g ha.out⟩
theorem C9 {e : Expr} {t : TE} (h: QE X e t) (he: ∀ whole, isTrue e X.env whole = (do let v <- whole; standAt e.pos; holding [v] (truthy v)) := by intro _; rfl) : QT X e (tB t) := ⟨B13 h.out he⟩
theorem S5 {c : Expr} (hc: QT X c tA) (ha: QE X a ta) (hb: QE X b tb) : QE X (.IfExp c a b pos) (tIf tA ta tb) := ⟨B0w hc.out ha.out hb.out⟩
theorem F1 (hc: X.calm = true) (C: CompSc X scope cl N' cap) (hi: QI X tg iter wi) (hg: ∀ s3 H3 fp, QG (X.block scope cl N' s3 H3 fp) tg g) (ht: ∀ s3 H3 fp, QTs (X.block scope cl N' s3 H3 fp) ifs tt) (he: ∀ s3 H3 fp, QE (X.block scope cl N' s3 H3 fp) elt te) (hs: ∀ x, foldedSetIterable iter X.env x = pure x := by intro _; rfl) : QE X (.ListComp elt [⟨tg, iter, ifs, 0⟩] scope pos) (B4j wi g tt te cap) := ⟨B5a hc C hi.out (fun a b c => (hg a b c).out) (fun a b c => (ht a b c).out) (fun a b c => (he a b c).out) hs⟩
theorem S4 (hc: X.calm = true) (hN: X.N.Nodup) (hi: X.N[i]? = some y) (hy: X.env.scope.names.lookup y = some .local) (C: CompSc X scope cl N' cap) (hit: QI X tg iter wi) (hg: ∀ s3 H3 fp, QG (X.block scope cl N' s3 H3 fp) tg g) (ht: ∀ s3 H3 fp, QTs (X.block scope cl N' s3 H3 fp) ifs tt) (he: ∀ s3 H3 fp, QE (X.block scope cl N' s3 H3 fp) elt te) (hsw: swapsWith (.ListComp elt [⟨tg, iter, ifs, 0⟩] scope pos) (some (.Name y py)) spos.line X.env = pure true) (hs: ∀ x, foldedSetIterable iter X.env x = pure x := by intro _; rfl) : QS X (.Assign [.Name y py] (.ListComp elt [⟨tg, iter, ifs, 0⟩] scope pos) spos) (Z0 wi g tt te cap i) := ⟨A43 hc hN hi hy C hit.out (fun a b c => (hg a b c).out) (fun a b c => (ht a b c).out) (fun a b c => (he a b c).out) hsw hs⟩
theorem D5 {x1} (h: QA X es t) : QE X (.Tuple es x1 pos) (tTup t) := ⟨B7m h.out⟩
theorem D8 (h: QA X es t) : QE X (.List es pos) (tLst t) := ⟨B16 h.out⟩
theorem A0t {lo hi : Option Expr} {r : V -> Option Int -> Option Int -> Hp -> VK -> Prop} (hr: SlR X r) (he: QE X e te) (hl: QO X lo tl) (hu: QO X hi th) : QE X (.Subscript e (.Slice lo hi none p2) pos) (tSl r te tl th) := ⟨B0v hr he.out hl.out hu.out⟩
theorem A3a  : QO X none A10 := ⟨B45 ⟩
theorem A29 (h: QE X e te) : QO X (some e) (B4h te) := ⟨B44 h.out⟩
theorem A7 {r : R2} (hr: IxR X r) (ha: QE X a ta) (hb: QE X b tb) (hs: B0e b) : QE X (.Subscript a b pos) (tOp r ta tb) := ⟨A0a hr ha.out hb.out hs⟩
theorem A5 (F: FnOk X.prog X.w X.K X.mg X.base CX k f fd ps sp) (hr: Room k X.A) (hg: Gl X x) (hm: X.mg x = some (.ref f)) (hk: PySem.W.keepIn X.K (.ref f) = true) (hb: Binds X.K fd ps ds) (hd: Vals dvs ds) (hx: A4v CX X E) (ha: QA X (e :: es) t) (hdb: (x == ("__debug__" : Str)) = false := by decide) (he: starEach (e :: es) X.env = (false, eval e X.env) :: starEach es X.env := by rfl) (hpl: (backTo pos (starEach es X.env)).any (·.1) = false := by rfl) : QE X (.Call (.Name x p) (e :: es) [] pos) (B4k sp dvs E t) := ⟨B5b F hr hg hm hk hb hd hx ha.out hdb he hpl⟩
theorem B7 {id : String} (hc: CallR X (.builtin id) r) (hg: Gl X x) (hm: X.mg x = none) (hv: bootBuiltins x = some (.builtin id)) (ha: QA X (e :: es) t) (hn: x ≠ "__name__" := by decide) (hdb: (x == ("__debug__" : Str)) = false := by decide) (he: starEach (e :: es) X.env = (false, eval e X.env) :: starEach es X.env := by rfl) (hpl: (backTo pos (starEach es X.env)).any (·.1) = false := by rfl) : QE X (.Call (.Name x p) (e :: es) [] pos) (tCB r t) := ⟨A3h hc hg hm hv ha.out hn hdb he hpl⟩
theorem J0 (hc: CallR X (.type T) r) (hg: Gl X x) (hm: X.mg x = none) (hv: bootBuiltins x = some (.type T)) (ha: QA X (e :: es) t) (hn: x ≠ "__name__" := by decide) (hdb: (x == ("__debug__" : Str)) = false := by decide) (he: starEach (e :: es) X.env = (false, eval e X.env) :: starEach es X.env := by rfl) (hpl: (backTo pos (starEach es X.env)).any (·.1) = false := by rfl) : QE X (.Call (.Name x p) (e :: es) [] pos) (tCB r t) := ⟨A0x hc hg hm hv ha.out hn hdb he hpl⟩
theorem F4 {K : PySem.W.Frag} (hK : X.K = K) {id : String} (pa: PlainAttrs T) (slot: Slot T name id) (hty: typeOf (.builtin id) = pure (.type "method_descriptor")) (hm: MtR X id r) (ho: QE X o to) (ha: QA X (e :: es) t) (hbase: attributeBase o name X.env (eval o X.env) = eval o X.env := by rfl) (hfew: ((backTo cpos (starEach (e :: es) X.env)).all (fun x => !x.1) && (backToKw cpos (keywordEach [] X.env)).all (fun x => x.1.isSome)
      && decide ((e :: es).length + ([] : List Keyword).length + (if ([] : List Keyword).isEmpty then 0 else 1) < 30)) = true := by rfl) (hline: (apos.endLine == cpos.line) = true := by rfl) (hs: starEach (e :: es) X.env = (false, eval e X.env) :: starEach es X.env := by rfl) (hplain: (backTo cpos (starEach es X.env)).any (·.1) = false := by rfl) : QE X (.Call (.Attribute o name apos) (e :: es) [] cpos) (tBM K T r to t) := by subst hK; exact ⟨C0c pa slot hty hm ho.out ha.out hbase hfew hline hs hplain⟩
theorem B0q {K : PySem.W.Frag} (hK : X.K = K) {id : String} (pa: PlainAttrs T) (slot: Slot T name id) (hty: typeOf (.builtin id) = pure (.type "method_descriptor")) (hm: MtR X id r) (ho: QE X o to) (hbase: attributeBase o name X.env (eval o X.env) = eval o X.env := by rfl) (hline: (apos.endLine == cpos.line) = true := by rfl) : QE X (.Call (.Attribute o name apos) [] [] cpos) (tBM0 K T r to) := by subst hK; exact ⟨B7p pa slot hty hm ho.out hbase hline⟩
theorem A1  : QA X [] tNil := ⟨A0z ⟩
theorem A0 (ha: QE X e te) (hr: QA X es t) (hs: starEach (e :: es) X.env = (false, eval e X.env) :: starEach es X.env := by rfl) : QA X (e :: es) (G5 te t) := ⟨N9 ha.out hr.out hs⟩
theorem C0  : QSs X [] B4i := ⟨A15 ⟩
theorem B0 {st : Stmt} (h1: QS X st t) : QSs X [st] t := ⟨P1 h1.out⟩
theorem A6 {st : Stmt} {rest : List Stmt} (h1: QS X st t) (h2: QSs X rest u) : QSs X (st :: rest) (tSeq t u) := ⟨F9 h1.out h2.out⟩
theorem A50 {st : Stmt} : QS X st A5t := ⟨B0s ⟩
theorem B4 (he: QE X e te) : QS X (.Return (some e) pos) (tRet te) := ⟨A3e he.out⟩
theorem G8 (he: QE X e te) (hs: swapsWith e none pos.line X.env = pure false := by rfl) : QS X (.Expr e pos) (A4y te) := ⟨B42 he.out hs⟩
theorem D2 {c : Expr} {a b : List Stmt} {tc : TT} (hc: QT X c tc) (ha: QSs X a t) (hb: QSs X b u) : QS X (.If c a b pos) (tIfS tc t u) := ⟨B41 hc.out ha.out hb.out⟩
theorem O3 {c : Expr} {body : List Stmt} {tc : TT} {tb : TS} (hp: PassesOwn (model X.prog X.w) X.A X.env X.xe) (hc: QT X c tc) (hb: QSs X body tb) : QS X (.While c body [] pos) (A5s tc tb) := ⟨B0r hp hc.out hb.out⟩
theorem J4 {iter : Expr} {body : List Stmt} {wi : TI} {g : TG} {tb : TS} {pos : Pos} (hp: PassesOwn (model X.prog X.w) X.A X.env X.xe) (hc: X.calm = true) (hi: QI X tg iter wi) (hg: QG X tg g) (hb: QSs X body tb) (hs: ∀ x, foldedSetIterable iter X.env x = pure x := by intro _; rfl) : QS X (.For tg iter body [] pos) (tFor wi g tb) := ⟨B14 hp hc hi.out hg.out hb.out hs⟩
theorem B3 {i : Nat} {x : Str} {e : Expr} {te : TE} {pos' : Pos} (hN: X.N.Nodup) (hi: X.N[i]? = some x) (hx: Loc X.env.scope x) (he: QE X e te) (hs: swapsWith e (some (.Name x pos')) pos.line X.env = pure false := by rfl) (hf: X.fn x = true \/ X.env.scope.names.lookup x = some .local := by first | exact .inl rfl | exact .inr rfl | assumption) : QS X (.Assign [.Name x pos'] e pos) (tAsg te (Q8 i)) := ⟨X5 hN hi hx he.out hs hf⟩
theorem K3 {i j : Nat} {x y : Str} {a b : Expr} {ta : TA} {px py pt : Pos} {kt k2 pt2} (hc: X.calm = true) (hN: X.N.Nodup) (hi: X.N[i]? = some x) (hj: X.N[j]? = some y) (hij: i ≠ j) (hx: X.env.scope.names.lookup x = some .local) (hy: X.env.scope.names.lookup y = some .local) (ha: QA X [a, b] ta) (hw: swappedStores [.Tuple [.Name x px, .Name y py] kt pt] (.Tuple [a, b] k2 pt2) X.env = pure (some [x, y])) (hs: swapsWithSole [.Tuple [.Name x px, .Name y py] kt pt] (.Tuple [a, b] k2 pt2) pos.line X.env = pure false := by rfl) : QS X (.Assign [.Tuple [.Name x px, .Name y py] kt pt] (.Tuple [a, b] k2 pt2) pos) (tPar i j ta) := ⟨B7h hc hN hi hj hij hx hy ha.out hw hs⟩
theorem B4s {tg e : Expr} {te : TE} {g : TG} (he: QE X e te) (hg: QG X tg g) (hs: swapsWithSole [tg] e pos.line X.env = pure false := by rfl) (hw: swappedStores [tg] e X.env = pure none := by rfl) (h1: (assignEach [tg] X.env).map (·.2) = [assign tg X.env] := by rfl) : QS X (.Assign [tg] e pos) (tAsg te g) := ⟨A3g he.out hg.out hs hw h1⟩
theorem B8 {i : Nat} {x : Str} (hN: X.N.Nodup) (hi: X.N[i]? = some x) (hx: Loc X.env.scope x) (hf: X.fn x = true \/ X.env.scope.names.lookup x = some .local := by first | exact .inl rfl | exact .inr rfl | assumption) : QG X (.Name x pos) (Q8 i) := ⟨A6j hN hi hx hf⟩
theorem O4  : QGs X [] gNil := ⟨B48 ⟩
theorem E8 {e : Expr} {es : List Expr} {t : TG} {u : TGs} (h1: QG X e t) (h2: QGs X es u) (hs: (assignEach (e :: es) X.env).map (·.2) = assign e X.env :: (assignEach es X.env).map (·.2) := by rfl) : QGs X (e :: es) (A2m t u) := ⟨B0u h1.out h2.out hs⟩
theorem O5 {K : PySem.W.Frag} {pos : Pos} {es : List Expr} {k : Nat} {t : TGs} {n : Nat} (h: X.K = K) (hc: X.calm = true) (hg: QGs X es t) (hn: (assignEach es X.env).length = n := by rfl) (hst: (assignEach es X.env).findIdx? (·.1) = none := by rfl) : QG X (.Tuple es k pos) (gTup K n t) := ⟨B49 h hc hg.out hn hst⟩
theorem N0 {a : Expr} {ta : TA} {p pos : Pos} (hg: Gl X "range") (hm: X.mg "range" = none) (ha: QA X [a] ta) (hs: starEach [a] X.env = [(false, eval a X.env)] := by rfl) : QI X tg (.Call (.Name "range" p) [a] [] pos) (B6b ta) := ⟨A0w hg hm ha.out hs⟩
theorem A42 {a b c : Expr} {ta : TA} {p pos : Pos} (hg: Gl X "range") (hm: X.mg "range" = none) (ha: QA X [a, b, c] ta) (hs: starEach [a, b, c] X.env = [(false, eval a X.env), (false, eval b X.env), (false, eval c X.env)] := by rfl) (hs2: starEach [b, c] X.env = [(false, eval b X.env), (false, eval c X.env)] := by rfl) : QI X tg (.Call (.Name "range" p) [a, b, c] [] pos) (B6a ta) := ⟨A6h hg hm ha.out hs hs2⟩
theorem D7 {K : PySem.W.Frag} {l : Expr} {tl : TE} (h: X.K = K) (hl: QE X l tl) : QI X tg l (iSq K tl) := ⟨B7j h hl.out⟩
theorem F0 {X : Cx} : QTs X [] tYes := ⟨B4z ⟩
theorem A28 {X : Cx} {c : Expr} {t : TT} (h: QT X c t) : QTs X [c] t := ⟨B4y h.out⟩
theorem QW.pt {X : Cx} {e : Expr} {t : TT} (h : QW X e t) : QT X e t := ⟨h.out.pt⟩
end
end L2
namespace Pu
open PySem L2 My Prf
theorem B9j (n : Int) : PyData.tuple [.int n, .int 1] = dq (n : Rat) := by
  unfold dq; rw [Rat.num_intCast, Rat.den_intCast]; rfl
theorem A12 {k : Nat} {n : Int} (h : Sm k n) : SmR k 1 (n : Rat) := ⟨by rw [Rat.num_intCast]; exact h, by rw [Rat.den_intCast]; unfold Sm; decide⟩
theorem B4o {k : Nat} {q : Rat} (h : SmR k 1 q) : q.den = 1 := by
  have h1 : (q.den : Int).natAbs < 2 ^ 1 := h.2
  have h2 := q.den_nz
  omega
theorem B9d {n : Int} (h : 0 <= n) : (0 : Rat) <= (n : Rat) := Rat.intCast_nonneg.mpr h
theorem B9c {n : Int} (h : 0 < n) : (0 : Rat) < (n : Rat) := Rat.intCast_pos.mpr h
theorem A0n {z : Int} (h0 : 0 <= z) (h1 : z <= 1000000000000000000) : Sm 4000 z := Sm.mono (k := 64) (B0m (B := 1000000000000000000) (by omega) (by omega) (by decide)) (by decide)
theorem A3p {c : Rat × Rat} {Q : SV -> Prop} : pIx (dcn c) (.int 0) Q = Q (.d (dq c.1)) := by unfold dcn; rw [pIxT, B5v]
theorem A3o {c : Rat × Rat} {Q : SV -> Prop} : pIx (dcn c) (.int 1) Q = Q (.d (dq c.2)) := by unfold dcn; rw [pIxT, B5u]
theorem B1g {lo : Int} {n : Nat} {pg : PyData -> PEnv -> (PEnv -> Prop) -> Prop} {pt : PTt} {pd : PDt} {e0 : PEnv} {Fin : List PyData -> Prop} (Pv : Nat -> PEnv -> List PyData -> Prop) (h0 : Pv 0 e0 [])
    (hs : ∀ (i : Nat) e ys, i < n -> Pv i e ys -> pg (.int (lo + (i : Int))) e fun e2 => pt e2 fun b e3 => if b = true then pd e3 fun y e4 => Pv (i + 1) e4 (ys ++ [y]) else Pv (i + 1) e3 ys) (hd : ∀ e ys, Pv n e ys -> Fin ys) : L5 (rngD lo n) pg pt pd e0 Fin :=
  ⟨Pv, h0, fun i x e ys hx hi => by obtain ⟨h1, rfl⟩ := A26 hx; exact hs i e ys h1 hi, fun e ys h => hd e ys (by rwa [M9] at h)⟩
theorem G1 {α : Type} {f : α -> PyData} {xs : List α} {pg : PyData -> PEnv -> (PEnv -> Prop) -> Prop} {pt : PTt} {pd : PDt} {e0 : PEnv} {Fin : List PyData -> Prop} (Pv : Nat -> PEnv -> List PyData -> Prop) (h0 : Pv 0 e0 [])
    (hs : ∀ (i : Nat) a e ys, xs[i]? = some a -> Pv i e ys -> pg (f a) e fun e2 => pt e2 fun b e3 => if b = true then pd e3 fun y e4 => Pv (i + 1) e4 (ys ++ [y]) else Pv (i + 1) e3 ys) (hd : ∀ e ys, Pv xs.length e ys -> Fin ys) : L5 (xs.map f) pg pt pd e0 Fin := by
  refine ⟨Pv, h0, fun i x e ys hx hi => ?_, fun e ys h => hd e ys (by rwa [List.length_map] at h)⟩
  rw [List.getElem?_map] at hx
  cases ha : xs[i]? with
  | none => rw [ha] at hx; cases hx
  | some a => rw [ha] at hx; cases hx; exact hs i a e ys ha hi
theorem U9 {α : Type} {f : α -> PyData} {xs : List α} {pg : PyData -> PEnv -> (PEnv -> Prop) -> Prop} {pb : PSt} {D : PEnds} {env : PEnv} (Iv : Nat -> PEnv -> Prop) (h0 : Iv 0 env)
    (hs : ∀ (i : Nat) a e, xs[i]? = some a -> Iv i e -> pg (f a) e fun e2 => pb ⟨Iv (i + 1), D.rt, D.nx, Iv (i + 1)⟩ e2) (hd : ∀ e, Iv xs.length e -> D.nx e) : A02 (xs.map f) pg pb D env := by
  refine ⟨Iv, h0, fun i x e hx hi => ?_, fun e h => hd e (by rwa [List.length_map] at h)⟩
  rw [List.getElem?_map] at hx
  cases ha : xs[i]? with
  | none => rw [ha] at hx; cases hx
  | some a => rw [ha] at hx; cases hx; exact hs i a e ha hi
theorem Y1 (cs : List (Rat × Rat)) : (PyData.list (cs.map dcn)).canLay0 = true := A9x cs
theorem B4a (cs : List (Rat × Rat)) : (PyData.list (cs.map dcn)).depth <= 60 := by
  show PyData.depthAll (cs.map dcn) + 1 <= 60
  have := J6 cs
  omega
theorem B9h (cs : List (Rat × Rat)) : PyData.eqv (.list (cs.map dcn)) (.list (cs.map dcn)) = true := PySem.SeqAt.eqv_refl _ (Y1 cs)
theorem A5o : PyData.tuple [.int 2, .int 3] = dq (Rat.divInt 2 3) := by
  unfold dq
  rw [show (Rat.divInt 2 3).num = 2 by decide +kernel, show (Rat.divInt 2 3).den = 3 by decide +kernel]; rfl
theorem A9i : PyData.tuple [.int 1, .int 2] = dq (Rat.divInt 1 2) := by
  unfold dq
  rw [show (Rat.divInt 1 2).num = 1 by decide +kernel, show (Rat.divInt 1 2).den = 2 by decide +kernel]; rfl
end Pu
namespace Pu
open PySem L2 My Prf
end Pu
namespace Pu
open PySem L2 My Prf
theorem A4u {q : Rat} {k : List PyData -> Prop} : R0 (dq q) k = k [.int q.num, .int (q.den : Int)] := rfl
theorem A6v {q : Rat} {Q : SV -> Prop} : pLen [dq q] Q = Q (.d (.int 2)) := rfl
theorem A01 {xs : List PyData} {Q : SV -> Prop} : pLen [.list xs] Q = Q (.d (.int xs.length)) := rfl
theorem A3n {xs : List PyData} {Q : SV -> Prop} : pLen [.tuple xs] Q = Q (.d (.int xs.length)) := rfl
theorem A9o : PyData.eqv (.list []) (.list []) = true := rfl
theorem A8h : (PyData.list []).canLay0 = true := rfl
theorem A9t : (PyData.list []).depth = 1 := rfl
end Pu
namespace Pu
open PySem L2 My Prf
theorem A5m {i : Int} : tyD (.int i) = "int" := rfl
theorem A2x {b : Bool} : tyD (.bool b) = "bool" := rfl
theorem A5l {s : Str} : tyD (.str s) = "str" := rfl
theorem A2u : tyD .none = "NoneType" := rfl
theorem A2v {xs : List PyData} : tyD (.list xs) = "list" := rfl
theorem A5k {xs : List PyData} : tyD (.tuple xs) = "tuple" := rfl
theorem A5n {c : Rat × Rat} : tyD (dcn c) = "tuple" := rfl
theorem Y7 {xs : List PyData} {k : List PyData -> Prop} : R0 (.list xs) k = k xs := rfl
theorem A1w {xs : List PyData} {k : List PyData -> Prop} : R0 (.tuple xs) k = k xs := rfl
theorem A1x {c : Rat × Rat} {k : List PyData -> Prop} : R0 (dcn c) k = k [dq c.1, dq c.2] := rfl
theorem A08 : isNo .none = true := rfl
theorem A4d {i : Int} : isNo (.int i) = false := rfl
theorem A1a {b : Bool} : isNo (.bool b) = false := rfl
theorem A4c {s : Str} : isNo (.str s) = false := rfl
theorem A09 {xs : List PyData} : isNo (.list xs) = false := rfl
theorem A4b {xs : List PyData} : isNo (.tuple xs) = false := rfl
end Pu
namespace Pu
open PySem L2 My Prf
theorem sm_half : SmR 1 2 (Rat.divInt 1 2) := SmR.low (by unfold Sm; decide) (by unfold Sm; decide) (by decide)
end Pu
namespace L2
open PySem PySem.Spec PyProof.Rows
section
variable {X : Cx} {pins : List (Addr × Obj)} {σ : St} {H : Hp} {s : Shared} {h' : Heap}
theorem Inv.turnL {t' : Nat} {wr : List Addr} (I : Inv X pins σ H s) (k : ∀ b o, b ∉ wr -> s.heap.get? b = some o -> h'.get? b = some o) (hf : ∀ b ∈ wr, FpOk X pins H b) : Inv X pins σ H { s with heap := h', toks := t' } := by
  have nw : ∀ b u, H b = some u -> b ∉ wr := fun b u e z => by have := (hf b z).1; rw [e] at this; cases this
  refine I.call (g' := s.gens) (d' := s.drawn) (ch := wr) ⟨fun b o e _ _ hb => k b o hb e, fun b o e _ _ hb => ⟨o.slots, k b o hb e⟩, fun _ _ _ n _ => n, fun b o e hb => ⟨o, k b o hb e⟩, fun _ _ e => e, fun _ _ _ e => e, fun b ps e => ⟨#[], by rw [e]; simp⟩⟩ (fun b u e => ?_) I.bare fun b hb => ?_
  · refine (I.hok b u e).stay (fun c v hc q => k c v ?_ q) (fun _ q => q) fun _ _ q => q
    rcases hc with z | z
    · rw [z]; exact nw b u e
    · exact nw c _ z
  · have f := hf b hb
    exact ⟨f.2.2.2.1, f.2.1, f.2.2.2.2.1, f.2.2.2.2.2⟩
theorem Inv.laidL {t' : Nat} {wr : List Addr} {T : Addr} {o : HO} (I : Inv X pins σ H s) (k : ∀ b u, b ∉ wr -> s.heap.get? b = some u -> h'.get? b = some u) (hf : ∀ b ∈ wr, FpOk X pins H b) (hp : s.heap.objs.size <= T) (new : ObjOk X.prog X.w (upd H T o) h' T o) :
    Inv X pins σ (upd H T o) { s with heap := h', toks := t' } := by
  have hn := I.hok.fresh hp
  have nw : ∀ b u, H b = some u -> b ∉ wr := fun b u e z => by have := (hf b z).1; rw [e] at this; cases this
  refine I.call (g' := s.gens) (d' := s.drawn) (ch := wr) ⟨fun b u e _ _ hb => k b u hb e, fun b u e _ _ hb => ⟨u.slots, k b u hb e⟩, fun b u e n _ => by rw [C3 (Nat.ne_of_lt (Nat.lt_of_lt_of_le (Heap.lt_size e) hp))]; exact n, fun b u e hb => ⟨u, k b u hb e⟩,
    fun b xs e => by rw [C3 (D0 e hn)]; exact e, fun b u xs e => by rw [C3 (D0 e hn)]; exact e, fun b ps e => ⟨#[], by rw [C3 (D0 e hn), e]; simp⟩⟩ (fun b u e => ?_) I.bare fun b hb => ?_
  · by_cases hb : b = T
    · subst hb; rw [C7] at e; cases e; exact new
    · rw [C3 hb] at e
      refine (I.hok b u e).stay (fun c v hc q => k c v ?_ q) (fun c q => by rw [C3 (D0 q hn)]; exact q) fun c xs q => by rw [C3 (D0 q hn)]; exact q
      rcases hc with z | z
      · rw [z]; exact nw b u e
      · exact nw c _ z
  · have f := hf b hb
    exact ⟨f.2.2.2.1, f.2.1, f.2.2.2.2.1, f.2.2.2.2.2⟩
end
def Itz (K : PySem.W.Frag) (l1 l2 : Addr) : It :=
  ⟨fun i H => ∃ xs ys x y, SqL K H l1 xs /\ SqL K H l2 ys /\ xs[i]? = some x /\ ys[i]? = some y,
   fun i H v H' => ∃ T x y, v = .ref T /\ H T = none /\ H' = upd H T (.tup [x, y]) /\ (∀ xs, SqL K H l1 xs -> xs[i]? = some x) /\ ∀ ys, SqL K H l2 ys -> ys[i]? = some y,
   fun i H => ∃ xs ys, SqL K H l1 xs /\ SqL K H l2 ys /\ (xs.length <= i \/ ys.length <= i)⟩
theorem Y9 : ∀ {xs : List V} {us : List Value} {i : Nat} {x : V}, Vals xs us -> xs[i]? = some x -> ∃ u, us[i]? = some u /\ RelV x u
  | _, _, _, _, .nil, e => by simp at e
  | _, _, 0, _, .cons h _, e => by simp at e; subst e; exact ⟨_, rfl, h⟩
  | _, _, i + 1, x, .cons _ t, e => by
    obtain ⟨u, h1, h2⟩ := Y9 (i := i) (x := x) t (by simpa using e)
    exact ⟨u, by simpa using h1, h2⟩
theorem B0j {P : Program} {w : World} {K : PySem.W.Frag} {es : List Expr} {kk : Nat} {tp : Pos} {z TI TO i1 i2 l1 l2 : Addr} (D : ZipApart z TI TO i1 i2 l1 l2) :
    Turn P w K (.Tuple es kk tp) (Itz K l1 l2) [z, TI, TO, i1, i2] z (fun i h => IsZip h z TI TO .none /\ IsPair h TI (.ref i1) (.ref i2) /\ (∃ a b, IsPair h TO a b) /\ h.IsListIter i1 l1 i /\ h.IsListIter i2 l2 i) where
  mem := List.mem_cons_self
  obj := fun i h st b hb => by
    obtain ⟨hz, hTI, ⟨a, c, hTO⟩, ⟨o1, g1, k1, d1⟩, ⟨o2, g2, k2, d2⟩⟩ := st
    simp only [List.mem_cons, List.mem_nil_iff, or_false] at hb
    rcases hb with rfl | rfl | rfl | rfl | rfl
    · exact ⟨_, hz, fun v q => Data.noConfusion (show Data.fields _ = Data.cell v from q)⟩
    · exact ⟨_, hTI, fun v q => Data.noConfusion (show Data.seq _ _ = Data.cell v from q)⟩
    · exact ⟨_, hTO, fun v q => Data.noConfusion (show Data.seq _ _ = Data.cell v from q)⟩
    · exact ⟨_, g1, fun v q => by rw [d1] at q; cases q⟩
    · exact ⟨_, g2, fun v q => by rw [d2] at q; cases q⟩
  keep := fun i h h' st k => by
    obtain ⟨hz, hTI, ⟨a, c, hTO⟩, h1, h2⟩ := st
    exact ⟨k z (by simp) _ hz, k TI (by simp) _ hTI, ⟨a, c, k TO (by simp) _ hTO⟩, h1.at fun o e => k i1 (by simp) o e, h2.at fun o e => k i2 (by simp) o e⟩
  item := by
    intro X hP hw hK hc i pins s σ H E I hf st hg
    subst hP hw hK
    obtain ⟨hz, hTI, ⟨a, c, hTO⟩, h1, h2⟩ := st
    obtain ⟨xs, ys, x, y, q1, q2, ex, ey⟩ := hg
    obtain ⟨its1, r1, p1, _⟩ := I.list q1
    obtain ⟨its2, r2, p2, _⟩ := I.list q2
    obtain ⟨u1, e1, ru1⟩ := Y9 r1 ex
    obtain ⟨u2, e2, ru2⟩ := Y9 r2 ey
    refine wpAny_pyNext_zip_item D hz hTI hTO h1 h2 p1.isList p2.isList (by simpa using e1) (by simpa using e2) fun h' a1 a2 a3 a4 a5 a6 hk => ⟨_, rfl, ?_⟩
    refine wpAny_letOwnedTupleGo_zip a1 fun h'' b1 sb => ?_
    have lt : ∀ {b o}, s.heap.get? b = some o -> s.heap.objs.size ≠ b := fun e => Nat.ne_of_gt (Heap.lt_size e)
    have k2 : ∀ b o, b ∉ [z, TO, i1, i2] -> s.heap.get? b = some o -> h''.get? b = some o := fun b o hb e => by
      simp only [List.mem_cons, List.mem_nil_iff, or_false, not_or] at hb
      exact (sb.2 b hb.1).trans (hk b o hb.1 hb.2.1 hb.2.2.1 hb.2.2.2 e)
    have I2 : Inv X pins σ (upd H s.heap.objs.size (.tup [x, y])) { s with heap := h'', toks := s.toks } := by
      refine I.laidL (wr := [z, TO, i1, i2]) k2 (fun b hb => hf b ?_) (Nat.le_refl _) ⟨by show 2 <= sizeLine; decide, [u1, u2], .cons ru1 (.cons ru2 .nil), ?_⟩
      · simp only [List.mem_cons, List.mem_nil_iff, or_false] at hb ⊢
        rcases hb with q | q | q | q <;> simp [q]
      · exact ⟨_, (sb.2 _ (lt hz)).trans a5, rfl, _, rfl⟩
    refine ⟨.ref s.heap.objs.size, _, I2, rfl, ⟨_, x, y, rfl, I.fresh, rfl, fun zs hzs => by rw [I.list_inj hzs q1]; exact ex, fun zs hzs => by rw [I.list_inj hzs q2]; exact ey⟩, ⟨b1, (sb.2 _ D.TIz).trans (hk _ _ D.TIz D.TITO D.TIi1 D.TIi2 hTI), ⟨_, _, (sb.2 _ D.TOz).trans a2⟩, a3.at fun o e => (sb.2 _ D.i1z).trans e, a4.at fun o e => (sb.2 _ D.i2z).trans e⟩, fun b hb => ?_⟩
    have : b ≠ s.heap.objs.size := by
      simp only [List.mem_cons, List.mem_nil_iff, or_false] at hb
      obtain ⟨_, g1, _⟩ := h1
      obtain ⟨_, g2, _⟩ := h2
      rcases hb with rfl | rfl | rfl | rfl | rfl
      · exact (lt hz).symm
      · exact (lt hTI).symm
      · exact (lt hTO).symm
      · exact (lt g1).symm
      · exact (lt g2).symm
    rw [C3 this]; exact (hf b hb).1
  done := by
    intro X hP hw hK hc i pins s σ H E I hf st hg
    subst hP hw hK
    obtain ⟨hz, hTI, ⟨a, c, hTO⟩, h1, h2⟩ := st
    obtain ⟨xs, ys, q1, q2, hl⟩ := hg
    obtain ⟨its1, r1, p1, _⟩ := I.list q1
    obtain ⟨its2, r2, p2, _⟩ := I.list q2
    have n1 := r1.length
    have n2 := r2.length
    refine wpAny_pyNext_zip_end (I.ok.hd hc) D hz hTI hTO h1 h2 p1.isList p2.isList (hl.imp (fun q => by simp; omega) fun q => by simp; omega) fun h' hk => ⟨rfl, ?_⟩
    refine I.turnL (t' := s.toks) (wr := [z, TO, i1, i2]) (fun b o hb e => ?_) (fun b hb => hf b ?_)
    · simp only [List.mem_cons, List.mem_nil_iff, or_false, not_or] at hb
      exact hk b o hb.1 hb.2.1 hb.2.2.1 hb.2.2.2 e
    · simp only [List.mem_cons, List.mem_nil_iff, or_false] at hb ⊢
      rcases hb with q | q | q | q <;> simp [q]
  self := fun _ _ _ _ _ st h => wpAny_pyIter_zip st.1 h
section
variable {X : Cx}
def iZip (K : PySem.W.Frag) (ta : TA) : TI := fun σ H R => ta σ H fun vs H1 => ∃ l1 l2 xs ys, vs = [.ref l1, .ref l2] /\ SqL K H1 l1 xs /\ SqL K H1 l2 ys /\ R (Itz K l1 l2) H1
theorem B47 {K : PySem.W.Frag} {a b : Expr} {ta : TA} {p pos : Pos} {es : List Expr} {kk : Nat} {tp : Pos} (hK : X.K = K) (hg : Gl X "zip") (hm : X.mg "zip" = none) (ha : PA X [a, b] ta)
    (hs : starEach [a, b] X.env = [(false, eval a X.env), (false, eval b X.env)] := by rfl) (hs2 : starEach [b] X.env = [(false, eval b X.env)] := by rfl) : PI X (.Tuple es kk tp) (.Call (.Name "zip" p) [a, b] [] pos) (iZip K ta) := by
  subst hK
  intro pins s σ H R I h
  refine Call_ (U6 I hg hm boot_zip (PyProof.Rows.callWith_type1 (thn (ha pos pins s σ H _ I h) fun us s1 ⟨vs, H1, I1, r1, q1⟩ => ?_) (hs.trans (by rw [hs2])) (by rw [hs2]; rfl)))
  obtain ⟨l1, l2, xs, ys, e, g1, g2, q⟩ := q1
  subst e
  obtain ⟨u, v, rfl, ru, rv⟩ := Vals.two r1
  cases (show u = Value.ref l1 from ru)
  cases (show v = Value.ref l2 from rv)
  obtain ⟨its1, _, p1, _⟩ := I1.list g1
  obtain ⟨its2, _, p2, _⟩ := I1.list g2
  refine call_zip_2 p1.isList p2.isList fun h' a1 a2 a3 a4 a5 a6 hk => wpAny_pyIter_zip a1 ?_
  have lt1 : (show Nat from l1) < s1.heap.objs.size := by obtain ⟨o, _, ho, _⟩ := p1; exact Heap.lt_size ho
  have lt2 : (show Nat from l2) < s1.heap.objs.size := by obtain ⟨o, _, ho, _⟩ := p2; exact Heap.lt_size ho
  have I2 : Inv X pins σ H1 { s1 with heap := h' } := I1.kept (t' := s1.toks) hk
  have D : ZipApart (s1.heap.objs.size + 4) (s1.heap.objs.size + 2) (s1.heap.objs.size + 3) s1.heap.objs.size (s1.heap.objs.size + 1) l1 l2 := by
    generalize s1.heap.objs.size = n at lt1 lt2
    have g : ∀ a b : Nat, a < b -> a ≠ b := fun a b q => Nat.ne_of_lt q
    have g' : ∀ a b : Nat, b < a -> a ≠ b := fun a b q => Nat.ne_of_gt q
    constructor <;> first | exact g _ _ (Nat.lt_trans lt1 (by omega)) | exact g _ _ (Nat.lt_trans lt2 (by omega)) | exact g _ _ lt1 | exact g _ _ lt2 | exact g _ _ (by omega) | exact g' _ _ (by omega)
  refine ⟨_, [s1.heap.objs.size + 4, s1.heap.objs.size + 2, s1.heap.objs.size + 3, s1.heap.objs.size, s1.heap.objs.size + 1], _, _, H1, rfl, I2, B0j D, ⟨a1, a2, ⟨_, _, a3⟩, a4, a5⟩, fun b hb => ?_, q⟩
  have hb' : s1.heap.objs.size <= b := by
    simp only [List.mem_cons, List.mem_nil_iff, or_false] at hb
    rcases hb with rfl | rfl | rfl | rfl | rfl <;> omega
  exact I1.fpOk hb' (I1.hok.fresh hb')
theorem B0p {K : PySem.W.Frag} {a b : Expr} {ta : TA} {p pos : Pos} {es : List Expr} {kk : Nat} {tp : Pos} (hK : X.K = K) (hg : Gl X "zip") (hm : X.mg "zip" = none) (ha : QA X [a, b] ta)
    (hs : starEach [a, b] X.env = [(false, eval a X.env), (false, eval b X.env)] := by rfl) (hs2 : starEach [b] X.env = [(false, eval b X.env)] := by rfl) : QI X (.Tuple es kk tp) (.Call (.Name "zip" p) [a, b] [] pos) (iZip K ta) := ⟨B47 hK hg hm ha.out hs hs2⟩
end
end L2
namespace Pu
open PySem L2 My Prf
class RL (K : Frag) (te : TE) (pl : outParam PAr) : Prop where
  ok : ∀ (c : Ct) (w : Wd) (env : PEnv) (σ : St) (Qp : List PyData -> PEnv -> Prop) (Q : VK), c.K = K -> EnvOk c w env σ -> pl env Qp -> (∀ v xs env' w', EnvOk c w' env' σ -> Lw w w' -> VR c w' v (.bor xs) -> Qp xs env' -> Q v w'.H) -> te σ w.H Q
def B5s (pd : PDt) (env : PEnv) (Q : List PyData -> PEnv -> Prop) : Prop := pd env fun x e => asL x fun xs => Q xs e
def B5r (i : Nat) (env : PEnv) (Q : List PyData -> PEnv -> Prop) : Prop := match env[i]? with
  | some (some (.d x)) => asL x fun xs => Q xs env
  | some (some (.own xs)) => Q xs (env.set i (some (.d (.list xs))))
  | some (some (.bor xs)) => Q xs env
  | _ => False
instance (priority := low) rl_of {K : Frag} {te : TE} {pd : PDt} [h : RD K te pd] : RL K te (B5s pd) where
  ok := by
    rintro c w env σ Qp Q rfl E p k
    refine h.ok c w env σ _ _ rfl E p fun v x e1 w1 E1 l1 d1 q1 => ?_
    unfold asL at q1
    split at q1
    · exact k v _ e1 w1 E1 l1 (.inl d1) q1
    · exact q1.elim
instance rl_var {K : Frag} {i : Nat} : RL K (tVar i) (B5r i) where
  ok := by
    rintro c w env σ Qp Q rfl E p k
    unfold B5r at p
    split at p
    · rename_i x e
      obtain ⟨v, h1, h2⟩ := E.at' i _ e
      unfold asL at p
      split at p
      · exact ⟨v, h1, k v _ env w E (Lw.refl w) (.inl h2) p⟩
      · exact p.elim
    · rename_i xs e
      obtain ⟨w', v, e', hv, E', l, d⟩ := E.frz e
      refine ⟨v, hv, ?_⟩
      rw [<- e']
      exact k v _ _ w' E' l (.inl d) p
    · rename_i xs e
      obtain ⟨v, h1, h2⟩ := E.at' i _ e
      exact ⟨v, h1, k v _ env w E (Lw.refl w) h2 p⟩
    · exact p.elim
inductive Brs (c : Ct) (w : Wd) : List V -> List (List PyData) -> Prop
  | nil : Brs c w [] []
  | cons {v : V} {xs : List PyData} {vs : List V} {xss : List (List PyData)} : VR c w v (.bor xs) -> Brs c w vs xss -> Brs c w (v :: vs) (xs :: xss)
theorem B1i {c : Ct} {w w' : Wd} {v : V} {xs : List PyData} (s : Same w.F w'.F) (h : VR c w v (.bor xs)) : VR c w' v (.bor xs) := by
  rcases h with h | ⟨l, vs, e, h1, h2, h3⟩
  · exact .inl (Den.same s h)
  · exact .inr ⟨l, vs, e, h1, h2, DenAll.same s h3⟩
class RLs (K : Frag) (ta : TA) (pa : outParam (PEnv -> (List (List PyData) -> PEnv -> Prop) -> Prop)) : Prop where
  ok : ∀ (c : Ct) (w : Wd) (env : PEnv) (σ : St) (Qp : List (List PyData) -> PEnv -> Prop) (Q : List V -> Hpp -> Prop), c.K = K -> EnvOk c w env σ -> pa env Qp -> (∀ vs xss env' w', EnvOk c w' env' σ -> Lw w w' -> Brs c w' vs xss -> Qp xss env' -> Q vs w'.H) -> ta σ w.H Q
def pLsN (env : PEnv) (Q : List (List PyData) -> PEnv -> Prop) : Prop := Q [] env
def pLsC (pl : PAr) (pr : PEnv -> (List (List PyData) -> PEnv -> Prop) -> Prop) (env : PEnv) (Q : List (List PyData) -> PEnv -> Prop) : Prop := pl env fun xs e1 => pr e1 fun xss e2 => Q (xs :: xss) e2
instance rls_nil {K : Frag} : RLs K tNil pLsN := ⟨fun c w env σ Qp Q _ E p k => k [] [] env w E (Lw.refl w) .nil p⟩
instance rls_cons {K : Frag} {te : TE} {tr : TA} {pl : PAr} {pr : PEnv -> (List (List PyData) -> PEnv -> Prop) -> Prop} [hl : RL K te pl] [hr : RLs K tr pr] : RLs K (G5 te tr) (pLsC pl pr) where
  ok := by
    rintro c w env σ Qp Q rfl E p k
    refine hl.ok c w env σ _ _ rfl E p fun v xs e1 w1 E1 l1 b1 q1 => ?_
    refine hr.ok c w1 e1 σ _ _ rfl E1 q1 fun vs xss e2 w2 E2 l2 b2 q2 => ?_
    exact k _ _ e2 w2 E2 (l1.trans l2) (.cons (B1i l2.f b1) b2) q2
theorem A4p {c : Ct} {w : Wd} {v : V} {xs : List PyData} (h : VR c w v (.bor xs)) : ∃ l vs, v = .ref l /\ DenAll c.K w.F vs xs /\ ∀ w', w'.Ok -> Le c.w0 w' -> Same w.F w'.F -> SqL c.K w'.H l vs := by
  rcases h with h | ⟨l, vs, e, h1, h2, h3⟩
  · obtain ⟨a, vs, e, g1, g2⟩ := Den.lstE h
    exact ⟨a, vs, e, g2, fun w' ok _ s => (s.trans ok.sub).seq g1⟩
  · exact ⟨l, vs, e, h3, fun w' _ l' _ => SqL.of (l'.h _ _ h1 h2)⟩
def zipD (xs ys : List PyData) : List PyData := List.zipWith (fun x y => .tuple [x, y]) xs ys
def B6g (xs : List PyData) : List PyData := xs.zipIdx.map fun p => .tuple [.int (p.2 : Int), p.1]
theorem B0f {xs ys : List PyData} {i : Nat} {x : PyData} (h : (zipD xs ys)[i]? = some x) : ∃ a b, xs[i]? = some a /\ ys[i]? = some b /\ x = .tuple [a, b] := by
  unfold zipD at h
  rw [List.getElem?_zipWith] at h
  cases h1 : xs[i]? with
  | none => rw [h1] at h; cases h
  | some a => cases h2 : ys[i]? with
    | none => rw [h1, h2] at h; cases h
    | some b => rw [h1, h2] at h; cases h; exact ⟨a, b, rfl, rfl, rfl⟩
theorem Y8 {xs ys : List PyData} : (zipD xs ys).length = min xs.length ys.length := List.length_zipWith
def pZip (pa : PEnv -> (List (List PyData) -> PEnv -> Prop) -> Prop) (env : PEnv) (Q : List PyData -> PEnv -> Prop) : Prop := pa env fun xss e => match xss with
  | [xs, ys] => Q (zipD xs ys) e
  | _ => False
def C0h (pa : PEnv -> (List (List PyData) -> PEnv -> Prop) -> Prop) (env : PEnv) (Q : List PyData -> PEnv -> Prop) : Prop := pa env fun xss e => match xss with
  | [xs] => Q (B6g xs) e
  | _ => False
instance ri_zip {K : Frag} {ta : TA} {pa : PEnv -> (List (List PyData) -> PEnv -> Prop) -> Prop} [ha : RLs K ta pa] : RI K (iZip K ta) (pZip pa) where
  ok := by
    rintro c w env σ Qp R rfl E p k
    refine ha.ok c w env σ _ _ rfl E p fun vs xss e1 w1 E1 l1 b1 q1 => ?_
    split at q1
    · rename_i xs ys
      cases b1 with | cons h t => cases t with | cons h' t =>
        cases t
        obtain ⟨a1, us1, rfl, d1, s1⟩ := A4p h
        obtain ⟨a2, us2, rfl, d2, s2⟩ := A4p h'
        refine ⟨a1, a2, us1, us2, rfl, s1 w1 E1.wok E1.le0 (Same.refl _), s2 w1 E1.wok E1.le0 (Same.refl _), k _ _ e1 w1 E1 l1 ?_ q1⟩
        intro w' ok l s
        have g1 := s1 w' ok l s
        have g2 := s2 w' ok l s
        have n1 := d1.len
        have n2 := d2.len
        rw [Y8]
        refine ⟨fun i hi => ⟨us1, us2, us1[i]'(by omega), us2[i]'(by omega), g1, g2, List.getElem?_eq_getElem _, List.getElem?_eq_getElem _⟩, ⟨us1, us2, g1, g2, by omega⟩, fun i v H' y hi => ?_⟩
        obtain ⟨T, x, y', rfl, hT, rfl, y1, y2⟩ := y
        obtain ⟨dx, x1, x2⟩ := d1.get (y1 us1 g1)
        obtain ⟨dy, y3, y4⟩ := d2.get (y2 us2 g2)
        refine ⟨w'.tup T (.tup [x, y']), .tuple [dx, dy], rfl, Wd.tup_ok ok hT, Wd.tup_le ok hT, ?_, ?_⟩
        · unfold zipD; rw [List.getElem?_zipWith, x1, y3]
        · have f := (Wd.tup_le (o := .tup [x, y']) ok hT).f
          exact .tup (SqT.of C7) (.cons (Den.same (s.trans f) x2) (.cons (Den.same (s.trans f) y4) .nil))
    · exact q1.elim
end Pu
namespace Pu
open PySem L2 My Prf
theorem Z6 {n : Nat} {pr : List PyData -> PEnv -> (PEnv -> Prop) -> Prop} {xs : List PyData} {env : PEnv} {Q : PEnv -> Prop} : qTup n pr (.tuple xs) env Q = (xs.length = n /\ pr xs env Q) := rfl
theorem A3c {pr : List PyData -> PEnv -> (PEnv -> Prop) -> Prop} {c : Rat × Rat} {env : PEnv} {Q : PEnv -> Prop} : qTup 2 pr (dcn c) env Q = pr [dq c.1, dq c.2] env Q := by
  show (2 = 2 /\ _) = _; simp
theorem A2l {c : Rat × Rat} : (dcn c).canLay0 = true := rfl
theorem A9v {c : Rat × Rat} : (dcn c).depth = 2 := rfl
theorem A9p {c : Rat × Rat} : PyData.eqv (dcn c) (dcn c) = true := PySem.SeqAt.eqv_refl _ A2l
theorem A4e {c : Rat × Rat} : isNo (dcn c) = false := rfl
theorem A9y {α : Type} {f : α -> PyData} {xs : List α} : cutD (xs.map f) (some 1) none = (xs.drop 1).map f := by
  unfold cutD
  rw [HT.sIx_none, show HT.sIx (xs.map f).length 0 (some 1) = min 1 xs.length by rw [List.length_map]; exact HT.sIx_nat _ _ 1, List.length_map]
  cases xs with
  | nil => rfl
  | cons x r =>
    rw [show min 1 (x :: r).length = 1 by simp]
    simp
    rw [<- List.length_map (f := f), List.take_length]
end Pu
namespace L2
open PySem PySem.Spec PyProof.Rows
section
variable {prog : Program} {w : World} {A : Around} {E : Value -> Shared -> Prop} {s : Shared}
end
end L2
namespace L2
open PySem PySem.Spec PyProof.Rows
section
variable {prog : Program} {w : World} {A : Around} {E : Value -> Shared -> Prop} {s : Shared}
end
section
variable {X : Cx}
end
end L2
namespace Pu
open PySem L2 My Prf
def B6j (xs : List PyData) (k : List PyData -> Prop) : Prop := match xs with
  | [.list xs, .list ys] => k (zipD xs ys)
  | [.tuple xs, .tuple ys] => k (zipD xs ys)
  | _ => False
def B7r (pa : PAr) (env : PEnv) (Q : List PyData -> PEnv -> Prop) : Prop := pa env fun xs e => B6j xs fun zs => Q zs e
end Pu
namespace Pu
open PySem L2 My Prf
theorem Y6 {xs ys : List PyData} {k : List PyData -> Prop} : B6j [.list xs, .list ys] k = k (zipD xs ys) := rfl
theorem A1v {xs ys : List PyData} {k : List PyData -> Prop} : B6j [.tuple xs, .tuple ys] k = k (zipD xs ys) := rfl
theorem A4j {a b : Bool} : PyData.eqv (.bool a) (.bool b) = decide (a = b) := by cases a <;> cases b <;> rfl
theorem A9n {s : Str} : PyData.eqv (.str s) (.str s) = true := by show (s == s) = true; simp
theorem B3v : kitB "int" "str" = some false := by decide +kernel
theorem B3y : kitB "bool" "str" = some false := by decide +kernel
theorem B3s : kitB "NoneType" "str" = some false := by decide +kernel
end Pu
namespace Pu
open PySem L2 My Prf
def B9 : List PyData -> OT
  | [] => .nil
  | x :: r => .cons (.leaf x) (B9 r)
def OT.len : OT -> Nat
  | .cons _ t => t.len + 1
  | .nil => 0
  | _ => 1
def OT.kid : OT -> Nat -> Option OT
  | .cons h _, 0 => some h
  | .cons _ t, n + 1 => t.kid n
  | _, _ => none
theorem M6 : ∀ xs, (B9 xs).fp = []
  | [] => rfl
  | _ :: r => by show [] ++ (B9 r).fp = []; rw [M6 r]; rfl
theorem F8 : ∀ xs, (B9 xs).dat = xs
  | [] => rfl
  | x :: r => by show [x] ++ (B9 r).dat = x :: r; rw [F8 r]; rfl
theorem X0 {K : Frag} {w : Wd} : ∀ {vs : List V} {xs : List PyData}, DenAll K w.F vs xs -> Tre K w (B9 xs) vs
  | _, _, .nil => rfl
  | _, _, .cons h t => ⟨_, _, rfl, ⟨_, rfl, h⟩, X0 t⟩
theorem J2 {K : Frag} {w : Wd} : ∀ {xs : List PyData} {vs : List V}, Tre K w (B9 xs) vs -> DenAll K w.F vs xs
  | [], _, e => by cases (show _ = [] from e); exact .nil
  | _ :: _, _, ⟨_, _, rfl, ⟨_, e, h⟩, t⟩ => by cases e; exact .cons h (J2 t)
theorem Tre.len {K : Frag} {w : Wd} : ∀ {t : OT} {vs : List V}, Tre K w t vs -> vs.length = t.len
  | .leaf _, _, ⟨_, e, _⟩ => by rw [e]; rfl
  | .nd _ _ _, _, ⟨e, _⟩ => by rw [e]; rfl
  | .nil, _, e => by rw [show _ = [] from e]; rfl
  | .cons _ _, _, ⟨_, _, e, _, t⟩ => by rw [e]; show _ + 1 = _ + 1; rw [t.len]
theorem Tre.kid {K : Frag} {w : Wd} : ∀ {t : OT} {vs : List V} {n : Nat} {u : OT}, Tre K w t vs -> t.kid n = some u -> ∃ v, vs[n]? = some v /\ Tre K w u [v]
  | .cons _ _, _, 0, _, ⟨v, _, e, h, _⟩, q => by cases q; rw [e]; exact ⟨v, rfl, h⟩
  | .cons _ _, _, n + 1, _, ⟨_, _, e, _, t⟩, q => by rw [e]; exact t.kid (n := n) q
theorem A4a : ∀ {t : OT} {n : Nat} {u : OT} {a : Addr}, t.kid n = some u -> a ∈ u.fp -> a ∈ t.fp
  | .cons _ _, 0, _, _, q, h => by cases q; simp [OT.fp, h]
  | .cons _ _, n + 1, _, _, q, h => by simp [OT.fp, A4a (n := n) q h]
noncomputable def hm (w : Wd) : Hpp := fun a => open Classical in if w.M a then none else w.H a
theorem U8 {w : Wd} {a : Addr} {o : HO} (h : w.H a = some o) (n : ¬ w.M a) : hm w a = some o := by unfold hm; rw [if_neg n]; exact h
theorem A9g {w : Wd} {a : Addr} {o : HO} (h : hm w a = some o) : w.H a = some o /\ ¬ w.M a := by
  unfold hm at h; split at h
  · cases h
  · exact ⟨h, ‹_›⟩
theorem hm_F {w : Wd} (ok : w.Ok) : Same w.F (hm w) := fun a o h => U8 (ok.sub a o h) fun z => by rw [ok.nf a z] at h; cases h
theorem B9e {w w' : Wd} (l : Lw w w') : Same (hm w) (hm w') := fun a o h => by
  obtain ⟨h1, h2⟩ := A9g h
  exact U8 (l.h _ _ h1 h2) (l.nm (by rw [h1]; simp) h2)
theorem Tre.den {K : Frag} {w : Wd} (ok : w.Ok) : ∀ {t : OT} {vs : List V}, Tre K w t vs -> (∀ a ∈ t.fp, ¬ w.M a) -> DenAll K (hm w) vs t.dat
  | .leaf _, _, ⟨_, e, h⟩, _ => by rw [e]; exact .cons (Den.same (hm_F ok) h) .nil
  | .nd true a _, _, ⟨e, _, h, k⟩, n => by rw [e]; exact .cons (.lst (SqL.of (U8 h (n a (by simp [OT.fp])))) (Tre.den ok k fun q hq => n q (by simp [OT.fp, hq]))) .nil
  | .nd false a _, _, ⟨e, _, h, k⟩, n => by rw [e]; exact .cons (.tup (SqT.of (U8 h (n a (by simp [OT.fp])))) (Tre.den ok k fun q hq => n q (by simp [OT.fp, hq]))) .nil
  | .nil, _, e, _ => by rw [show _ = [] from e]; exact .nil
  | .cons _ _, _, ⟨v, r, e, h, t⟩, n => by
    rw [e]
    exact (Tre.den ok h fun q hq => n q (by simp [OT.fp, hq])).app (vs := [v]) (us := r) (Tre.den ok t fun q hq => n q (by simp [OT.fp, hq]))
def VH (K : Frag) (w : Wd) (v : V) (x : PyData) : Prop := Den K (hm w) v x
theorem VR.vh {c : Ct} {w : Wd} {v : V} {t : OT} {x : PyData} (ok : w.Ok) (h : VR c w v (.tr t)) (e : t.dat = [x]) : VH c.K w v x := by
  have := h.1.den ok fun a ha => (h.2.1 a ha).2.2.1
  rw [e] at this
  cases this with | cons a _ => exact a
theorem VV.vh {K : Frag} {w : Wd} {v : V} {x : PyData} (ok : w.Ok) (h : VV K w v x) : VH K w v x := by
  rcases h with h | ⟨l, vs, xs, rfl, rfl, h1, h2, h3⟩
  · exact Den.same (hm_F ok) h
  · exact .lst (SqL.of (U8 h1 h2)) (DenAll.same (hm_F ok) h3)
class RH (K : Frag) (te : TE) (pd : outParam PDt) : Prop where
  ok : ∀ (c : Ct) (w : Wd) (env : PEnv) (σ : St) (Qp : PyData -> PEnv -> Prop) (Q : VK), c.K = K -> EnvOk c w env σ -> pd env Qp -> (∀ v x env' w', EnvOk c w' env' σ -> Lw w w' -> VH K w' v x -> Qp x env' -> Q v w'.H) -> te σ w.H Q
def B5h (i : Nat) (env : PEnv) (Q : PyData -> PEnv -> Prop) : Prop := match env[i]? with
  | some (some (.d x)) => Q x env
  | some (some (.own xs)) => Q (.list xs) env
  | some (some (.bor xs)) => Q (.list xs) env
  | some (some (.tr t)) => ∃ x, t.dat = [x] /\ Q x env
  | _ => False
instance rh_var {K : Frag} {i : Nat} : RH K (tVar i) (B5h i) where
  ok := by
    rintro c w env σ Qp Q rfl E p k
    unfold B5h at p
    split at p
    · rename_i x e
      obtain ⟨v, h1, h2⟩ := E.at' i _ e
      exact ⟨v, h1, k v _ env w E (Lw.refl w) (Den.same (hm_F E.wok) h2) p⟩
    · rename_i xs e
      obtain ⟨v, h1, l, vs, e', g1, g2, g3, g4, g5⟩ := E.at' i _ e
      exact ⟨v, h1, k v _ env w E (Lw.refl w) (VV.vh E.wok (.inr ⟨l, vs, xs, e', rfl, g1, g3, g5⟩)) p⟩
    · rename_i xs e
      obtain ⟨v, h1, h2⟩ := E.at' i _ e
      exact ⟨v, h1, k v _ env w E (Lw.refl w) ((h2.vv E.le0).vh E.wok) p⟩
    · rename_i t e
      obtain ⟨x, e1, q⟩ := p
      obtain ⟨v, h1, h2⟩ := E.at' i _ e
      exact ⟨v, h1, k v _ env w E (Lw.refl w) (h2.vh E.wok e1) q⟩
    · exact p.elim
def B8g (psp : PSp) (pa pb : PDt) (env : PEnv) (Q : SV -> PEnv -> Prop) : Prop := pa env fun x e => pb e fun y e2 => psp [.d x, .d y] fun s => ∃ b, s = .d (.bool b) /\ Q (.d (.bool b)) e2
def Own (c : Ct) (w : Wd) (t : OT) : Prop := (∀ a ∈ t.fp, w.H a ≠ none /\ w.F a = none /\ ¬ w.M a /\ c.w0.H a = none) /\ t.fp.Nodup
def NewT (c : Ct) (env : PEnv) (σ : St) (t : OT) : Prop := ∀ a ∈ t.fp, (∀ (j : Nat) s u, env[j]? = some (some s) -> σ[j]? = some (some u) -> ¬ s.foot u a) /\ ¬ c.Z a
def SV.ot (s : SV) (k : OT -> Prop) : Prop := match s with
  | .d x => k (.leaf x)
  | .own xs => ∀ a, k (.nd true a (B9 xs))
  | .tr t => k t
  | _ => False
theorem Res.ot {c : Ct} {w w1 : Wd} {env : PEnv} {σ : St} {v : V} {s : SV} {k : OT -> Prop} (R : Res c w env σ w1 v s) (h : s.ot k) : ∃ t, Tre c.K w1 t [v] /\ Own c w1 t /\ NewT c env σ t /\ k t := by
  obtain ⟨E, lw, val, new, _⟩ := R
  cases s with
  | d x => exact ⟨.leaf x, ⟨v, rfl, val⟩, ⟨fun a z => (nomatch z), List.nodup_nil⟩, fun a z => (nomatch z), h⟩
  | own xs =>
    obtain ⟨l, vs, rfl, h1, h2, h3, h4, h5⟩ := val
    have one : ∀ a, a ∈ (OT.nd true l (B9 xs)).fp -> a = l := fun a ha => by
      rw [show (OT.nd true l (B9 xs)).fp = l :: (B9 xs).fp from rfl, M6] at ha
      simpa using ha
    refine ⟨.nd true l (B9 xs), ⟨rfl, vs, h1, X0 h5⟩, ⟨fun a ha => ?_, by show (l :: (B9 xs).fp).Nodup; rw [M6]; simp⟩, fun a ha => ?_, h l⟩
    · rw [one a ha]; exact ⟨by rw [h1]; simp, h2, h3, h4⟩
    · rw [one a ha]; exact new l rfl
  | bor xs => exact (show False from h).elim
  | st => exact (show False from h).elim
  | tr t => exact ⟨t, val.1, val.2, new, h⟩
  | bt t => exact (show False from h).elim
  | al t => exact (show False from h).elim
theorem VR.reZ {K : Frag} {w0 w : Wd} {Z Z' : Addr -> Prop} {v : V} : ∀ {s : SV}, VR ⟨K, w0, Z⟩ w v s -> VR ⟨K, w0, Z'⟩ w v s
  | .d _, h => h
  | .own _, h => h
  | .bor _, h => h
  | .st, h => h
  | .tr _, h => h
  | .bt _, h => h
  | .al _, h => h
def Ct.with (c : Ct) (t : OT) : Ct := ⟨c.K, c.w0, fun a => c.Z a \/ a ∈ t.fp⟩
theorem EnvOk.hold {c : Ct} {w : Wd} {env : PEnv} {σ : St} {t : OT} (E : EnvOk c w env σ) (o : Own c w t) (n : NewT c env σ t) : EnvOk (c.with t) w env σ :=
  ⟨E.wok, E.le0, E.len, fun i s q => let ⟨v, h1, h2⟩ := E.at' i s q; ⟨v, h1, h2.reZ⟩, E.own, fun a z => z.elim (E.zf a) fun ha => let ⟨h1, h2, h3, _⟩ := o.1 a ha; ⟨h2, h1, h3⟩, fun a j s u z q q' => z.elim (fun z => E.zo a j s u z q q') fun ha => (n a ha).1 j s u q q'⟩
theorem EnvOk.letgo {c : Ct} {w : Wd} {env : PEnv} {σ : St} {t : OT} (E : EnvOk (c.with t) w env σ) : EnvOk c w env σ :=
  ⟨E.wok, E.le0, E.len, fun i s q => let ⟨v, h1, h2⟩ := E.at' i s q; ⟨v, h1, h2.reZ⟩, E.own, fun a z => E.zf a (.inl z), fun a j s u z q q' => E.zo a j s u (.inl z) q q'⟩
class RAt (K : Frag) (ta : TA) (pa : outParam (PEnv -> (OT -> PEnv -> Prop) -> Prop)) : Prop where
  ok : ∀ (c : Ct) (w : Wd) (env : PEnv) (σ : St) (Qp : OT -> PEnv -> Prop) (Q : List V -> Hpp -> Prop), c.K = K -> EnvOk c w env σ -> pa env Qp -> (∀ vs t env' w', EnvOk c w' env' σ -> Lw w w' -> Tre K w' t vs -> Own c w' t -> NewT c env' σ t -> Qp t env' -> Q vs w'.H) -> ta σ w.H Q
def B5o (env : PEnv) (Q : OT -> PEnv -> Prop) : Prop := Q .nil env
def A68 (pe : PX) (pr : PEnv -> (OT -> PEnv -> Prop) -> Prop) (env : PEnv) (Q : OT -> PEnv -> Prop) : Prop := pe env fun s e1 => s.ot fun t => pr e1 fun r e2 => (∀ a ∈ r.fp, a ∉ t.fp) -> Q (.cons t r) e2
instance rat_nil {K : Frag} : RAt K tNil B5o := ⟨fun c w env σ Qp Q _ E p k => k [] .nil env w E (Lw.refl w) rfl ⟨fun a z => (nomatch z), List.nodup_nil⟩ (fun a z => nomatch z) p⟩
instance rat_cons {K : Frag} {ta : TE} {tr : TA} {pe : PX} {pr : PEnv -> (OT -> PEnv -> Prop) -> Prop} [ha : RE K ta pe] [hr : RAt K tr pr] : RAt K (G5 ta tr) (A68 pe pr) where
  ok := by
    rintro c w env σ Qp Q rfl E p k
    refine ha.ok c w env σ _ _ rfl E p fun v s e1 w1 R q1 => ?_
    obtain ⟨t, ht, ho, hn, q⟩ := R.ot q1
    refine hr.ok (c.with t) w1 e1 σ _ _ rfl (R.ev.hold ho hn) q fun vs r e2 w2 E2 l2 hr' ho' hn' q2 => ?_
    refine k (v :: vs) (.cons t r) e2 w2 E2.letgo (R.lw.trans l2) ⟨v, vs, rfl, ht.mono l2 fun a ha => (ho.1 a ha).2.2.1, hr'⟩ ⟨fun a ha => ?_, List.nodup_append.mpr ⟨ho.2, ho'.2, fun a ha b hb e => (hn' b hb).2 (.inr (e ▸ ha))⟩⟩ (fun a ha => ?_) (q2 fun a ha z => (hn' a ha).2 (.inr z))
    · rcases List.mem_append.mp (show a ∈ t.fp ++ r.fp from ha) with z | z
      · obtain ⟨z1, z2, z3⟩ := E2.zf a (.inr z)
        exact ⟨z2, z1, z3, (ho.1 a z).2.2.2⟩
      · exact ho'.1 a z
    · rcases List.mem_append.mp (show a ∈ t.fp ++ r.fp from ha) with z | z
      · exact ⟨fun j s u q q' => E2.zo a j s u (.inr z) q q', (hn a z).2⟩
      · exact ⟨(hn' a z).1, fun y => (hn' a z).2 (.inl y)⟩
theorem Res.laid {c : Ct} {w : Wd} {env : PEnv} {σ : St} {p : Addr} {vs : List V} {t : OT} {b : Bool} (E : EnvOk c w env σ) (h : w.H p = none) (ht : Tre c.K w t vs) (o : Own c w t) (n : NewT c env σ t) : Res c w env σ (w.lay p (ho b vs)) (.ref p) (.tr (.nd b p t)) := by
  have le := Wd.lay_le (o := ho b vs) h
  refine ⟨E.mono (Wd.lay_ok E.wok h) le, le.toLw, ⟨⟨rfl, vs, C7, ht.mono le.toLw fun a ha => (o.1 a ha).2.2.1⟩, fun a ha => ?_, List.nodup_cons.mpr ⟨fun z => (o.1 p z).1 h, o.2⟩⟩, fun a f => ?_, rfl⟩
  · rcases List.mem_cons.mp (show a ∈ p :: t.fp from ha) with rfl | z
    · exact ⟨by show upd w.H a _ a ≠ none; rw [C7]; simp, E.wok.fnone h, fun z => E.wok.mne h z rfl, E.le0.dom a h⟩
    · obtain ⟨h1, h2, h3, h4⟩ := o.1 a z
      exact ⟨fun y => h1 (M2 y), h2, h3, h4⟩
  · rcases List.mem_cons.mp (show a ∈ p :: t.fp from f) with rfl | z
    · exact E.fresh h
    · exact n a z
def B6t (ta : TA) : TE := tLst ta
def B5i (b : Bool) (pa : PEnv -> (OT -> PEnv -> Prop) -> Prop) (env : PEnv) (Q : SV -> PEnv -> Prop) : Prop := pa env fun t e => t.len <= 1000 /\ ∀ a, a ∉ t.fp -> Q (.tr (.nd b a t)) e
instance re_lstT {K : Frag} {ta : TA} {pa : PEnv -> (OT -> PEnv -> Prop) -> Prop} [ha : RAt K ta pa] : RE K (B6t ta) (B5i true pa) where
  ok := by
    rintro c w env σ Qp Q rfl E p k
    refine ha.ok c w env σ _ _ rfl E p fun vs t e1 w1 E1 l1 ht ho hn q1 => ⟨?_, fun p hp => ?_⟩
    · rw [ht.len]; exact Nat.le_of_lt (S2 q1.1)
    · exact k _ _ e1 _ ((Res.laid (b := true) E1 hp ht ho hn).pre l1) (q1.2 p fun z => (ho.1 p z).1 hp)
def asTr (o : Option (Option SV)) (k : OT -> Prop) : Prop := match o with
  | some (some (.tr t)) => k t
  | _ => False
def pKid (i : Nat) (n : Int) (env : PEnv) (Q : PyData -> PEnv -> Prop) : Prop := asTr env[i]? fun t => ∃ (m : Nat) (b : Bool) (a a' : Addr) (ks : OT) (xs : List PyData), n = m /\ t = .nd b a ks /\ ks.kid m = some (.nd true a' (B9 xs)) /\ Q (.list xs) env
theorem A3d {l : Addr} : ∀ {t : OT} {a : Addr}, a ∈ (OT.put l .nil t).fp -> a ∈ t.fp
  | .leaf _, _, h => h
  | .nd _ p k, a, h => by
    rcases List.mem_cons.mp (show a ∈ p :: _ from h) with rfl | z
    · simp [OT.fp]
    · split at z
      · exact nomatch z
      · simp [OT.fp, A3d z]
  | .nil, _, h => h
  | .cons _ _, a, h => by
    rcases List.mem_append.mp (show a ∈ _ ++ _ from h) with z | z <;> simp [OT.fp, A3d z]
theorem Z7 {l : Addr} : ∀ {t : OT}, List.Sublist (OT.put l .nil t).fp t.fp
  | .leaf _ => List.Sublist.refl _
  | .nd _ p k => by
    show List.Sublist (p :: (if p = l then OT.nil else OT.put l .nil k).fp) (p :: k.fp)
    split
    · exact List.cons_sublist_cons.mpr (List.nil_sublist _)
    · exact List.cons_sublist_cons.mpr Z7
  | .nil => List.Sublist.refl _
  | .cons _ _ => List.Sublist.append Z7 Z7
theorem Tre.put {K : Frag} {w : Wd} {l : Addr} {ys : List V} (hl : w.H l = some (.lst ys)) : ∀ {t : OT} {vs : List V}, Tre K w t vs -> Tre K ⟨w.M, upd w.H l (.lst []), w.F⟩ (OT.put l .nil t) vs
  | .leaf _, _, h => h
  | .nd b p k, _, ⟨e, us, h, q⟩ => by
    refine ⟨e, ?_⟩
    by_cases z : p = l
    · subst z
      rw [if_pos rfl]
      refine ⟨[], ?_, rfl⟩
      show upd w.H p _ p = _
      rw [C7]
      cases b with
      | true => rfl
      | false => rw [hl] at h; cases h
    · rw [if_neg z]
      exact ⟨us, by show upd w.H l _ p = _; rw [C3 z]; exact h, Tre.put hl q⟩
  | .nil, _, e => e
  | .cons _ _, _, ⟨v, r, e, h, t⟩ => ⟨v, r, e, Tre.put hl h, Tre.put hl t⟩
def A7b (i : Nat) (n : Int) (D : PEnds) (env : PEnv) : Prop := asTr env[i]? fun t => ∃ (m : Nat) (b : Bool) (a a' : Addr) (ks ls : OT), n = m /\ t = .nd b a ks /\ ks.kid m = some (.nd true a' ls) /\ D.nx (env.set i (some (.tr (OT.put a' .nil t))))
end Pu
namespace L2
open PySem PySem.Spec PyProof.Rows
section
variable {X : Cx} {e : Expr}
theorem B97 {t : TA} (h : QE X e (tLst t)) : QE X e (Pu.B6t t) := h
end
end L2
namespace Pu
open PySem L2 My Prf
def SV.asH (s : SV) (k : PyData -> Prop) : Prop := match s with
  | .d x => k x
  | .own xs => k (.list xs)
  | .tr t => ∃ x, t.dat = [x] /\ k x
  | _ => False
def B5d (pe : PX) (env : PEnv) (Q : PyData -> PEnv -> Prop) : Prop := pe env fun s e => s.asH fun x => Q x e
instance (priority := 200) rh_re {K : Frag} {te : TE} {pe : PX} [h : RE K te pe] : RH K te (B5d pe) where
  ok := by
    rintro c w env σ Qp Q rfl E p k
    refine h.ok c w env σ _ Q rfl E p fun v s env' w' R q => ?_
    have E' := R.ev
    cases s with
    | d x => exact k v x env' w' E' R.lw (Den.same (hm_F E'.wok) R.val) q
    | own xs =>
      obtain ⟨l, vs, e', g1, g2, g3, g4, g5⟩ := R.val
      exact k v _ env' w' E' R.lw (VV.vh E'.wok (.inr ⟨l, vs, xs, e', rfl, g1, g3, g5⟩)) q
    | tr t =>
      obtain ⟨x, e, q⟩ := q
      exact k v x env' w' E' R.lw (VR.vh E'.wok R.val e) q
    | bor xs => exact (show False from q).elim
    | bt t => exact (show False from q).elim
    | al t => exact (show False from q).elim
    | st => exact (show False from q).elim
theorem VR.btv {c : Ct} {w : Wd} {v : V} {t : OT} (l : Le c.w0 w) (h : VR c w v (.bt t)) : TV c.K w v t := by
  have lw : Lw ⟨c.w0.M, c.w0.H, w.F⟩ w := ⟨Same.refl _, l.h, l.m, l.mn, l.dom⟩
  exact ⟨h.1.mono lw h.2, fun a ha => l.nm (h.1.has a ha) (h.2 a ha)⟩
class RTr (K : Frag) (te : TE) (pb : outParam (PEnv -> (OT -> PEnv -> Prop) -> Prop)) : Prop where
  ok : ∀ (c : Ct) (w : Wd) (env : PEnv) (σ : St) (Qp : OT -> PEnv -> Prop) (Q : VK), c.K = K -> EnvOk c w env σ -> pb env Qp -> (∀ v t env' w', EnvOk c w' env' σ -> Lw w w' -> TV K w' v t -> Qp t env' -> Q v w'.H) -> te σ w.H Q
def pTr (pe : PX) (env : PEnv) (Q : OT -> PEnv -> Prop) : Prop := pe env fun s e => s.ot fun t => Q t e
def pTrV (i : Nat) (env : PEnv) (Q : OT -> PEnv -> Prop) : Prop := match env[i]? with
  | some (some (.d x)) => Q (.leaf x) env
  | some (some (.tr t)) => Q t env
  | some (some (.bt t)) => Q t env
  | _ => False
instance rtr_var {K : Frag} {i : Nat} : RTr K (tVar i) (pTrV i) where
  ok := by
    rintro c w env σ Qp Q rfl E p k
    unfold pTrV at p
    split at p
    · rename_i x e
      obtain ⟨v, h1, h2⟩ := E.at' i _ e
      exact ⟨v, h1, k v (.leaf x) env w E (Lw.refl w) ⟨⟨v, rfl, h2⟩, fun a z => nomatch z⟩ p⟩
    · rename_i t e
      obtain ⟨v, h1, h2⟩ := E.at' i _ e
      exact ⟨v, h1, k v _ env w E (Lw.refl w) ⟨h2.1, fun a ha => (h2.2.1 a ha).2.2.1⟩ p⟩
    · rename_i t e
      obtain ⟨v, h1, h2⟩ := E.at' i _ e
      exact ⟨v, h1, k v _ env w E (Lw.refl w) (h2.btv E.le0) p⟩
    · exact p.elim
def B2u (pb : PEnv -> (OT -> PEnv -> Prop) -> Prop) (pr : PAs) (env : PEnv) (Q : List SV -> PEnv -> Prop) : Prop := pb env fun t e1 => pr e1 fun as e2 => Q (.bt t :: as) e2
def OT.lvs : OT -> Option (List PyData)
  | .nil => some []
  | .cons (.leaf x) t => t.lvs.map (x :: ·)
  | _ => none
theorem P8 : ∀ xs, (B9 xs).lvs = some xs
  | [] => rfl
  | x :: r => by show (B9 r).lvs.map _ = _; rw [P8 r]; rfl
theorem P9 : ∀ {t : OT} {xs : List PyData}, t.lvs = some xs -> t = B9 xs
  | .nil, _, h => by cases h; rfl
  | .cons (.leaf x) t, xs, h => by
    have h' : t.lvs.map (x :: ·) = some xs := h
    cases q : t.lvs with
    | none => rw [q] at h'; cases h'
    | some ys => rw [q] at h'; cases h'; rw [P9 q]; rfl
def OT.sv : OT -> SV
  | .leaf (.list xs) => .bor xs
  | .leaf x => .d x
  | .nd true a k => match k.lvs with
    | some xs => .bor xs
    | none => .bt (.nd true a k)
  | t => .bt t
theorem R9 {a : Addr} {xs : List PyData} : OT.sv (.nd true a (B9 xs)) = .bor xs := by show (match (B9 xs).lvs with | some xs => SV.bor xs | none => _) = _; rw [P8]
theorem VR.sv {c : Ct} {w : Wd} {v : V} {u : OT} (h : VR c w v (.bt u)) : VR c w v u.sv := by
  unfold OT.sv
  split
  · obtain ⟨⟨v', e, h⟩, _⟩ := h
    cases e; exact .inl h
  · obtain ⟨⟨v', e, h⟩, _⟩ := h
    cases e; exact h
  · rename_i a k
    split
    · rename_i xs q
      obtain ⟨⟨e, us, h1, h2⟩, h3⟩ := h
      cases e
      rw [P9 q] at h2
      exact .inr ⟨a, us, rfl, h1, h3 a (by simp [OT.fp]), J2 (w := ⟨c.w0.M, c.w0.H, w.F⟩) h2⟩
    · exact h
  · exact h
theorem B1u {c : Ct} {env : PEnv} {σ : St} {v : V} : ∀ {u : OT}, New c env σ v u.sv := by
  intro u a f
  unfold OT.sv at f
  split at f
  · exact f.elim
  · exact f.elim
  · split at f
    · exact f.elim
    · exact f.elim
  · exact f.elim
def OT.pair : OT -> Option (OT × OT)
  | .nd false _ (.cons u (.cons v .nil)) => some (u, v)
  | .leaf (.tuple [x, y]) => some (.leaf x, .leaf y)
  | _ => none
def pUnp (i a b : Nat) (pr : List PyData -> PEnv -> (PEnv -> Prop) -> Prop) (D : PEnds) (env : PEnv) : Prop := match env[i]? with
  | some (some (.bt t)) => ∃ u v, t.pair = some (u, v) /\ D.nx ((env.set a (some u.sv)).set b (some v.sv))
  | some (some (.d x)) => qTup 2 pr x env D.nx
  | _ => False
theorem B6r {c : Ct} {w : Wd} {v : V} {t u1 u2 : OT} (ok : w.Ok) (l : Le c.w0 w) (h : VR c w v (.bt t)) (e : t.pair = some (u1, u2)) : ∃ p x y, v = .ref p /\ SqT c.K w.H p [x, y] /\ VR c w x (.bt u1) /\ VR c w y (.bt u2) := by
  unfold OT.pair at e
  split at e
  · rename_i a k1 k2
    cases e
    obtain ⟨⟨ev, us, h1, x, r, e1, hx, y, r2, e2, hy, e3⟩, h3⟩ := h
    cases ev
    have e3' : r2 = [] := e3
    subst e1; subst e2; subst e3'
    exact ⟨a, x, y, rfl, SqT.of (l.h _ _ h1 (h3 a (by simp [OT.fp]))), ⟨hx, fun q hq => h3 q (by simp [OT.fp, hq])⟩, ⟨hy, fun q hq => h3 q (by simp [OT.fp, hq])⟩⟩
  · cases e
    obtain ⟨⟨v', ev, h⟩, _⟩ := h
    cases ev
    obtain ⟨p, vs, rfl, h1, h2⟩ := Den.tupE h
    cases h2 with
    | cons hx t => cases t with
      | cons hy t =>
        cases t
        exact ⟨p, _, _, rfl, SqT.same ok.sub h1, ⟨⟨_, rfl, hx⟩, fun q hq => nomatch hq⟩, ⟨⟨_, rfl, hy⟩, fun q hq => nomatch hq⟩⟩
  · cases e
instance (priority := high) rs_unp {K : Frag} {i a b : Nat} {pr : List PyData -> PEnv -> (PEnv -> Prop) -> Prop} [hr : RGs K (A2m (Q8 a) (A2m (Q8 b) gNil)) pr] : RS K (tAsg (tVar i) (gTup K 2 (A2m (Q8 a) (A2m (Q8 b) gNil)))) (pUnp i a b pr) where
  ok := by
    rintro c w env σ Dp D rfl E h p
    unfold pUnp at p
    split at p
    · rename_i t e
      obtain ⟨u1, u2, hp, q⟩ := p
      obtain ⟨v, h1, h2⟩ := E.at' i _ e
      obtain ⟨p, x, y, rfl, hs, hx, hy⟩ := B6r E.wok E.le0 h2 hp
      refine ⟨_, h1, p, [x, y], rfl, hs, rfl, x, [y], rfl, y, [], rfl, rfl, ?_⟩
      have E1 := E.set (i := a) hx.sv B1u
      have E2 := E1.set (i := b) hy.sv B1u
      exact h.nx _ _ w E2 (Same.refl _) q
    · rename_i x e
      obtain ⟨v, h1, h2⟩ := E.at' i _ e
      refine ⟨v, h1, ?_⟩
      exact rg_tup.ok c w env σ v x _ _ rfl E h2 p fun e2 σ2 E2 q2 => h.nx e2 σ2 w E2 (Same.refl _) q2
    · exact p.elim
def C0i (i : Nat) (n : Int) (j : Nat) (D : PEnds) (env : PEnv) : Prop := match env[i]? with
  | some (some (.bt t)) => ∃ u v, t.pair = some (u, v) /\ ((n = 0 /\ D.nx (env.set j (some u.sv))) \/ (n = 1 /\ D.nx (env.set j (some v.sv))))
  | _ => False
end Pu
namespace Pu
open PySem L2 My Prf
theorem fdE {a : Int} {n : Nat} (h : (n : Int) ∣ a) : a.fdiv n = a / n := Int.fdiv_eq_ediv_of_dvd h
theorem fdN (a n : Nat) : (a : Int).fdiv (n : Int) = ((a / n : Nat) : Int) := by
  rw [Int.fdiv_eq_ediv_of_nonneg _ (Int.natCast_nonneg n)]; rfl
theorem B8x (p q : Rat) : p.num.fdiv ((Int.gcd p.num q.den : Nat) : Int) * q.num.fdiv ((Int.gcd q.num p.den : Nat) : Int) = (p * q).num := by
  have e : p * q = Rat.mul p q := rfl
  rw [e]; unfold Rat.mul
  show _ = p.num.divExact _ _ * q.num.divExact _ _
  rw [Int.divExact_eq_ediv, Int.divExact_eq_ediv, fdE (Int.gcd_dvd_left ..), fdE (Int.gcd_dvd_left ..)]
  rfl
theorem B8y (p q : Rat) : (p.den : Int).fdiv ((Int.gcd q.num p.den : Nat) : Int) * (q.den : Int).fdiv ((Int.gcd p.num q.den : Nat) : Int) = ((p * q).den : Int) := by
  have e : p * q = Rat.mul p q := rfl
  rw [e]; unfold Rat.mul
  show _ = ((p.den.divExact _ _ * q.den.divExact _ _ : Nat) : Int)
  rw [Nat.divExact_eq_div, Nat.divExact_eq_div, fdN, fdN]
  rfl
theorem B46 (p q : Rat) (g t : Int) (hg : g = ((Int.gcd (p.den : Int) (q.den : Int) : Nat) : Int)) (ht : t = p.num * (q.den : Int).fdiv g + q.num * (p.den : Int).fdiv g) :
    t.fdiv ((Int.gcd t g : Nat) : Int) = (p + q).num /\ (p.den : Int).fdiv g * (q.den : Int).fdiv ((Int.gcd t g : Nat) : Int) = ((p + q).den : Int) := by
  have e : p + q = Rat.add p q := rfl
  have hgn : Int.gcd (p.den : Int) (q.den : Int) = Nat.gcd p.den q.den := rfl
  rw [hgn] at hg
  rw [e]; unfold Rat.add
  dsimp only
  split
  · rename_i h1
    rw [h1] at hg
    subst hg
    have ht' : t = p.num * q.den + q.num * p.den := by rw [ht, fdN, fdN]; simp
    have h2 : Int.gcd t ((1 : Nat) : Int) = 1 := by simp
    rw [h2, ht']
    refine ⟨by simp, ?_⟩
    rw [fdN, fdN]; simp
  · rename_i h1
    rw [Rat.maybeNormalize_eq]
    rw [hg, fdN, fdN] at ht
    have h3 : Int.gcd t g = t.natAbs.gcd (p.den.gcd q.den) := by rw [hg]; rfl
    rw [h3]
    subst ht
    refine ⟨?_, ?_⟩
    · show _ = Int.divExact _ _ (Int.gcd_dvd_left _ ((p.den.gcd q.den : Nat) : Int))
      rw [Int.divExact_eq_ediv]
      exact fdE (Int.gcd_dvd_left _ ((p.den.gcd q.den : Nat) : Int))
    · show _ = ((_ / _ : Nat) : Int)
      rw [hg, fdN, fdN]
      have hd : (p.num * ((q.den / p.den.gcd q.den : Nat) : Int) + q.num * ((p.den / p.den.gcd q.den : Nat) : Int)).natAbs.gcd (p.den.gcd q.den) ∣ q.den := Nat.dvd_trans (Nat.gcd_dvd_right ..) (Nat.gcd_dvd_right ..)
      rw [Nat.mul_div_assoc _ hd, Int.natCast_mul]
theorem Q0 {t : Int} (q : Rat) : ((Int.gcd t (q.den : Int) : Nat) : Int) ≠ 0 := by
  have h := q.den_nz
  intro h0
  have h1 : Int.gcd t (q.den : Int) = 0 := by omega
  have h2 := (Int.gcd_eq_zero_iff.mp h1).2
  omega
theorem A4h {t g : Int} (h : g ≠ 0) : ((Int.gcd t g : Nat) : Int) ≠ 0 := by
  intro h0
  have h1 : Int.gcd t g = 0 := by omega
  exact h (Int.gcd_eq_zero_iff.mp h1).2
theorem A1c {k : Nat} {a g : Int} (h : Sm k a) (g1 : 0 <= g) : Sm k (a.fdiv g) := by
  unfold Sm at *
  rw [Int.fdiv_eq_ediv_of_nonneg _ g1]
  rcases Int.lt_or_le 0 g with h0 | h0
  · have h2 := Int.natAbs_ediv_le_natAbs a g
    omega
  · have : g = 0 := by omega
    subst this
    rw [Int.ediv_zero]; exact Nat.two_pow_pos k
theorem A52 {pr : List PyData -> PEnv -> (PEnv -> Prop) -> Prop} {q : Rat} {env : PEnv} {Q : PEnv -> Prop} : qTup 2 pr (dq q) env Q = pr [.int q.num, .int q.den] env Q := by
  unfold dq; rw [Z6]; exact propext ⟨fun h => h.2, fun h => ⟨rfl, h⟩⟩
theorem B9i (q : Rat) : PyData.tuple [.int (-q.num), .int q.den] = dq (-q) := rfl
theorem A9e {q : Rat} (h : q ≠ 0) : dq q⁻¹ = .tuple [.int (if 0 < q.num then (q.den : Int) else -(q.den : Int)), .int (if 0 < q.num then q.num else -q.num)] := by
  have hn := A8c h
  have e : q⁻¹ = Rat.inv q := rfl
  unfold dq
  rw [e]; unfold Rat.inv
  by_cases h0 : q.num < 0
  · rw [dif_pos h0, if_neg (by omega), if_neg (by omega)]
    show PyData.tuple [_, .int ((q.num.natAbs : Nat) : Int)] = _
    rw [show ((q.num.natAbs : Nat) : Int) = -q.num by omega]
  · have h1 : 0 < q.num := by omega
    rw [dif_neg h0, dif_pos h1, if_pos h1, if_pos h1]
    show PyData.tuple [_, .int ((q.num.natAbs : Nat) : Int)] = _
    rw [show ((q.num.natAbs : Nat) : Int) = q.num by omega]
theorem B33 {k : Nat} {q : Rat} (h : SmQ k q) (hq : q ≠ 0) : SmQ k q⁻¹ := by
  have e := A9e hq
  unfold dq at e
  injection e with e
  injection e with e1 e2
  injection e2 with e2 _
  injection e1 with e1
  injection e2 with e2
  refine ⟨?_, ?_⟩
  · show Sm k q⁻¹.num
    rw [e1]
    have := h.2
    unfold Sm at *
    split <;> omega
  · show Sm k (q⁻¹.den : Int)
    rw [e2]
    have := h.1
    unfold Sm at *
    split <;> omega
end Pu
namespace Pu
open PySem L2 My Prf
section
variable {x y : PyData} {xs ys : List PyData} {i j : Nat} {env e : PEnv} {s : SV} {t : OT}
theorem B9x {k : PyData -> Prop} : (SV.d x).asD k = k x := rfl
theorem B9w {k : PyData -> Prop} : (SV.own xs).asD k = k (.list xs) := rfl
def oVar (o : Option (Option SV)) (i : Nat) (env : PEnv) (Q : SV -> PEnv -> Prop) : Prop := match o with
  | some (some (.d x)) => Q (.d x) env
  | some (some (.own xs)) => Q (.d (.list xs)) (env.set i (some (.d (.list xs))))
  | some (some .st) => Q .st env
  | _ => False
theorem B18 {Q : SV -> PEnv -> Prop} : pVar i env Q = oVar env[i]? i env Q := rfl
theorem B3a {Q : SV -> PEnv -> Prop} : oVar (some (some (.d x))) i env Q = Q (.d x) env := rfl
theorem B29 {Q : SV -> PEnv -> Prop} : oVar (some (some (.own xs))) i env Q = Q (.d (.list xs)) (env.set i (some (.d (.list xs)))) := rfl
theorem B28 {Q : SV -> PEnv -> Prop} : oVar (some (some .st)) i env Q = Q .st env := rfl
def B04 (o : Option (Option SV)) (env : PEnv) (Q : PyData -> PEnv -> Prop) : Prop := match o with
  | some (some (.d x)) => Q x env
  | some (some (.own xs)) => Q (.list xs) env
  | some (some (.bor xs)) => Q (.list xs) env
  | _ => False
theorem A6k {Q : PyData -> PEnv -> Prop} : B5g i env Q = B04 env[i]? env Q := rfl
theorem A7m {Q : PyData -> PEnv -> Prop} : B04 (some (some (.d x))) env Q = Q x env := rfl
theorem A7l {Q : PyData -> PEnv -> Prop} : B04 (some (some (.own xs))) env Q = Q (.list xs) env := rfl
theorem A7n {Q : PyData -> PEnv -> Prop} : B04 (some (some (.bor xs))) env Q = Q (.list xs) env := rfl
theorem pI_i {C : Int -> Int -> Prop} {gd : Int -> Int -> PyData} {i j : Int} {Q : SV -> Prop} : pI C gd (.int i) (.int j) Q = (C i j /\ Q (.d (gd i j))) := rfl
theorem B76 {gd : Int -> Int -> PyData} {i j : Int} {Q : SV -> Prop} : pI0 gd (.int i) (.int j) Q = Q (.d (gd i j)) := rfl
theorem pU_i {gd : Int -> PyData} {i : Int} {Q : SV -> Prop} : pU gd (.int i) Q = Q (.d (gd i)) := rfl
theorem B24 {i : Int} {Q : SV -> Prop} : pAbs [.int i] Q = Q (.d (.int (if i < 0 then -i else i))) := rfl
theorem B2f {i j : Int} {Q : SV -> Prop} : pMax [.int i, .int j] Q = Q (.d (.int (if j > i then j else i))) := rfl
theorem B2e {i j : Int} {Q : SV -> Prop} : pMin [.int i, .int j] Q = Q (.d (.int (if j < i then j else i))) := rfl
theorem B2q {i : Int} {Q : SV -> Prop} : pInt [.int i] Q = Q (.d (.int i)) := rfl
theorem B2r {b : Bool} {Q : SV -> Prop} : pInt [.bool b] Q = Q (.d (.int (if b then 1 else 0))) := rfl
theorem A3l {Q : SV -> Prop} : A3m [.list ys] Q = Q (.own ys) := rfl
theorem A3k {Q : SV -> Prop} : A3m [.tuple ys] Q = Q (.own ys) := rfl
def oKit (o : Option Bool) (Q : SV -> Prop) : Prop := match o with
  | some b => Q (.d (.bool b))
  | none => False
theorem B2p {c : String} {pa : PDt} {Q : SV -> PEnv -> Prop} : pIsi c pa env Q = pa env fun x e => oKit (kitB (tyD x) c) fun s => Q s e := rfl
theorem A63 {cs : List String} {pa : PDt} {Q : SV -> PEnv -> Prop} : C0g cs pa env Q = pa env fun x e => cs.length <= 1000 /\ oKit (A0f (tyD x) cs) fun s => Q s e := rfl
theorem B3h {b : Bool} {Q : SV -> Prop} : oKit (some b) Q = Q (.d (.bool b)) := rfl
theorem B9y {b : Bool} {k : Bool -> Prop} : asB (.bool b) k = k b := rfl
theorem B9r {k : List PyData -> Prop} : asL (.list xs) k = k xs := rfl
theorem B31 {k : Prop} : isSt (some (some .st)) k = k := rfl
theorem B9s {i : Int} {k : Int -> Prop} : asI (.int i) k = k i := rfl
def A71 (o : Option (Option SV)) (D : PEnds) (env : PEnv) : Prop := match o with
  | some (some (.bor _)) => False
  | some (some (.bt _)) => False
  | some (some (.al _)) => False
  | some (some s) => D.rt s env
  | _ => False
theorem A6p {D : PEnds} : B5k i D env = A71 env[i]? D env := rfl
theorem A70 {D : PEnds} : A71 (some (some (.d x))) D env = D.rt (.d x) env := rfl
theorem A7z {D : PEnds} : A71 (some (some (.own xs))) D env = D.rt (.own xs) env := rfl
theorem A7y {D : PEnds} : A71 (some (some .st)) D env = D.rt .st env := rfl
theorem A7x {D : PEnds} : A71 (some (some (.tr t))) D env = D.rt (.tr t) env := rfl
theorem B11 {Q : PEnv -> Prop} : qNil [] env Q = Q env := rfl
theorem A53 {pg : PyData -> PEnv -> (PEnv -> Prop) -> Prop} {pr : List PyData -> PEnv -> (PEnv -> Prop) -> Prop} {Q : PEnv -> Prop} : B4v pg pr (x :: xs) env Q = pg x env fun e => pr xs e Q := rfl
def oPar (i j : Nat) (xs : List PyData) (D : PEnds) (e : PEnv) : Prop := match xs with
  | [x, y] => D.nx ((e.set i (some (.d x))).set j (some (.d y)))
  | _ => False
theorem B2d {pa : PAr} {D : PEnds} : pPar i j pa D env = pa env fun xs e => oPar i j xs D e := rfl
theorem B3g {D : PEnds} : oPar i j [x, y] D e = D.nx ((e.set i (some (.d x))).set j (some (.d y))) := rfl
theorem B0d {k : List PyData -> Prop} : L4 (some (some (.own xs))) k = k xs := rfl
def A3x (o : Option (Option SV)) (i : Nat) (env : PEnv) (Q : List PyData -> PEnv -> Prop) : Prop := match o with
  | some (some (.d x)) => R0 x fun xs => Q xs env
  | some (some (.own xs)) => Q xs (env.set i (some (.d (.list xs))))
  | some (some (.bor xs)) => Q xs env
  | _ => False
theorem A3q {Q : List PyData -> PEnv -> Prop} : A62 i env Q = A3x env[i]? i env Q := rfl
theorem A3v {Q : List PyData -> PEnv -> Prop} : A3x (some (some (.d x))) i env Q = R0 x fun xs => Q xs env := rfl
theorem A3u {Q : List PyData -> PEnv -> Prop} : A3x (some (some (.own xs))) i env Q = Q xs (env.set i (some (.d (.list xs)))) := rfl
theorem A3w {Q : List PyData -> PEnv -> Prop} : A3x (some (some (.bor xs))) i env Q = Q xs env := rfl
def B8s (xs : List PyData) (Q : List PyData -> Prop) : Prop := match xs with
  | [.int j] => (-(2 ^ 62) <= j /\ j < 2 ^ 62) /\ Q (rngD 0 j.toNat)
  | _ => False
theorem A6o {pa : PAr} {Q : List PyData -> PEnv -> Prop} : B7y pa env Q = pa env fun xs e => B8s xs fun ys => Q ys e := rfl
theorem A7w {j : Int} {Q : List PyData -> Prop} : B8s [.int j] Q = ((-(2 ^ 62) <= j /\ j < 2 ^ 62) /\ Q (rngD 0 j.toNat)) := rfl
def B8r (xs : List PyData) (Q : List PyData -> Prop) : Prop := match xs with
  | [.int i, .int j] => (-(2 ^ 62) <= i /\ i < 2 ^ 62 /\ -(2 ^ 62) <= j /\ j < 2 ^ 62) /\ Q (rngD i (j - i).toNat)
  | _ => False
theorem A6n {pa : PAr} {Q : List PyData -> PEnv -> Prop} : C0e pa env Q = pa env fun xs e => B8r xs fun ys => Q ys e := rfl
theorem A7v {i j : Int} {Q : List PyData -> Prop} : B8r [.int i, .int j] Q = ((-(2 ^ 62) <= i /\ i < 2 ^ 62 /\ -(2 ^ 62) <= j /\ j < 2 ^ 62) /\ Q (rngD i (j - i).toNat)) := rfl
def B8q (xs : List PyData) (Q : List PyData -> Prop) : Prop := match xs with
  | [.int i, .int j, .int k] => k = -1 /\ ((-(2 ^ 61) <= i /\ i < 2 ^ 61) /\ -(2 ^ 61) <= j /\ j < 2 ^ 61) /\ Q (dwnD i (i - j).toNat)
  | _ => False
theorem A6m {pa : PAr} {Q : List PyData -> PEnv -> Prop} : B7x pa env Q = pa env fun xs e => B8q xs fun ys => Q ys e := rfl
theorem A7u {i j k : Int} {Q : List PyData -> Prop} : B8q [.int i, .int j, .int k] Q = (k = -1 /\ ((-(2 ^ 61) <= i /\ i < 2 ^ 61) /\ -(2 ^ 61) <= j /\ j < 2 ^ 61) /\ Q (dwnD i (i - j).toNat)) := rfl
theorem B2y {Q : SV -> Prop} : pCat (.list xs) (.list ys) Q = (xs.length + ys.length <= 1000000 /\ Q (.own (xs ++ ys))) := rfl
theorem B23 {Q : SV -> Prop} : pAll [.list ys] Q = ∃ bs, blsD ys = some bs /\ Q (.d (.bool (bs.all id))) := rfl
theorem B22 {Q : SV -> Prop} : pAny [.list ys] Q = ∃ bs, blsD ys = some bs /\ Q (.d (.bool (bs.any id))) := rfl
def B06 (o : Option (Option SV)) (i : Nat) (env : PEnv) (Q : List PyData -> PEnv -> Prop) : Prop := match o with
  | some (some (.d x)) => asL x fun xs => Q xs env
  | some (some (.own xs)) => Q xs (env.set i (some (.d (.list xs))))
  | some (some (.bor xs)) => Q xs env
  | _ => False
theorem A6u {Q : List PyData -> PEnv -> Prop} : B5r i env Q = B06 env[i]? i env Q := rfl
theorem A76 {Q : List PyData -> PEnv -> Prop} : B06 (some (some (.d x))) i env Q = asL x fun xs => Q xs env := rfl
theorem A75 {Q : List PyData -> PEnv -> Prop} : B06 (some (some (.own xs))) i env Q = Q xs (env.set i (some (.d (.list xs)))) := rfl
theorem A77 {Q : List PyData -> PEnv -> Prop} : B06 (some (some (.bor xs))) i env Q = Q xs env := rfl
def oZip (xss : List (List PyData)) (Q : List PyData -> Prop) : Prop := match xss with
  | [xs, ys] => Q (zipD xs ys)
  | _ => False
theorem B17 {pa : PEnv -> (List (List PyData) -> PEnv -> Prop) -> Prop} {Q : List PyData -> PEnv -> Prop} : pZip pa env Q = pa env fun xss e => oZip xss fun ys => Q ys e := rfl
theorem B27 {Q : List PyData -> Prop} : oZip [xs, ys] Q = Q (zipD xs ys) := rfl
def B8u (xss : List (List PyData)) (Q : List PyData -> Prop) : Prop := match xss with
  | [xs] => Q (B6g xs)
  | _ => False
theorem A65 {pa : PEnv -> (List (List PyData) -> PEnv -> Prop) -> Prop} {Q : List PyData -> PEnv -> Prop} : C0h pa env Q = pa env fun xss e => B8u xss fun ys => Q ys e := rfl
theorem A8a {Q : List PyData -> Prop} : B8u [xs] Q = Q (B6g xs) := rfl
def A7s (o : Option (Option SV)) (env : PEnv) (Q : PyData -> PEnv -> Prop) : Prop := match o with
  | some (some (.d x)) => Q x env
  | some (some (.own xs)) => Q (.list xs) env
  | some (some (.bor xs)) => Q (.list xs) env
  | some (some (.tr t)) => ∃ x, t.dat = [x] /\ Q x env
  | _ => False
theorem A6l {Q : PyData -> PEnv -> Prop} : B5h i env Q = A7s env[i]? env Q := rfl
theorem A7q {Q : PyData -> PEnv -> Prop} : A7s (some (some (.d x))) env Q = Q x env := rfl
theorem A7p {Q : PyData -> PEnv -> Prop} : A7s (some (some (.own xs))) env Q = Q (.list xs) env := rfl
theorem A7r {Q : PyData -> PEnv -> Prop} : A7s (some (some (.bor xs))) env Q = Q (.list xs) env := rfl
theorem A7o {Q : PyData -> PEnv -> Prop} : A7s (some (some (.tr t))) env Q = ∃ x, t.dat = [x] /\ Q x env := rfl
theorem ot_d {k : OT -> Prop} : (SV.d x).ot k = k (.leaf x) := rfl
theorem ot_o {k : OT -> Prop} : (SV.own xs).ot k = ∀ a, k (.nd true a (B9 xs)) := rfl
theorem ot_t {k : OT -> Prop} : (SV.tr t).ot k = k t := rfl
theorem B4b {k : OT -> Prop} : asTr (some (some (.tr t))) k = k t := rfl
theorem B9v {k : PyData -> Prop} : (SV.d x).asH k = k x := rfl
theorem B9u {k : PyData -> Prop} : (SV.own xs).asH k = k (.list xs) := rfl
theorem B9t {k : PyData -> Prop} : (SV.tr t).asH k = ∃ x, t.dat = [x] /\ k x := rfl
def oTrV (o : Option (Option SV)) (env : PEnv) (Q : OT -> PEnv -> Prop) : Prop := match o with
  | some (some (.d x)) => Q (.leaf x) env
  | some (some (.tr t)) => Q t env
  | some (some (.bt t)) => Q t env
  | _ => False
theorem B2b {Q : OT -> PEnv -> Prop} : pTrV i env Q = oTrV env[i]? env Q := rfl
theorem B3e {Q : OT -> PEnv -> Prop} : oTrV (some (some (.d x))) env Q = Q (.leaf x) env := rfl
theorem B3d {Q : OT -> PEnv -> Prop} : oTrV (some (some (.tr t))) env Q = Q t env := rfl
theorem B3f {Q : OT -> PEnv -> Prop} : oTrV (some (some (.bt t))) env Q = Q t env := rfl
def oUnp (o : Option (Option SV)) (a b : Nat) (pr : List PyData -> PEnv -> (PEnv -> Prop) -> Prop) (D : PEnds) (env : PEnv) : Prop := match o with
  | some (some (.bt t)) => ∃ u v, t.pair = some (u, v) /\ D.nx ((env.set a (some u.sv)).set b (some v.sv))
  | some (some (.d x)) => qTup 2 pr x env D.nx
  | _ => False
theorem B19 {a b : Nat} {pr : List PyData -> PEnv -> (PEnv -> Prop) -> Prop} {D : PEnds} : pUnp i a b pr D env = oUnp env[i]? a b pr D env := rfl
theorem B3c {a b : Nat} {pr : List PyData -> PEnv -> (PEnv -> Prop) -> Prop} {D : PEnds} : oUnp (some (some (.bt t))) a b pr D env = ∃ u v, t.pair = some (u, v) /\ D.nx ((env.set a (some u.sv)).set b (some v.sv)) := rfl
theorem B3b {a b : Nat} {pr : List PyData -> PEnv -> (PEnv -> Prop) -> Prop} {D : PEnds} : oUnp (some (some (.d x))) a b pr D env = qTup 2 pr x env D.nx := rfl
def B8v (o : Option (Option SV)) (n : Int) (j : Nat) (D : PEnds) (env : PEnv) : Prop := match o with
  | some (some (.bt t)) => ∃ u v, t.pair = some (u, v) /\ ((n = 0 /\ D.nx (env.set j (some u.sv))) \/ (n = 1 /\ D.nx (env.set j (some v.sv))))
  | _ => False
theorem A7e {n : Int} {D : PEnds} : C0i i n j D env = B8v env[i]? n j D env := rfl
theorem A8b {n : Int} {D : PEnds} : B8v (some (some (.bt t))) n j D env = ∃ u v, t.pair = some (u, v) /\ ((n = 0 /\ D.nx (env.set j (some u.sv))) \/ (n = 1 /\ D.nx (env.set j (some v.sv)))) := rfl
class Box (α : Type) where
  f : α -> Prop
def hold {α : Type} [b : Box α] (x : α) : Prop := b.f x
theorem A4f {α : Type} {f : α -> Prop} {x : α} : @hold α ⟨f⟩ x = f x := rfl
theorem A7d {psp : PSp} {pa : PAs} {env : PEnv} {Q : SV -> PEnv -> Prop} : B8h psp pa env Q = pa env fun as e => psp as (@hold SV ⟨fun s => Q s e⟩) := rfl
theorem A3s {psp : PSp} {pa pb : PDt} {env : PEnv} {Q : SV -> PEnv -> Prop} : B8g psp pa pb env Q = pa env fun x e => pb e fun y e2 => psp [.d x, .d y] (@hold SV ⟨fun s => ∃ b, s = .d (.bool b) /\ Q (.d (.bool b)) e2⟩) := rfl
theorem B2h {xs : List PyData} {i : Int} {Q : SV -> Prop} : pIx (.list xs) (.int i) Q = pGet xs i (@hold SV ⟨Q⟩) := rfl
theorem B2g {xs : List PyData} {i : Int} {Q : SV -> Prop} : pIx (.tuple xs) (.int i) Q = pGet xs i (@hold SV ⟨Q⟩) := rfl
theorem A7a {pi : PAr} {pg : PyData -> PEnv -> (PEnv -> Prop) -> Prop} {pt : PTt} {pd : PDt} {cap : List (Option Nat)} {env : PEnv} {Q : SV -> PEnv -> Prop} : B8d pi pg pt pd cap env Q = pi env fun xs e => xs.length < 1000000 /\ L5 xs pg pt pd (G7 cap e) (@hold (List PyData) ⟨fun ys => Q (.own ys) e⟩) := rfl
theorem X7 {pi : PAr} {pg : PyData -> PEnv -> (PEnv -> Prop) -> Prop} {pt : PTt} {pd : PDt} {cap : List (Option Nat)} {i : Nat} {D : PEnds} {env : PEnv} : A3j pi pg pt pd cap i D env = pi env fun xs e => xs.length < 1000000 /\ L5 xs pg pt pd (G7 cap e) (@hold (List PyData) ⟨fun ys => D.nx (e.set i (some (.own ys)))⟩) := rfl
end
end Pu
namespace L2
open PySem PySem.Spec PyProof.Rows
section
variable {X : Cx}
def rInD (K : PySem.W.Frag) (neg : Bool) : R2 := fun x y H Q => ∃ dx dy xs, Den K H x dx /\ Den K H y dy /\ (dy = .list xs \/ dy = .tuple xs) /\ PyData.canLayAll0 xs = true /\ dx.canLay0 = true /\ dx.depth <= 60 /\ Q (.bl (if neg then !(xs.any fun z => z.eqv dx) else xs.any fun z => z.eqv dx)) H
theorem B8n (hu : X.A.units + 64 < cLine) : OpR X (compareOp .In) (rInD X.K false) := by
  intro pins s σ H x y v u Q I rx ry h
  obtain ⟨dx, dy, xs, h1, h2, h3, c1, c2, hd, q⟩ := h
  obtain ⟨as, r1⟩ := h1.reads I rx c2
  obtain ⟨bs, r2⟩ := h2.reads I ry (by rcases h3 with rfl | rfl <;> exact c1)
  rcases h3 with rfl | rfl
  · exact PySem.SeqAt.in_list_reads r2 r1 c1 c2 (by omega) ⟨.bl _, H, I, rfl, q⟩
  · exact PySem.SeqAt.in_tuple_reads r2 r1 c1 c2 (by omega) ⟨.bl _, H, I, rfl, q⟩
theorem B5y {K : PySem.W.Frag} (h : X.K = K) (hu : X.A.units + 64 < cLine) : OpR X (compareOp .In) (rInD K false) := by subst h; exact B8n hu
end
end L2
namespace Pu
open PySem L2 My Prf
def pIn (neg : Bool) (x y : PyData) (Q : SV -> Prop) : Prop := R0 y fun xs => PyData.canLayAll0 xs = true /\ x.canLay0 = true /\ x.depth <= 60 /\ Q (.d (.bool (if neg then !(xs.any fun z => z.eqv x) else xs.any fun z => z.eqv x)))
instance ro_in {K : Frag} {neg : Bool} : RO K (rInD K neg) (pIn neg) where
  ok := by
    rintro c w env σ x y dx dy Qp Q rfl E vx vy p k
    unfold pIn R0 at p
    split at p
    · rename_i xs
      exact ⟨dx, _, xs, vx.den E.wok, vy.den E.wok, .inl rfl, p.1, p.2.1, p.2.2.1, k _ _ w (Res.data E (.bl _)) p.2.2.2⟩
    · rename_i xs
      exact ⟨dx, _, xs, vx.den E.wok, vy.den E.wok, .inr rfl, p.1, p.2.1, p.2.2.1, k _ _ w (Res.data E (.bl _)) p.2.2.2⟩
    · exact p.elim
theorem hm_H {w : Wd} : Same (hm w) w.H := fun _ _ h => (A9g h).1
instance (priority := high) re_neH {K : Frag} {ta tb : TE} {pa pb : PDt} [ha : RH K ta pa] [hb : RH K tb pb] : RE K (tOp (rNeD K) ta tb) (pOp pNeD pa pb) where
  ok := by
    rintro c w env σ Qp Q rfl E p k
    refine ha.ok c w env σ _ _ rfl E p fun x dx e1 w1 E1 l1 v1 q1 => ?_
    refine hb.ok c w1 e1 σ _ _ rfl E1 q1 fun y dy e2 w2 E2 l2 v2 q2 => ?_
    have v1' : VH c.K w2 x dx := Den.same (B9e l2) v1
    exact ⟨dx, dy, Den.same hm_H v1', Den.same hm_H v2, q2.1, q2.2.1, q2.2.2.1, k _ _ e2 w2 ((Res.data E2 (.bl _)).pre (l1.trans l2)) q2.2.2.2⟩
instance (priority := high) re_eqH {K : Frag} {ta tb : TE} {pa pb : PDt} [ha : RH K ta pa] [hb : RH K tb pb] : RE K (tOp (rEqD K) ta tb) (pOp pEqD pa pb) where
  ok := by
    rintro c w env σ Qp Q rfl E p k
    refine ha.ok c w env σ _ _ rfl E p fun x dx e1 w1 E1 l1 v1 q1 => ?_
    refine hb.ok c w1 e1 σ _ _ rfl E1 q1 fun y dy e2 w2 E2 l2 v2 q2 => ?_
    have v1' : VH c.K w2 x dx := Den.same (B9e l2) v1
    exact ⟨dx, dy, Den.same hm_H v1', Den.same hm_H v2, q2.1, q2.2.1, q2.2.2.1, k _ _ e2 w2 ((Res.data E2 (.bl _)).pre (l1.trans l2)) q2.2.2.2⟩
def B3i (o : Option (Option SV)) (n : Int) (env : PEnv) (Q : List PyData -> PEnv -> Prop) : Prop := match o with
  | some (some (.bt t)) => ∃ u v xs, t.pair = some (u, v) /\ n = 1 /\ v.sv = .bor xs /\ Q xs env
  | _ => False
def B2o (i : Nat) (n : Int) (env : PEnv) (Q : List PyData -> PEnv -> Prop) : Prop := B3i env[i]? n env Q
theorem A3y {t : OT} {n : Int} {env : PEnv} {Q : List PyData -> PEnv -> Prop} : B3i (some (some (.bt t))) n env Q = ∃ u v xs, t.pair = some (u, v) /\ n = 1 /\ v.sv = .bor xs /\ Q xs env := rfl
theorem EnvOk.take {c : Ct} {w : Wd} {env : PEnv} {σ : St} {i : Nat} {s : SV} (E : EnvOk c w env σ) (h : env[i]? = some (some s)) (hr : s.isRes = true) : ∃ v, σ[i]? = some (some v) /\ Res c w (env.set i none) σ w v s := by
  obtain ⟨v, hv, hV⟩ := E.at' i _ h
  have up : ∀ {j : Nat} {t : SV}, (env.set i none)[j]? = some (some t) -> i ≠ j /\ env[j]? = some (some t) := by
    intro j t q
    rw [List.getElem?_set] at q
    split at q
    · split at q <;> cases q
    · rename_i z; exact ⟨z, q⟩
  have E' : EnvOk c w (env.set i none) σ := ⟨E.wok, E.le0, by simpa using E.len, fun j s q => E.at' j s (up q).2, fun j k s t v u a q1 q2 => E.own j k s t v u a (up q1).2 (up q2).2, E.zf, fun a j t u za q => E.zo a j t u za (up q).2⟩
  exact ⟨v, hv, E', Lw.refl w, hV, fun a f => ⟨fun j t u q z g => (up q).1 (E.own i j _ _ _ _ a h (up q).2 hv z f g), fun za => E.zo a i _ _ za h hv f⟩, hr⟩
def B05 (o : Option (Option SV)) (i : Nat) (env : PEnv) (k : OT -> PEnv -> Prop) : Prop := match o with
  | some (some (.d x)) => k (.leaf x) env
  | some (some (.own xs)) => ∀ a, k (.nd true a (B9 xs)) (env.set i none)
  | some (some (.tr t)) => k t (env.set i none)
  | _ => False
theorem A74 {x : PyData} {i : Nat} {env : PEnv} {k : OT -> PEnv -> Prop} : B05 (some (some (.d x))) i env k = k (.leaf x) env := rfl
theorem A73 {xs : List PyData} {i : Nat} {env : PEnv} {k : OT -> PEnv -> Prop} : B05 (some (some (.own xs))) i env k = ∀ a, k (.nd true a (B9 xs)) (env.set i none) := rfl
theorem A72 {t : OT} {i : Nat} {env : PEnv} {k : OT -> PEnv -> Prop} : B05 (some (some (.tr t))) i env k = k t (env.set i none) := rfl
def B2t (i : Nat) (pr : PEnv -> (OT -> PEnv -> Prop) -> Prop) (env : PEnv) (Q : OT -> PEnv -> Prop) : Prop := B05 env[i]? i env fun t e1 => pr e1 fun r e2 => (∀ a ∈ r.fp, a ∉ t.fp) -> Q (.cons t r) e2
def B74 (i : Nat) (n : Int) (env : PEnv) (Q : SV -> PEnv -> Prop) : Prop := asTr env[i]? fun t => ∃ (m : Nat) (b : Bool) (a : Addr) (ks : OT) (x : PyData), n = m /\ t = .nd b a ks /\ ks.kid m = some (.leaf x) /\ Q (.d x) env
end Pu
namespace L2
open PySem PySem.Spec PyProof.Rows
section
variable {X : Cx} {tg : Expr}
def B66 (K : PySem.W.Frag) : List V -> Hp -> VK -> Prop := fun xs H Q => (∃ p ys, xs = [.ref p] /\ (SqL K H p ys \/ SqT K H p ys) /\ Q (.int ys.length) H) \/ ∃ z, xs = [.str z] /\ z.length <= sizeLine /\ Q (.int z.length) H
theorem C1 {K : PySem.W.Frag} (h : X.K = K) : CallR X (.builtin "len") (B66 K) := by subst h; exact call_len_seq.or A1k
theorem A1b (k : Array Nat) : ∀ (ps : List Str) (a : Array Nat), (List.foldl (fun acc (p : Str) => acc ++ k ++ p.cps) a ps).size = a.size + (ps.map fun z => z.length + k.size).sum
  | [], a => by simp
  | p :: ps, a => by
    rw [List.foldl_cons, A1b k ps, List.map_cons, List.sum_cons, Array.size_append, Array.size_append]
    show a.size + k.size + p.cps.size + _ = a.size + (p.cps.size + k.size + _)
    omega
theorem B1c {sep : Str} : ∀ {zs : List Str}, (sep.join zs).length <= (zs.map fun z => z.length + sep.length).sum := by
  intro zs
  rw [<- StrLaws.glued_eq_join]
  cases zs with
  | nil => exact Nat.le_refl _
  | cons z r =>
    show (List.foldl (fun acc (p : Str) => acc ++ sep.cps ++ p.cps) z.cps r).size <= _
    rw [A1b, List.map_cons, List.sum_cons]
    show z.cps.size + (r.map fun z => z.length + sep.cps.size).sum <= z.cps.size + sep.cps.size + (r.map fun z => z.length + sep.cps.size).sum
    omega
theorem A30 : 1000 <= sizeLine := by rw [sizeLine_eq]; decide
end
end L2
namespace L2
open PySem PySem.Spec PyProof.Rows
section
variable {X : Cx} {tg : Expr} {pos : Pos}
end
end L2
namespace Pu
open PySem L2 My Prf
def asS (x : PyData) (k : Str -> Prop) : Prop := match x with
  | .str z => k z
  | _ => False
theorem B9q {z : Str} {k : Str -> Prop} : asS (.str z) k = k z := rfl
theorem VV.strE {K : Frag} {w : Wd} {v : V} {z : Str} (h : VV K w v (.str z)) : v = .str z := by
  rcases h with h | ⟨l, vs, xs, e, e', _⟩
  · cases h; rfl
  · cases e'
def sgn (c : Nat) : PyData := .str ⟨#[c]⟩
def B93 (z : Str) : List PyData := z.cps.toList.map sgn
def B2n (pd : PDt) (env : PEnv) (Q : List PyData -> PEnv -> Prop) : Prop := pd env fun x e => asS x fun z => Q (B93 z) e
def pS (gd : Str -> Str -> PyData) (x y : PyData) (Q : SV -> Prop) : Prop := asS x fun i => asS y fun j => Q (.d (gd i j))
def B8f (x y : PyData) (Q : SV -> Prop) : Prop := asS x fun i => asS y fun j => i.length + j.length <= 1000 /\ Q (.d (.str (i ++ j)))
def B77 (z : Str) (i : Int) (Q : SV -> Prop) : Prop := ∃ c, atI z.cps.toList i = some c /\ Q (.d (sgn c))
def pIx2 (x y : PyData) (Q : SV -> Prop) : Prop := match x with
  | .str z => asI y fun i => z.length <= 1000 /\ B77 z i Q
  | x => pIx x y Q
theorem B2l {xs : List PyData} {y : PyData} {Q : SV -> Prop} : pIx2 (.list xs) y Q = pIx (.list xs) y Q := rfl
theorem B2i {xs : List PyData} {y : PyData} {Q : SV -> Prop} : pIx2 (.tuple xs) y Q = pIx (.tuple xs) y Q := rfl
theorem B2k {q : Rat} {y : PyData} {Q : SV -> Prop} : pIx2 (dq q) y Q = pIx (dq q) y Q := rfl
theorem B2m {q : Rat × Rat} {y : PyData} {Q : SV -> Prop} : pIx2 (dcn q) y Q = pIx (dcn q) y Q := rfl
theorem B2j {z : Str} {i : Int} {Q : SV -> Prop} : pIx2 (.str z) (.int i) Q = (z.length <= 1000 /\ B77 z i Q) := rfl
instance (priority := high) ro_ix2 {K : Frag} : RO K (rIx K) pIx2 where
  ok := by
    rintro c w env σ x y dx dy Qp Q rfl E vx vy p k
    unfold pIx2 at p
    split at p
    · unfold asI at p
      split at p
      · obtain ⟨hl, cc, h1, q⟩ := p
        exact .inr (.inr ⟨_, _, cc, vx.strE, vy.intE, Nat.le_trans hl A30, h1, k _ _ w (Res.data E (.str _)) q⟩)
      · exact p.elim
    · exact ro_ix.ok c w env σ x y dx dy Qp Q rfl E vx vy p k
def A2d (xs : List PyData) (Q : SV -> Prop) : Prop := match xs with
  | [.list ys] => Q (.d (.int ys.length))
  | [.tuple ys] => Q (.d (.int ys.length))
  | [.str z] => z.length <= 1000 /\ Q (.d (.int z.length))
  | _ => False
theorem A6z {ys : List PyData} {Q : SV -> Prop} : A2d [.list ys] Q = Q (.d (.int ys.length)) := rfl
theorem A6w {ys : List PyData} {Q : SV -> Prop} : A2d [.tuple ys] Q = Q (.d (.int ys.length)) := rfl
theorem A6y {q : Rat} {Q : SV -> Prop} : A2d [dq q] Q = Q (.d (.int 2)) := rfl
theorem A6x {z : Str} {Q : SV -> Prop} : A2d [.str z] Q = (z.length <= 1000 /\ Q (.d (.int z.length))) := rfl
instance rb_len2 {K : Frag} : RB K (B66 K) A2d where
  ok := by
    rintro c w env σ vs xs Qp Q rfl E vv p k
    unfold A2d at p
    split at p
    · cases vv with | cons h t => cases t; obtain ⟨a, us, e, h1, h2⟩ := h.lst E.wok; exact .inl ⟨a, us, by rw [e], .inl h1, by rw [h2.len]; exact k _ _ w (Res.data E (.int _)) p⟩
    · cases vv with | cons h t => cases t; obtain ⟨a, us, e, h1, h2⟩ := h.tup E.wok; exact .inl ⟨a, us, by rw [e], .inr h1, by rw [h2.len]; exact k _ _ w (Res.data E (.int _)) p⟩
    · cases vv with | cons h t => cases t; exact .inr ⟨_, by rw [h.strE], Nat.le_trans p.1 A30, k _ _ w (Res.data E (.int _)) p.2⟩
    · exact p.elim
def B6v : List PyData -> Option (List Str)
  | [] => some []
  | .str z :: r => (B6v r).map (z :: ·)
  | _ => none
def B75 (po pa : PDt) (env : PEnv) (Q : SV -> PEnv -> Prop) : Prop := po env fun x e => asS x fun sep => pa e fun y e2 => asL y fun ys => ∃ zs, B6v ys = some zs /\ (zs.map fun z => z.length + sep.length).sum <= 1000 /\ Q (.d (.str (sep.join zs))) e2
def B7w (pd : PDt) (i : Nat) (pi : PDt) (D : PEnds) (env : PEnv) : Prop := pd env fun x e => L4 e[i]? fun _ => pi e fun y e2 => asI y fun n => L4 e2[i]? fun xs => ∃ j, ixN xs.length n = some j /\ D.nx (e2.set i (some (.own (xs.set j x))))
def B8b (env : PEnv) (Q : SV -> PEnv -> Prop) : Prop := Q (.d (.dict [])) env
def B2s (env : PEnv) (Q : SV -> PEnv -> Prop) : Prop := Q (.d (.dict [(.none, .none)])) env
theorem A81 : kitB "int" "int" = some true := by decide +kernel
theorem A82 : kitB "int" "bool" = some false := by decide +kernel
theorem A8z : kitB "int" "tuple" = some false := by decide +kernel
theorem A80 : kitB "int" "str" = some false := by decide +kernel
theorem A89 : kitB "bool" "int" = some true := by decide +kernel
theorem A9a : kitB "bool" "bool" = some true := by decide +kernel
theorem A87 : kitB "bool" "tuple" = some false := by decide +kernel
theorem A88 : kitB "bool" "str" = some false := by decide +kernel
theorem A8t : kitB "NoneType" "int" = some false := by decide +kernel
theorem A8u : kitB "NoneType" "bool" = some false := by decide +kernel
theorem A8r : kitB "NoneType" "tuple" = some false := by decide +kernel
theorem A8s : kitB "NoneType" "str" = some false := by decide +kernel
theorem A8p : kitB "str" "int" = some false := by decide +kernel
theorem A8q : kitB "str" "bool" = some false := by decide +kernel
theorem A8n : kitB "str" "tuple" = some false := by decide +kernel
theorem A8o : kitB "str" "str" = some true := by decide +kernel
theorem A8x : kitB "list" "int" = some false := by decide +kernel
theorem A8y : kitB "list" "bool" = some false := by decide +kernel
theorem A8v : kitB "list" "tuple" = some false := by decide +kernel
theorem A8w : kitB "list" "str" = some false := by decide +kernel
theorem A8l : kitB "tuple" "int" = some false := by decide +kernel
theorem A8m : kitB "tuple" "bool" = some false := by decide +kernel
theorem A8j : kitB "tuple" "tuple" = some true := by decide +kernel
theorem A8k : kitB "tuple" "str" = some false := by decide +kernel
theorem A85 : kitB "dict" "int" = some false := by decide +kernel
theorem A86 : kitB "dict" "bool" = some false := by decide +kernel
theorem A83 : kitB "dict" "tuple" = some false := by decide +kernel
theorem A84 : kitB "dict" "str" = some false := by decide +kernel
theorem A2w {kvs : List (PyData × PyData)} : tyD (.dict kvs) = "dict" := rfl
def B2x (pr pr' : PyData -> PyData -> (SV -> Prop) -> Prop) (pa pb pc : PDt) (env : PEnv) (Q : SV -> PEnv -> Prop) : Prop :=
  pa env fun x e1 => pb e1 fun y e2 => pr x y fun s => s.asD fun b => asB b fun k => if k = true then pc e2 fun z e3 => pr' y z fun s2 => Q s2 e3 else Q (.d (.bool false)) e2
end Pu
namespace L2
open PySem PySem.Spec PyProof.Rows
section
variable {prog : Program} {w : World} {A : Around} {E : Value -> Shared -> Prop} {h : Heap} {g : Array GenState} {d : Drawn} {t : Nat} {os : OsState} {a C : Addr} {o : Obj} {vs : Array Value} {K : PySem.W.Frag}
end
end L2
namespace L2
open PySem PySem.Spec PyProof.Rows
section
variable {P : Program} {w : World} {outer : List Env} {H H' : Hp} {s s' : Shared} {a : Addr} {cls a0 : Value} {B : Heap}
end
section
variable {P : Program} {w : World} {K : PySem.W.Frag} {mg : Str -> Option Value} {base : Heap} {N : List Str} {qual : Str} {scope : Scope} {f : Addr} {cd : Value} {A : Around} {outer : List Env} {s0 : Shared} {H0 : Hp} {E : XK}
end
end L2
namespace L2
open PySem PySem.Spec PyProof.Rows
section
variable {X : Cx} {E : XK} {x : Str} {C : Addr} {pos np cpos : Pos} {e : Expr} {es : List Expr} {t : TA}
end
abbrev Cx.held (X : Cx) (a : Addr) (oe : Obj) : Cx := { X with A := X.A.mark (some (.ref a)), calm := false, pn := (a, oe) :: X.pn, xe := fun _ _ => False }
section
variable {X : Cx} {pins : List (Addr × Obj)} {σ : St} {H : Hp} {s : Shared} {a : Addr} {oe : Obj}
end
end L2
namespace L2
open PySem PySem.Spec PyProof.Rows
section
variable {P : Program} {w : World} {outer : List Env} {H H' : Hp} {s s' : Shared} {a : Addr} {cls a0 : Value} {B : Heap}
end
section
variable {X : Cx} {pins : List (Addr × Obj)} {σ : St} {H H' : Hp} {s s' : Shared} {a : Addr} {cls a0 : Value} {B : Heap}
end
section
variable {X : Cx} {k i : Nat} {f C CH : Addr} {fd : FuncData} {ps : List Str} {sp : Sp} {x xh n : Str} {p pos pos2 pos3 pos4 pos5 : Pos} {e : Expr} {es : List Expr} {t : TA} {b0 : Stmt} {suite : List Stmt} {b : Bool}
end
end L2
namespace L2
open PySem PySem.Spec PyProof.Rows
section
variable {X : Cx} {a C : Addr} {oe : Obj} {i : Nat} {b : Bool}
inductive ClV : V -> Value -> Prop
  | own (c : Addr) : ClV (.ref c) (.ref c)
  | ty (c : String) : ClV (.ty c) (.type c)
theorem ClV.get {c : V} {u cv : Value} (h : ClV c cv) (r : RelV c u) : u = cv := by
  cases h with
  | own c => exact r
  | ty c => exact r
inductive ClVs : List V -> List Value -> Prop
  | nil : ClVs [] []
  | cons {c : V} {cv : Value} {r : List V} {s : List Value} : ClV c cv -> ClVs r s -> ClVs (c :: r) (cv :: s)
theorem ClVs.get : ∀ {cs : List V} {us cvs : List Value}, ClVs cs cvs -> Vals cs us -> us = cvs
  | [], _, _, .nil, .nil => rfl
  | _ :: _, _, _, .cons h t, .cons r s => by rw [h.get r, t.get s]
end
end L2
namespace L2
open PySem PySem.Spec PyProof.Rows
section
variable {X : Cx}
variable {k i : Nat} {f C CH : Addr} {fd : FuncData} {ps : List Str} {sp : Sp} {x xh n : Str} {p pos pos2 pos3 pos4 pos5 : Pos} {e : Expr} {es : List Expr} {t : TA} {b0 : Stmt} {suite : List Stmt} {b : Bool}
end
end L2
namespace Pu
open PySem PySem.Spec PyProof.Rows L2 My Prf
end Pu
namespace L2
open PySem PySem.Spec PyProof.Rows
theorem us0 : ∀ {us : List Value}, us.length = 0 -> us = []
  | [], _ => rfl
theorem usS {n : Nat} : ∀ {us : List Value}, us.length = n + 1 -> ∃ a r, us = a :: r /\ r.length = n
  | a :: r, h => ⟨a, r, rfl, Nat.succ.inj h⟩
theorem us1 {us : List Value} (h : us.length = 1) : ∃ a, us = [a] := by
  obtain ⟨a, r, e, k⟩ := usS h
  exact ⟨a, by rw [e, us0 k]⟩
theorem us2 {us : List Value} (h : us.length = 2) : ∃ a b, us = [a, b] := by
  obtain ⟨a, r, e, k⟩ := usS h; obtain ⟨b, z⟩ := us1 k; exact ⟨a, b, by rw [e, z]⟩
theorem us3 {us : List Value} (h : us.length = 3) : ∃ a b c, us = [a, b, c] := by
  obtain ⟨a, r, e, k⟩ := usS h; obtain ⟨b, c, z⟩ := us2 k; exact ⟨a, b, c, by rw [e, z]⟩
theorem us4 {us : List Value} (h : us.length = 4) : ∃ a b c d, us = [a, b, c, d] := by
  obtain ⟨a, r, e, k⟩ := usS h; obtain ⟨b, c, d, z⟩ := us3 k; exact ⟨a, b, c, d, by rw [e, z]⟩
theorem us5 {us : List Value} (h : us.length = 5) : ∃ a b c d x, us = [a, b, c, d, x] := by
  obtain ⟨a, r, e, k⟩ := usS h; obtain ⟨b, c, d, x, z⟩ := us4 k; exact ⟨a, b, c, d, x, by rw [e, z]⟩
end L2
namespace L2
open PySem PySem.Spec PyProof.Rows
section
variable {X : Cx}
end
end L2
namespace Pu
open PySem L2 My Prf
def pRep (pe : PX) (pb : PDt) (env : PEnv) (Q : SV -> PEnv -> Prop) : Prop := pe env fun s e => ∃ xs, s = .own xs /\ pb e fun y e2 => ∃ n : Int, y = .int n /\ 0 <= n /\ n <= 1000 /\ xs.length <= 1000 /\ Q (.own (List.replicate n.toNat xs).flatten) e2
theorem B1x {k len : Nat} (h : k < len) : PySem.seqIndex? (k : Int) len = some k := by
  unfold PySem.seqIndex?
  have h1 : ¬ ((k : Int) < 0) := by omega
  have h2 : (decide ((0 : Int) <= (k : Int)) && decide ((k : Int) < (len : Int))) = true := by simp; omega
  simp only [h1, if_false, h2, if_true, Int.toNat_natCast]
theorem A1f {K : Frag} {F : Hpp} : ∀ {vs : List V} {xs : List PyData} (_ : DenAll K F vs xs) (k : Nat), DenAll K F (vs.eraseIdx k) (xs.eraseIdx k)
  | _, _, .nil, _ => .nil
  | _, _, .cons h t, 0 => t
  | _, _, .cons h t, k + 1 => .cons h (A1f t k)
def A2f (i j : Nat) (pd : PDt) (D : PEnds) (env : PEnv) : Prop := i ≠ j /\ L4 env[i]? fun _ => L4 env[j]? fun _ => pd env fun x e => L4 e[i]? fun xs => L4 e[j]? fun ys => ∃ (k : Nat) (y : PyData), x = .int k /\ ys[k]? = some y /\ xs.length < 1000000 /\ ys.length < 1000000 /\ D.nx ((e.set j (some (.own (ys.eraseIdx k)))).set i (some (.own (xs ++ [y]))))
instance rs_appPop {K : Frag} {i j : Nat} {te : TE} {pd : PDt} [he : RD K te pd] : RS K (A4y (tBM K "list" A14 (tVar i) (G5 (tBM K "list" X3 (tVar j) (G5 te tNil)) tNil))) (A2f i j pd) where
  ok := by
    rintro c w env σ Dp D rfl E h ⟨hij, p⟩
    unfold L4 at p
    split at p
    · rename_i xs0 e0
      split at p
      · rename_i ys0 f0
        obtain ⟨v, g0, l, vs, ev, h1, h2, h3, h4, h5⟩ := E.at' i _ e0
        subst ev
        obtain ⟨v', g1, m, us, ev', k1, k2, k3, k4, k5⟩ := E.at' j _ f0
        subst ev'
        refine ⟨_, g0, .inl ⟨rfl, _, SqL.of h1⟩, _, g1, .inl ⟨rfl, _, SqL.of k1⟩, ?_⟩
        refine he.ok c w env σ _ _ rfl E p fun z x e1 w1 E1 l1 d1 q1 => ?_
        split at q1
        · rename_i xs e2
          split at q1
          · rename_i ys f2
            obtain ⟨k, y, rfl, hy, b1, b2, q⟩ := q1
            obtain ⟨v2, g2, l', vs', ev2, a1, a2, a3, a4, a5⟩ := E1.at' i _ e2
            rw [g0] at g2; cases g2; cases ev2
            obtain ⟨v3, g3, m', us', ev3, c1, c2, c3, c4, c5⟩ := E1.at' j _ f2
            rw [g1] at g3; cases g3; cases ev3
            have hz : z = .int k := Den.intE d1
            subst hz
            obtain ⟨hk, _⟩ := List.getElem?_eq_some_iff.mp hy
            have hl := c5.len
            have hku : k < us'.length := by omega
            obtain ⟨y', hy', dy⟩ := c5.get (List.getElem?_eq_getElem hku)
            rw [hy] at hy'; cases hy'
            have hml : m ≠ l := fun z => by
              subst z
              exact hij (E1.own i j _ _ _ _ m e2 f2 g0 g1 rfl rfl)
            refine ⟨m, us', k, k, us'[k], rfl, rfl, c1, by omega, by omega, B1x hku, List.getElem?_eq_getElem hku, ?_⟩
            have E2 := E1.write f2 g1 c1 c2 c3 c4 (A1f c5 k)
            have e3 : (e1.set j (some (.own (ys.eraseIdx k))))[i]? = some (some (.own xs)) := by rw [List.getElem?_set_ne (Ne.symm hij)]; exact e2
            obtain ⟨v4, g4, l4, vs4, ev4, b1', b2', b3', b4', b5'⟩ := E2.at' i _ e3
            rw [g0] at g4; cases g4; cases ev4
            have ha : upd w1.H m (.lst (us'.eraseIdx k)) l = some (.lst vs') := by rw [C3 (Ne.symm hml)]; exact a1
            refine ⟨l, vs', us'[k], rfl, rfl, ha, by rw [a5.len]; exact A22 b1, ?_⟩
            have hv : vs4 = vs' := by
              have := b1'
              rw [show (Wd.mk w1.M (upd w1.H m (.lst (us'.eraseIdx k))) w1.F).H = upd w1.H m (.lst (us'.eraseIdx k)) from rfl, ha] at this
              cases this; rfl
            subst hv
            exact h.nx _ σ _ (E2.write e3 g0 b1' b2' b3' b4' (b5'.app (.cons dy .nil))) l1.f q
          · exact q1.elim
        · exact q1.elim
      · exact p.elim
    · exact p.elim
end Pu
namespace L2
open PySem PySem.Spec PyProof.Rows
section
variable {prog : Program} {w : World} {A : Around} {E : Value -> Shared -> Prop} {s : Shared}
end
section
variable {prog : Program} {w : World} {A : Around} {E : Value -> Shared -> Prop} {s : Shared} {R : Result -> Shared -> Prop} {us vs : Array Value}
end
section
variable {prog : Program} {w : World} {A : Around} {E : Value -> Shared -> Prop} {s : Shared} {us vs : Array Value}
end
end L2
namespace L2
open PySem PySem.Spec PyProof.Rows
section
variable {X : Cx} {pins : List (Addr × Obj)} {σ : St} {H : Hp} {s : Shared}
end
end L2
namespace L2
open PySem PySem.Spec PyProof.Rows
section
variable {X : Cx}
end
end L2
namespace Pu
open PySem L2 My Prf
def A6t (pa : PEnv -> (List (List PyData) -> PEnv -> Prop) -> Prop) (env : PEnv) (Q : SV -> PEnv -> Prop) : Prop := pa env fun xss e => ∃ xs ys, xss = [xs, ys] /\ xs.length <= 1000 /\ Q (.own (zipD xs ys)) e
end Pu
namespace L2
open PySem PySem.Spec PyProof.Rows
section
variable {X : Cx}
end
end L2
namespace Pu
open PySem L2 My Prf
def pIdx (po pa : PDt) (env : PEnv) (Q : SV -> PEnv -> Prop) : Prop := po env fun x e => asL x fun xs => pa e fun d e2 => PyData.canLayAll0 xs = true /\ d.canLay0 = true /\ d.depth <= 60 /\ xs.length <= 1000 /\ ∃ j : Nat, xs.findIdx? (fun z => z.eqv d) = some j /\ Q (.d (.int (j : Int))) e2
end Pu
namespace L2
open PySem PySem.Spec PyProof.Rows
def A5x (d : PyData) : Prop := (d.canLay0 = true /\ d.showable = true /\ d.hasDict = false \/ d = .dict []) /\ d.depth <= 60 /\ d.shown.length <= sizeLine
def A27 (K : PySem.W.Frag) : List V -> Hp -> VK -> Prop := fun xs H Q => ∃ x d, xs = [x] /\ Den K H x d /\ A5x d /\ Q (.str d.shown) H
section
variable {X : Cx}
theorem A5f {P : Program} {w : World} {h : Heap} {a : Addr} (m : Heap.DictOf (A2h P w) h a []) : ∃ o n, h.get? a = some o /\ o.cls = .type "dict" /\ o.data = .dict #[] n := by
  obtain ⟨o, es, ep, h1, h2, h3, _, h4, _⟩ := m
  have he : es = #[] := by
    have : es.toList = [] := by generalize es.toList = l at h4; cases h4; rfl
    exact Array.toList_inj.mp (by rw [this])
  subst he
  exact ⟨o, ep, h1, h2.1, h3⟩
theorem A5g (hg : X.A.guards = some []) (hu : X.A.units + 64 < cLine) : CallR X (.builtin "repr") (A27 X.K) := by
  intro pins s σ H xs us Q I r h
  obtain ⟨x, d, rfl, hd, ⟨hs, dp, hl⟩, q⟩ := h
  obtain ⟨u, rfl, rx⟩ := A1y r
  have fin : ∀ h' t tk, (∀ b o, s.heap.get? b = some o -> h'.get? b = some o) -> EP X pins σ Q (.str d.shown t) { s with heap := h', toks := tk } := fun h' t tk hk => ⟨.str _, H, I.kept (t' := tk) hk, ⟨t, rfl⟩, q⟩
  cases hd with
  | non => cases (show u = Value.none from rx); exact PySem.P.repr_of_none (fin _ _ _ fun _ _ e => e)
  | bl b => cases (show u = Value.bool b from rx); exact PySem.P.repr_of_bool (fin _ _ _ fun _ _ e => e)
  | int i =>
    obtain ⟨t, e⟩ := (show ∃ t, u = Value.int i t from rx); cases e
    rcases hs with ⟨_, hs, _⟩ | hs
    · exact PySem.P.repr_of_int (by simpa [PyData.showable] using hs) (fin _ _ _ fun _ _ e => e)
    · cases hs
  | str z => obtain ⟨t, e⟩ := (show ∃ t, u = Value.str z t from rx); cases e; exact PySem.P.repr_of_str (fin _ _ _ fun _ _ e => e) hl
  | lst h ds =>
    rename_i a vs xs
    rcases hs with ⟨c, hs, hd⟩ | hs
    · obtain ⟨as, rd⟩ := (Den.lst h ds).reads I rx c
      cases (show u = Value.ref a from rx)
      exact repr_of_reads' rd hs (fun z => by rw [hd] at z; cases z) hg (by omega) (fun _ _ e => e) (fun h' t tk hk => fin h' t tk hk) hl
    · cases hs
  | tup h ds =>
    rename_i a vs xs
    rcases hs with ⟨c, hs, hd⟩ | hs
    · obtain ⟨as, rd⟩ := (Den.tup h ds).reads I rx c
      cases (show u = Value.ref a from rx)
      exact repr_of_reads' rd hs (fun z => by rw [hd] at z; cases z) hg (by omega) (fun _ _ e => e) (fun h' t tk hk => fin h' t tk hk) hl
    · cases hs
  | dct h =>
    rename_i a kvs
    rcases hs with ⟨c, _, _⟩ | hs
    · cases c
    · have hk : kvs = [] := by cases kvs with | nil => rfl | cons => cases hs
      subst hk
      cases (show u = Value.ref a from rx)
      obtain ⟨_, ns, vs, kv, m⟩ := (show ObjOk X.prog X.w H s.heap a (.dK []) from I.hok a _ h)
      have hv : vs = [] := by cases kv; rfl
      subst hv
      obtain ⟨o, n, h1, h2, h3⟩ := A5f m
      have rd : Reads s.heap (.ref a) (.dict []) (a :: [] ++ []) := .dict h1 h2 h3 .nil .nil
      exact repr_of_reads' rd rfl (fun _ z => by simp at z; rw [<- z] at ns; simp at ns) hg (by show X.A.units + (1 + 1) < _; omega) (fun _ _ e => e) (fun h' t tk hk => fin h' t tk hk) hl
theorem V5 {K : PySem.W.Frag} (h : X.K = K) (hg : X.A.guards = some []) (hu : X.A.units + 64 < cLine) : CallR X (.builtin "repr") (A27 K) := by subst h; exact A5g hg hu
end
end L2
namespace Pu
open PySem L2 My Prf
def B70 (pa : PDt) (env : PEnv) (Q : SV -> PEnv -> Prop) : Prop := pa env fun d e => A5x d /\ Q (.d (.str d.shown)) e
end Pu
namespace L2
open PySem PySem.Spec PyProof.Rows
def B6w (n : Nat) (i j : Int) : List Nat := sliceRange (sliceBounds (some i) none (some j) n).1 (sliceBounds (some i) none (some j) n).2.1 (sliceBounds (some i) none (some j) n).2.2
section
variable {X : Cx}
end
end L2
namespace Pu
open PySem L2 My Prf
def B91 (xs : List PyData) (i j : Int) : List PyData := (B6w xs.length i j).filterMap (xs[·]?)
def B7u (pe pl ps : PDt) (env : PEnv) (Q : SV -> PEnv -> Prop) : Prop := pe env fun x e1 => asL x fun xs => pl e1 fun y e2 => asI y fun i => ps e2 fun z e3 => asI z fun j => j ≠ 0 /\ Q (.own (B91 xs i j)) e3
end Pu
namespace L2
open PySem PySem.Spec PyProof.Rows
end L2
namespace Pu
open PySem L2 My Prf
def B2a (pa : PEnv -> (List (List PyData) -> PEnv -> Prop) -> Prop) (env : PEnv) (Q : SV -> PEnv -> Prop) : Prop := pa env fun xss e => ∃ xs, xss = [xs] /\ Q (.d (.tuple xs)) e
end Pu
namespace L2
open PySem PySem.Spec PyProof.Rows
def told : PyData -> Str
  | .str z => z
  | d => d.shown
section
variable {X : Cx}
end
end L2
namespace Pu
open PySem L2 My Prf
def pStr (pa : PDt) (env : PEnv) (Q : SV -> PEnv -> Prop) : Prop := pa env fun d e => A5x d /\ Q (.d (.str (told d))) e
end Pu
namespace L2
open PySem PySem.Spec PyProof.Rows
mutual
def lay1 : PyData -> Bool
  | .list xs => B58 xs
  | .tuple xs => B58 xs
  | .dict kvs => kvs.isEmpty
  | .str x => PyData.strOk x
  | _ => true
def B58 : List PyData -> Bool
  | [] => true
  | x :: r => lay1 x && B58 r
end
section
variable {X : Cx} {pins : List (Addr × Obj)} {σ : St} {H : Hp} {s : Shared}
end
end L2
namespace L2
open PySem PySem.Spec PyProof.Rows
def B61 (d : PyData) : Prop := (lay1 d = true /\ d.showable = true) /\ d.depth <= 60 /\ d.shown.length <= sizeLine
section
variable {X : Cx}
end
end L2
namespace Pu
open PySem L2 My Prf
def B7t (pa : PDt) (env : PEnv) (Q : SV -> PEnv -> Prop) : Prop := pa env fun d e => B61 d /\ Q (.d (.str (told d))) e
end Pu
namespace L2
open PySem PySem.Spec PyProof.Rows
theorem B03 {X : Cx} {K : PySem.W.Frag} (h : X.K = K) : OpR X (binaryOp .Add) (B4r K) := by subst h; exact B5z
end L2
namespace Pu
open PySem L2 My Prf
def B01 (x y : PyData) (Q : SV -> Prop) : Prop := match x, y with
  | .tuple (x :: xs), .tuple (y :: ys) => xs.length + ys.length <= 1000 /\ Q (.d (.tuple (x :: xs ++ y :: ys)))
  | _, _ => False
theorem A7c {x y : PyData} {xs ys : List PyData} {Q : SV -> Prop} : B01 (.tuple (x :: xs)) (.tuple (y :: ys)) Q = (xs.length + ys.length <= 1000 /\ Q (.d (.tuple (x :: xs ++ y :: ys)))) := rfl
instance ro_catT {K : Frag} : RO K (B4r K) B01 where
  ok := by
    rintro c w env σ x y dx dy Qp Q rfl E vx vy p k
    unfold B01 at p
    split at p
    · rename_i a as b bs
      obtain ⟨l, vs, e, h1, h2⟩ := vx.tup E.wok
      obtain ⟨m, us, e', g1, g2⟩ := vy.tup E.wok
      have n1 := h2.len
      have n2 := g2.len
      have z1 : vs ≠ [] := fun z => by rw [z] at n1; cases n1
      have z2 : us ≠ [] := fun z => by rw [z] at n2; cases n2
      have n3 : vs.length + us.length <= 1002 := by rw [n1, n2]; simp; omega
      exact ⟨l, m, vs, us, e, e', h1, g1, z1, Nat.le_trans n3 (by decide), fun z => absurd z z2, fun _ q hq => k _ _ _ (Res.tup E hq (h2.app g2)) p.2⟩
    · exact p.elim
end Pu
namespace L2
open PySem PySem.Spec PyProof.Rows
section
variable {prog : Program} {w : World} {A : Around} {E : Value -> Shared -> Prop}
end
end L2
namespace Pu
open PySem L2 My Prf
def qLsU (n : Nat) (pr : List PyData -> PEnv -> (PEnv -> Prop) -> Prop) (x : PyData) (env : PEnv) (Q : PEnv -> Prop) : Prop := match x with
  | .list xs => xs.length = n /\ pr xs env Q
  | _ => False
theorem B12 {n : Nat} {pr : List PyData -> PEnv -> (PEnv -> Prop) -> Prop} {xs : List PyData} {env : PEnv} {Q : PEnv -> Prop} : qLsU n pr (.list xs) env Q = (xs.length = n /\ pr xs env Q) := rfl
def B8j (pd : PDt) (n : Nat) (pr : List PyData -> PEnv -> (PEnv -> Prop) -> Prop) (D : PEnds) (env : PEnv) : Prop := pd env fun x e => qLsU n pr x e D.nx
end Pu
namespace L2
open PySem PySem.Spec PyProof.Rows
section
variable {M : Model} {A : Around} {E : Value -> Shared -> Prop} {s : Shared}
end
section
variable {P : Program} {w : World} {K : PySem.W.Frag} {mg : Str -> Option Value} {base : Heap} {N : List Str} {qual : Str} {scope : Scope} {f : Addr} {cd : Value} {A : Around} {outer : List Env} {s0 : Shared} {H0 : Hp} {E : XK}
end
end L2
namespace L2
open PySem PySem.Spec PyProof.Rows
section
variable {X : Cx} {scope : Scope} {cl : List (Str × Addr)} {N' : List Str} {cap : List (Option Nat)} {elt tg iter : Expr} {ifs : List Expr} {wi : TI} {g : TG} {tt : TT} {te : TE} {pos : Pos}
end
section
variable {P : Program} {w : World} {K : PySem.W.Frag} {mg : Str -> Option Value} {base : Heap} {N : List Str} {qual : Str} {dsc : Scope} {f : Addr} {cd : Value} {A : Around} {outer : List Env} {s0 : Shared} {H0 : Hp} {E : XK}
variable {scope : Scope} {cl : List (Str × Addr)} {N' : List Str} {cap : List (Option Nat)} {elt tg iter : Expr} {ifs : List Expr} {wi : TI} {g : TG} {tt : TT} {te : TE} {pos : Pos}
end
end L2
namespace L2
open PySem PySem.Spec PyProof.Rows
section
variable {X : Cx} {e : Expr} {t u : TE}
end
section
variable {P : Program} {w : World} {K : PySem.W.Frag} {mg : Str -> Option Value} {base : Heap} {N : List Str} {qual : Str} {dsc : Scope} {f : Addr} {cd : Value} {A : Around} {outer : List Env} {s0 : Shared} {H0 : Hp} {E : XK}
variable {scope : Scope} {cl : List (Str × Addr)} {N' : List Str} {cap : List (Option Nat)} {elt tg iter : Expr} {ifs : List Expr} {wi : TI} {g : TG} {tt : TT} {te : TE} {pos : Pos}
end
end L2
namespace Pu
open PySem PySem.Spec PyProof.Rows L2 My Prf
end Pu
namespace L2
open PySem PySem.Spec PyProof.Rows
end L2
namespace Pu
open PySem L2 My Prf
def C0f (x y : PyData) (Q : SV -> Prop) : Prop := asS x fun i => asI y fun n => (0 <= n /\ n <= 100) /\ i.length <= 100 /\ Q (.d (.str (Txt.mul i n)))
theorem A6s {i : Str} {n : Int} {Q : SV -> Prop} : C0f (.str i) (.int n) Q = ((0 <= n /\ n <= 100) /\ i.length <= 100 /\ Q (.d (.str (Txt.mul i n)))) := rfl
end Pu
namespace L2
open PySem PySem.Spec PyProof.Rows
section
variable {pg : Program} {wo : World} {ar : Around} {xe : Value -> Shared -> Prop} {st : Shared}
end
end L2
namespace Pu
open PySem L2 My Prf
def pSlT (pa : PDt) (pl ph : PEnv -> (Option Int -> PEnv -> Prop) -> Prop) (env : PEnv) (Q : SV -> PEnv -> Prop) : Prop := pa env fun x e => pl e fun lo e1 => ph e1 fun hi e2 => ∃ (xs : List PyData) (b : Nat), x = .tuple xs /\ lo = none /\ hi = some (b : Int) /\ Q (.d (.tuple (xs.take b))) e2
end Pu
namespace Pu
open PySem L2 My Prf
def OT.part : OT -> Int -> Option OT
  | .leaf (.tuple xs), i => (L2.atI xs i).map .leaf
  | .leaf (.list xs), i => (L2.atI xs i).map .leaf
  | .nd _ _ k, i => (ixN k.len i).bind k.kid
  | _, _ => none
theorem B5f {c : Ct} {w : Wd} {v : V} {t u : OT} {i : Int} (ok : w.Ok) (l : Le c.w0 w) (h : VR c w v (.bt t)) (e : t.part i = some u) : ∃ p vs x, v = .ref p /\ (SqL c.K w.H p vs \/ SqT c.K w.H p vs) /\ L2.atI vs i = some x /\ VR c w x (.bt u) := by
  unfold OT.part at e
  split at e
  · obtain ⟨⟨v', ev, h⟩, _⟩ := h
    cases ev
    obtain ⟨x, hx, rfl⟩ := Option.map_eq_some_iff.mp e
    obtain ⟨p, vs, rfl, h1, h2⟩ := Den.tupE h
    obtain ⟨y, hy, hd⟩ := h2.atIE hx
    exact ⟨p, vs, y, rfl, .inr (SqT.same ok.sub h1), hy, ⟨_, rfl, hd⟩, fun q hq => nomatch hq⟩
  · obtain ⟨⟨v', ev, h⟩, _⟩ := h
    cases ev
    obtain ⟨x, hx, rfl⟩ := Option.map_eq_some_iff.mp e
    obtain ⟨p, vs, rfl, h1, h2⟩ := Den.lstE h
    obtain ⟨y, hy, hd⟩ := h2.atIE hx
    exact ⟨p, vs, y, rfl, .inl (ok.sub.seq h1), hy, ⟨_, rfl, hd⟩, fun q hq => nomatch hq⟩
  · rename_i b a k
    obtain ⟨⟨ev, us, h1, h2⟩, h3⟩ := h
    cases ev
    obtain ⟨j, hj, hk⟩ := Option.bind_eq_some_iff.mp e
    obtain ⟨x, hx, hu⟩ := h2.kid hk
    have hH := l.h _ _ h1 (h3 a (by simp [OT.fp]))
    refine ⟨a, us, x, rfl, ?_, ?_, hu, fun q hq => h3 q (List.mem_cons_of_mem _ (A4a hk hq))⟩
    · cases b with
      | true => exact .inl (SqL.of hH)
      | false => exact .inr (SqT.of hH)
    · unfold L2.atI
      rw [h2.len, hj]; exact hx
  · cases e
def B52 (o : Option (Option SV)) (env : PEnv) (Q : OT -> PEnv -> Prop) : Prop := match o with
  | some (some (.bt t)) => Q t env
  | some (some (.d x)) => Q (.leaf x) env
  | _ => False
def B73 (i : Nat) (env : PEnv) (Q : OT -> PEnv -> Prop) : Prop := B52 env[i]? env Q
theorem A79 {t : OT} {env : PEnv} {Q : OT -> PEnv -> Prop} : B52 (some (some (.bt t))) env Q = Q t env := rfl
theorem A78 {x : PyData} {env : PEnv} {Q : OT -> PEnv -> Prop} : B52 (some (some (.d x))) env Q = Q (.leaf x) env := rfl
def pPth (pb : PEnv -> (OT -> PEnv -> Prop) -> Prop) (pi : PDt) (env : PEnv) (Q : OT -> PEnv -> Prop) : Prop := pb env fun t e1 => pi e1 fun y e2 => asI y fun n => ∃ u, t.part n = some u /\ Q u e2
def OT.vw (t : OT) (k : PyData -> Prop) : Prop := match t with
  | .leaf x => k x
  | t => ∃ xs, t.sv = .bor xs /\ k (.list xs)
theorem A5j {x : PyData} {k : PyData -> Prop} : OT.vw (.leaf x) k = k x := rfl
theorem B6o {a : Addr} {xs : List PyData} {k : PyData -> Prop} (h : k (.list xs)) : OT.vw (.nd true a (B9 xs)) k := ⟨xs, R9, h⟩
def pVw (pb : PEnv -> (OT -> PEnv -> Prop) -> Prop) (env : PEnv) (Q : PyData -> PEnv -> Prop) : Prop := pb env fun t e => t.vw fun x => Q x e
def OT.lf (t : OT) (k : PyData -> Prop) : Prop := match t with
  | .leaf x => k x
  | _ => False
theorem A8g {x : PyData} {k : PyData -> Prop} : OT.lf (.leaf x) k = k x := rfl
def pLf (pb : PEnv -> (OT -> PEnv -> Prop) -> Prop) (env : PEnv) (Q : SV -> PEnv -> Prop) : Prop := pb env fun t e => t.lf fun x => Q (.d x) e
def pBr (pb : PEnv -> (OT -> PEnv -> Prop) -> Prop) (env : PEnv) (Q : List PyData -> PEnv -> Prop) : Prop := pb env fun t e => ∃ xs, t.sv = .bor xs /\ Q xs e
end Pu
namespace L2
open PySem PySem.Spec PyProof.Rows
end L2
namespace Pu
open PySem L2 My Prf
def Wd.less (w : Wd) (p q : Addr) : Wd := ⟨w.M, fun a => if a = p \/ a = q then none else w.H a, w.F⟩
def Mut (K : Frag) (w : Wd) (l : Addr) (xs : List PyData) : Prop := ∃ vs, w.H l = some (.lst vs) /\ w.F l = none /\ ¬ w.M l /\ DenAll K w.F vs xs
abbrev PMu := List PyData -> List PyData -> List PyData -> (PyData -> List PyData -> List PyData -> Prop) -> Prop
def B9f (nd : Nat) (p q : Addr) (Qp : PyData -> List PyData -> List PyData -> Prop) (x : PyData) (e : PEnv) : Prop := ∃ ys zs, e[nd]? = some (some (.tr (.nd true p (B9 ys)))) /\ e[nd + 1]? = some (some (.tr (.nd true q (B9 zs)))) /\ Qp x ys zs
def rtMu (nd : Nat) (p q : Addr) (Qp : PyData -> List PyData -> List PyData -> Prop) (s : SV) (e : PEnv) : Prop := match s with
  | .d x => B9f nd p q Qp x e
  | _ => False
theorem B1y {nd : Nat} {p q : Addr} {Qp : PyData -> List PyData -> List PyData -> Prop} {x : PyData} {e : PEnv} : rtMu nd p q Qp (.d x) e = B9f nd p q Qp x e := rfl
def oMu (o : Option (Option SV)) (k : Addr -> List PyData -> Prop) : Prop := match o with
  | some (some (.tr t)) => ∃ a xs, t = .nd true a (B9 xs) /\ k a xs
  | _ => False
theorem C0k {a : Addr} {xs : List PyData} {k : Addr -> List PyData -> Prop} (h : k a xs) : oMu (some (some (.tr (.nd true a (B9 xs))))) k := ⟨a, xs, rfl, h⟩
theorem Y0 {xs ys : List PyData} (h : B9 xs = B9 ys) : xs = ys := by
  have := congrArg OT.dat h
  rwa [F8, F8] at this
theorem B8t {a : Addr} {xs : List PyData} {k : Addr -> List PyData -> Prop} : oMu (some (some (.tr (.nd true a (B9 xs))))) k = k a xs :=
  propext ⟨fun ⟨_, _, e, h⟩ => by
    have e1 := (OT.nd.inj e).2.1
    have e2 := Y0 (OT.nd.inj e).2.2
    subst e1; subst e2; exact h, C0k⟩
def pMuV (i : Nat) (env : PEnv) (Q : PyData -> PEnv -> Prop) : Prop := oMu env[i]? fun _ xs => Q (.list xs) env
def B2c (pd : PDt) (i : Nat) (pi : PDt) (D : PEnds) (env : PEnv) : Prop := pd env fun x e => oMu e[i]? fun _ _ => pi e fun y e2 => asI y fun n => oMu e2[i]? fun a xs => ∃ j, ixN xs.length n = some j /\ D.nx (e2.set i (some (.tr (.nd true a (B9 (xs.set j x))))))
def is2 (o o' : Option (Option SV)) (k : Prop) : Prop := match o, o' with
  | some (some (.own _)), some (some (.own _)) => k
  | _, _ => False
theorem B9b {xs ys : List PyData} {k : Prop} : is2 (some (some (.own xs))) (some (some (.own ys))) k = k := rfl
def pA2 (i j : Nat) (env : PEnv) (Q : List PyData -> Nat -> Nat -> PEnv -> Prop) : Prop := is2 env[i]? env[j]? (Q [] i j env)
def pC2 (pd : PDt) (pr : PEnv -> (List PyData -> Nat -> Nat -> PEnv -> Prop) -> Prop) (env : PEnv) (Q : List PyData -> Nat -> Nat -> PEnv -> Prop) : Prop := pd env fun x e1 => pr e1 fun xs i j e2 => Q (x :: xs) i j e2
def own2 (o o' : Option (Option SV)) (k : List PyData -> List PyData -> Prop) : Prop := match o, o' with
  | some (some (.own xs)), some (some (.own ys)) => k xs ys
  | _, _ => False
theorem B25 {xs ys : List PyData} {k : List PyData -> List PyData -> Prop} : own2 (some (some (.own xs))) (some (some (.own ys))) k = k xs ys := rfl
def pMu (psp : PMu) (pa : PEnv -> (List PyData -> Nat -> Nat -> PEnv -> Prop) -> Prop) (env : PEnv) (Q : PyData -> PEnv -> Prop) : Prop := pa env fun xs i j e => i ≠ j /\ own2 e[i]? e[j]? fun ys zs => psp xs ys zs fun x ys' zs' => Q x ((e.set i (some (.own ys'))).set j (some (.own zs')))
def B21 (psp : PMu) (pa : PEnv -> (List PyData -> Nat -> Nat -> PEnv -> Prop) -> Prop) (m : Nat) (D : PEnds) (env : PEnv) : Prop := pMu psp pa env fun x e => D.nx (e.set m (some (.d x)))
def A66 (psp : PMu) (pa : PEnv -> (List PyData -> Nat -> Nat -> PEnv -> Prop) -> Prop) (D : PEnds) (env : PEnv) : Prop := pMu psp pa env fun _ e => D.nx e
end Pu
namespace L2
open PySem PySem.Spec PyProof.Rows
end L2
namespace Pu
open PySem L2 My Prf
def B2v (i : Nat) (pg : PyData -> PEnv -> (PEnv -> Prop) -> Prop) (pt : PTt) (pd : PDt) (cap : List (Option Nat)) (env : PEnv) (Q : SV -> PEnv -> Prop) : Prop := L4 env[i]? fun xs => xs.length < 1000000 /\ L5 xs pg pt pd (G7 cap env) fun ys => Q (.own ys) env
def A00 (i : Nat) (pg : PyData -> PEnv -> (PEnv -> Prop) -> Prop) (pt : PTt) (pd : PDt) (cap : List (Option Nat)) (j : Nat) (D : PEnds) (env : PEnv) : Prop := L4 env[i]? fun xs => xs.length < 1000000 /\ L5 xs pg pt pd (G7 cap env) fun ys => D.nx (env.set j (some (.own ys)))
end Pu
namespace L2
open PySem PySem.Spec PyProof.Rows
end L2
namespace Pu
open PySem L2 My Prf
theorem B5e {K : Frag} {w : Wd} {v : V} {t u : OT} {i : Int} (ok : w.Ok) (h : TV K w v t) (e : t.part i = some u) : ∃ p vs x, v = .ref p /\ (SqL K w.H p vs \/ SqT K w.H p vs) /\ L2.atI vs i = some x /\ TV K w x u := by
  obtain ⟨p, vs, x, e1, h1, h2, h3⟩ := B5f (c := ⟨K, w, noZ⟩) ok (Le.refl w) (show VR ⟨K, w, noZ⟩ w v (.bt t) from h) e
  exact ⟨p, vs, x, e1, h1, h2, h3⟩
def tPo (te : TE) : TE := te
instance (priority := high) rtr_po {K : Frag} {te ti : TE} {pb : PEnv -> (OT -> PEnv -> Prop) -> Prop} {pi : PDt} [hb : RTr K te pb] [hi : RW K ti pi] : RTr K (tPo (tOp (rIx K) te ti)) (pPth pb pi) where
  ok := by
    rintro c w env σ Qp Q rfl E p k
    refine hb.ok c w env σ _ _ rfl E p fun v t e1 w1 E1 l1 v1 q1 => ?_
    refine hi.ok c w1 e1 σ _ _ rfl E1 q1 fun y dy e2 w2 E2 l2 v2 q2 => ?_
    unfold asI at q2
    split at q2
    · rename_i n
      obtain ⟨u, hu, q⟩ := q2
      obtain ⟨p, vs, x, rfl, hs, hx, hv⟩ := B5e E2.wok (v1.mono l2 v1.1.has) hu
      have hn := v2.intE
      rcases hs with hs | hs
      · exact .inl ⟨p, vs, n, x, rfl, hn, hs, hx, k x u e2 w2 E2 (l1.trans l2) hv q⟩
      · exact .inr (.inl ⟨p, vs, n, x, rfl, hn, hs, hx, k x u e2 w2 E2 (l1.trans l2) hv q⟩)
    · exact q2.elim
theorem B6u : ∀ {t : OT} {xs : List PyData}, t.sv = .bor xs -> t = .leaf (.list xs) \/ ∃ a, t = .nd true a (B9 xs)
  | .leaf (.list ys), xs, h => by cases (show SV.bor ys = .bor xs from h); exact .inl rfl
  | .nd true a k, xs, h => by
    have h' : (match k.lvs with | some xs => SV.bor xs | none => .bt (.nd true a k)) = .bor xs := h
    cases q : k.lvs with
    | none => rw [q] at h'; cases h'
    | some ys => rw [q] at h'; cases h'; exact .inr ⟨a, by rw [P9 q]⟩
theorem TV.vw {K : Frag} {w : Wd} {v : V} {t : OT} {k : PyData -> Prop} (h : TV K w v t) (q : t.vw k) : ∃ x, VV K w v x /\ k x := by
  have go : ∀ {t : OT} {xs : List PyData}, TV K w v t -> t.sv = .bor xs -> VV K w v (.list xs) := fun {t xs} h e => by
    rcases B6u e with rfl | ⟨a, rfl⟩
    · obtain ⟨⟨v', ev, h⟩, _⟩ := h
      cases ev; exact .inl h
    · obtain ⟨⟨ev, us, h1, h2⟩, h3⟩ := h
      cases ev
      exact .inr ⟨a, us, xs, rfl, rfl, h1, h3 a (by simp [OT.fp]), J2 h2⟩
  unfold OT.vw at q
  split at q
  · obtain ⟨⟨v', ev, h⟩, _⟩ := h
    cases ev; exact ⟨_, .inl h, q⟩
  · obtain ⟨xs, e, q⟩ := q
    exact ⟨_, go h e, q⟩
instance (priority := high) rw_po {K : Frag} {te : TE} {pb : PEnv -> (OT -> PEnv -> Prop) -> Prop} [hb : RTr K (tPo te) pb] : RW K (tPo te) (pVw pb) where
  ok := by
    rintro c w env σ Qp Q rfl E p k
    refine hb.ok c w env σ _ _ rfl E p fun v t e1 w1 E1 l1 v1 q1 => ?_
    obtain ⟨x, hx, q⟩ := v1.vw q1
    exact k _ _ e1 w1 E1 l1 hx q
def pDa (pb : PEnv -> (OT -> PEnv -> Prop) -> Prop) (env : PEnv) (Q : PyData -> PEnv -> Prop) : Prop := pb env fun t e => ∃ x, t.dat = [x] /\ Q x e
instance (priority := high) rh_po {K : Frag} {te : TE} {pb : PEnv -> (OT -> PEnv -> Prop) -> Prop} [hb : RTr K (tPo te) pb] : RH K (tPo te) (pDa pb) where
  ok := by
    rintro c w env σ Qp Q rfl E p k
    refine hb.ok c w env σ _ _ rfl E p fun v t e1 w1 E1 l1 v1 q1 => ?_
    obtain ⟨x, ex, q⟩ := q1
    have := v1.1.den E1.wok v1.2
    rw [ex] at this
    cases this with | cons a _ => exact k v x e1 w1 E1 l1 a q
def OT.setK : OT -> Nat -> OT -> OT
  | .cons _ t, 0, x => .cons x t
  | .cons h t, n + 1, x => .cons h (t.setK n x)
  | t, _, _ => t
structure Sub (K : Frag) (w : Wd) (T u : OT) (r : OT -> OT) (v0 v : V) : Prop where
  tre : Tre K w u [v]
  re : ∀ (w' : Wd) x, (∀ a o, w.H a = some o -> a ∉ u.fp -> w'.H a = some o) -> Same w.F w'.F -> Tre K w' x [v] -> Tre K w' (r x) [v0]
  fp : ∃ A B, T.fp = A ++ u.fp ++ B /\ ∀ x, (r x).fp = A ++ x.fp ++ B
def B8z (T : OT) (k : OT -> (OT -> OT) -> Prop) : Prop := k T fun x => x
def mIx (pm : OT -> (OT -> (OT -> OT) -> Prop) -> Prop) (n : Int) (T : OT) (k : OT -> (OT -> OT) -> Prop) : Prop := pm T fun t r => ∃ b a ks j u, t = .nd b a ks /\ ixN ks.len n = some j /\ ks.kid j = some u /\ k u fun x => r (.nd b a (ks.setK j x))
def isLs (u : OT) (k : Addr -> List PyData -> Prop) : Prop := ∃ a xs, u = .nd true a (B9 xs) /\ k a xs
theorem B32 {a : Addr} {xs : List PyData} {k : Addr -> List PyData -> Prop} : isLs (.nd true a (B9 xs)) k = k a xs :=
  propext ⟨fun ⟨_, _, e, h⟩ => by
    have e1 := (OT.nd.inj e).2.1
    have e2 := Y0 (OT.nd.inj e).2.2
    subst e1; subst e2; exact h, fun h => ⟨a, xs, rfl, h⟩⟩
def B8e (i : Nat) (pm : OT -> (OT -> (OT -> OT) -> Prop) -> Prop) (D : PEnds) (env : PEnv) : Prop := asTr env[i]? fun T => pm T fun u r => isLs u fun a _ => D.nx (env.set i (some (.tr (r (.nd true a .nil)))))
def B8k (i : Nat) (pm : OT -> (OT -> (OT -> OT) -> Prop) -> Prop) (x : PyData) (D : PEnds) (env : PEnv) : Prop := asTr env[i]? fun T => pm T fun u r => isLs u fun a xs => xs.length < 1000000 /\ D.nx (env.set i (some (.tr (r (.nd true a (B9 (xs ++ [x])))))))
def oInt (o : Option (Option SV)) (k : Int -> Prop) : Prop := match o with
  | some (some (.d (.int n))) => k n
  | _ => False
def B7v (pd : PDt) (i : Nat) (pm : OT -> (OT -> (OT -> OT) -> Prop) -> Prop) (j : Nat) (D : PEnds) (env : PEnv) : Prop := pd env fun x e => asTr e[i]? fun T => pm T fun u r => isLs u fun a xs => oInt e[j]? fun n => ∃ m, ixN xs.length n = some m /\ D.nx (e.set i (some (.tr (r (.nd true a (B9 (xs.set m x)))))))
theorem B3j {n : Int} {k : Int -> Prop} : oInt (some (some (.d (.int n)))) k = k n := rfl
def OT.slot : OT -> SV
  | .leaf x => .d x
  | .nd true a k => match k.lvs with
    | some xs => .own xs
    | none => .tr (.nd true a k)
  | t => .tr t
theorem A0o {x : PyData} : OT.slot (.leaf x) = .d x := rfl
theorem A5w {a : Addr} {xs : List PyData} : OT.slot (.nd true a (B9 xs)) = .own xs := by show (match (B9 xs).lvs with | some xs => SV.own xs | none => _) = _; rw [P8]
def tUn (te : TE) : TE := te
def unT (s : SV) (a b : Nat) (e : PEnv) (k : PEnv -> Prop) : Prop := match s with
  | .d x => ∃ y z, x = .tuple [y, z] /\ k ((e.set a (some (.d y))).set b (some (.d z)))
  | .tr t => ∃ p u v, t = .nd false p (.cons u (.cons v .nil)) /\ k ((e.set a (some u.slot)).set b (some v.slot))
  | _ => False
theorem B6q {p : Addr} {u v : OT} {a b : Nat} {e : PEnv} {k : PEnv -> Prop} : unT (.tr (.nd false p (.cons u (.cons v .nil)))) a b e k = k ((e.set a (some u.slot)).set b (some v.slot)) :=
  propext ⟨fun ⟨_, _, _, e, h⟩ => by
    obtain ⟨_, _, e3⟩ := OT.nd.inj e
    obtain ⟨e4, e5⟩ := OT.cons.inj e3
    obtain ⟨e6, _⟩ := OT.cons.inj e5
    subst e4; subst e6; exact h, fun h => ⟨p, u, v, rfl, h⟩⟩
def pUnT (pe : PX) (a b : Nat) (D : PEnds) (env : PEnv) : Prop := pe env fun s e => unT s a b e D.nx
def B2z (psp : PSp) (pa : PAr) (env : PEnv) (Q : SV -> PEnv -> Prop) : Prop := pa env fun xs e => psp (xs.map .d) fun s => ∃ b, s = .d (.bool b) /\ Q (.d (.bool b)) e
def kids : List OT -> OT
  | [] => .nil
  | t :: r => .cons t (kids r)
def B00 (xs : List PyData) (pg : PyData -> PEnv -> (PEnv -> Prop) -> Prop) (pt : PTt) (pe : PX) (e0 : PEnv) (Fin : List OT -> Prop) : Prop :=
  ∃ Pv : Nat -> PEnv -> List OT -> Prop, Pv 0 e0 [] /\ (∀ i x e ys, xs[i]? = some x -> Pv i e ys -> pg x e fun e2 => pt e2 fun b e3 => if b = true then pe e3 fun s e4 => s.ot fun t => Pv (i + 1) e4 (ys ++ [t]) else Pv (i + 1) e3 ys) /\ ∀ e ys, Pv xs.length e ys -> Fin ys
def pCmT (pi : PAr) (pg : PyData -> PEnv -> (PEnv -> Prop) -> Prop) (pt : PTt) (pe : PX) (cap : List (Option Nat)) (env : PEnv) (Q : SV -> PEnv -> Prop) : Prop := pi env fun xs e => xs.length < 1000000 /\ B00 xs pg pt pe (G7 cap e) fun ts => ∀ a, Q (.tr (.nd true a (kids ts))) e
def OT.tup (a : Addr) (k : OT) : SV := match k.lvs with
  | some xs => .d (.tuple xs)
  | none => .tr (.nd false a k)
def B7s (pe : PX) (env : PEnv) (Q : SV -> PEnv -> Prop) : Prop := pe env fun s e => ∃ a k, s = .tr (.nd true a k) /\ ∀ p, Q (OT.tup p k) e
end Pu
namespace L2
open PySem PySem.Spec PyProof.Rows
section
variable {X : Cx} {e : Expr}
theorem qPo {t : TE} (h : QE X e t) : QE X e (Pu.tPo t) := h
end
end L2
namespace Pu
open PySem L2 My Prf
end Pu
namespace L2
open PySem PySem.Spec PyProof.Rows
section
variable {X : Cx} {e : Expr}
end
end L2
namespace L2
open PySem PySem.Spec PyProof.Rows
section
variable {X : Cx} {tg : Expr}
def ItrS (lo st : Int) (n : Nat) : It := ⟨fun i _ => i < n, fun i H x H' => H' = H /\ x = .int (lo + (i : Nat) * st), fun i _ => n <= i⟩
theorem A5p {P : Program} {w : World} {K : PySem.W.Frag} {tg : Expr} (it : Addr) (lo st : Int) (n : Nat) : Turn P w K tg (ItrS lo st n) [it] it (fun i h => IsRangeIter h it (lo + (i : Nat) * st) ((n : Int) - (i : Nat)) st) where
  mem := List.mem_singleton.mpr rfl
  obj := fun i h st b hb => by
    cases List.mem_singleton.mp hb
    refine ⟨_, st, fun v z => ?_⟩
    have z' : Data.fields _ = Data.cell v := z
    cases z'
  keep := fun i h h' st k => k it (List.mem_singleton.mpr rfl) _ st
  item := by
    intro X hP hw hK hc i pins s σ H E I hf hst hg
    subst hP hw hK
    have f := hf it (List.mem_singleton.mpr rfl)
    have W := Walks.range (prog := X.prog) (w := X.w) (I.ok.hd hc) it lo st n
    refine W.item i s _ _ hg hst fun v h' tk hv st' kk => ?_
    obtain ⟨t, rfl⟩ := hv
    have I1 : Inv X pins σ H { s with heap := h', toks := tk } := I.turned (fun b o hb e => kk b o (fun z => hb (List.mem_singleton.mp z)) e) f.1 f.2.1 f.2.2.2.1 f.2.2.2.2.1 f.2.2.2.2.2
    exact ⟨_, rfl, A9j (s := { s with heap := h', toks := tk }) (n := "range_iterator") st' rfl rfl (by decide) ⟨.int (lo + (i : Nat) * st), H, I1, ⟨t, rfl⟩, ⟨rfl, rfl⟩, st', fun b hb => (hf b hb).1⟩⟩
  done := by
    intro X hP hw hK hc i pins s σ H E I hf st hg
    subst hP hw hK
    have f := hf it (List.mem_singleton.mpr rfl)
    have hn : n <= i := hg
    exact wpAny_pyNext_range_end (I.ok.hd hc) st (by omega) fun h' eb => ⟨rfl, I.turned (t' := s.toks) (fun b o hb e => eb b o hb e) f.1 f.2.1 f.2.2.2.1 f.2.2.2.2.1 f.2.2.2.2.2⟩
  self := fun _ _ _ _ _ st h => wpAny_pyIter_rangeiter st h
def stepN (i j k : Int) : Nat := if i < j then ((j - i - 1) / k + 1).toNat else 0
theorem A0q {a b c : Int} (hc : 0 < c) : Builtin.Range.rangeSize a b c = (stepN a b c : Nat) := by
  unfold Builtin.Range.rangeSize stepN
  rw [if_pos hc]
  by_cases h : a < b
  · rw [if_pos h, if_pos h]
    have := Int.ediv_nonneg (show (0 : Int) <= b - a - 1 by omega) (Int.le_of_lt hc)
    omega
  · rw [if_neg h, if_neg h]; rfl
theorem A4z {a b c : Int} (h : (0 <= a /\ a <= 1000) /\ (0 <= b /\ b <= 1000) /\ 0 < c /\ c <= 1000) : Builtin.Range.small a b c = true := by
  obtain ⟨⟨h1, h2⟩, ⟨h3, h4⟩, h5, h6⟩ := h
  unfold Builtin.Range.small
  rw [A0q h5]
  have hn : stepN a b c <= 1000 := by
    unfold stepN
    split
    · have := Int.ediv_le_self c (show (0 : Int) <= b - a - 1 by omega)
      omega
    · omega
  have hm : 0 <= (stepN a b c : Int) * c /\ (stepN a b c : Int) * c <= 1000 * 1000 := ⟨Int.mul_nonneg (by omega) (by omega), Int.mul_le_mul (by omega) h6 (by omega) (by omega)⟩
  generalize hq : stepN a b c = q at hn hm
  simp only [Builtin.Range.rangeFitsLong, Bool.and_eq_true, Bool.or_eq_true, decide_eq_true_eq, beq_iff_eq, h5, if_true]
  omega
def B59 (ta : TA) : TI := fun σ H R => ta σ H fun vs H1 => ∃ i j k : Int, vs = [.int i, .int j, .int k] /\ ((0 <= i /\ i <= 1000) /\ (0 <= j /\ j <= 1000) /\ 0 < k /\ k <= 1000) /\ R (ItrS i k (stepN i j k)) H1
theorem A6g {a b c : Expr} {ta : TA} {p pos : Pos} (hg : Gl X "range") (hm : X.mg "range" = none) (ha : PA X [a, b, c] ta) (hs : starEach [a, b, c] X.env = [(false, eval a X.env), (false, eval b X.env), (false, eval c X.env)])
    (hs2 : starEach [b, c] X.env = [(false, eval b X.env), (false, eval c X.env)]) : PI X tg (.Call (.Name "range" p) [a, b, c] [] pos) (B59 ta) := by
  intro pins s σ H R I h
  refine Call_ (U6 I hg hm boot_range (PyProof.Rows.callWith_type1 (thn (ha pos pins s σ H _ I h) fun us s1 ⟨vs, H1, I1, r1, q1⟩ => ?_) (hs.trans (by rw [hs2])) (by rw [hs2]; rfl)))
  obtain ⟨i, j, k, e, hb, q⟩ := q1
  subst e
  cases r1 with
  | cons r rr => cases rr with
    | cons r' rr => cases rr with
      | cons r2 rr =>
        cases rr
        obtain ⟨t, rfl⟩ := r
        obtain ⟨t', rfl⟩ := r'
        obtain ⟨t2, rfl⟩ := r2
        refine call_range_3 (by omega) ?_ (.inl (PyProof.noPylong_small (by omega)))
        refine wpAny_pyIter_range (IsRange.new ..) (A4z hb) ?_
        have I2 : Inv X pins σ H1 { s1 with heap := s1.heap.push { cls := .type "range", data := .fields #[.int i t, .int j t', .int k t2] }, toks := s1.toks } := I1.kept fun b o e => Heap.get?_push_of_some _ e
        refine ⟨(s1.heap.push { cls := .type "range", data := .fields #[.int i t, .int j t', .int k t2] }).objs.size, [(s1.heap.push { cls := .type "range", data := .fields #[.int i t, .int j t', .int k t2] }).objs.size], _, _, H1, rfl,
          I2.kept (t' := s1.toks) fun b o e => Heap.get?_push_of_some _ e, A5p _ i k (stepN i j k), ?_, fun b hb => ?_, q⟩
        · have e1 : i + ((0 : Nat) : Int) * k = i := by simp
          have e2 : ((stepN i j k : Nat) : Int) - ((0 : Nat) : Int) = Builtin.Range.rangeSize i j k := by rw [A0q hb.2.2.1]; omega
          show IsRangeIter _ _ (i + ((0 : Nat) : Int) * k) (((stepN i j k : Nat) : Int) - ((0 : Nat) : Int)) k
          rw [e1, e2]
          exact Heap.get?_push_size _ rfl
        · cases List.mem_singleton.mp hb
          exact I2.fpOk (Nat.le_refl _) (I2.hok.fresh (Nat.le_refl _))
theorem A41 {a b c : Expr} {ta : TA} {p pos : Pos} (hg: Gl X "range") (hm: X.mg "range" = none) (ha: QA X [a, b, c] ta) (hs: starEach [a, b, c] X.env = [(false, eval a X.env), (false, eval b X.env), (false, eval c X.env)] := by rfl) (hs2: starEach [b, c] X.env = [(false, eval b X.env), (false, eval c X.env)] := by rfl) : QI X tg (.Call (.Name "range" p) [a, b, c] [] pos) (B59 ta) := ⟨A6g hg hm ha.out hs hs2⟩
def B6s (i j : Nat) (ta : TA) : TS := tPar i j ta
theorem B7d {i j : Nat} {s : Stmt} {t : TA} (h : QS X s (tPar i j t)) : QS X s (B6s i j t) := h
end
end L2
namespace Pu
open PySem L2 My Prf
def stpD (lo st : Int) (n : Nat) : List PyData := (List.range n).map fun k : Nat => PyData.int (lo + (k : Nat) * st)
theorem R1 (lo st : Int) (n : Nat) : (stpD lo st n).length = n := by simp [stpD]
theorem B0l {lo st : Int} {n i : Nat} {x : PyData} (h : (stpD lo st n)[i]? = some x) : i < n /\ x = .int (lo + (i : Nat) * st) := by
  unfold stpD at h
  rw [List.getElem?_map] at h
  by_cases hi : i < n
  · rw [List.getElem?_range hi] at h; cases h; exact ⟨hi, rfl⟩
  · rw [List.getElem?_eq_none (by simpa using hi)] at h; cases h
def B51 (xs : List PyData) (Q : List PyData -> Prop) : Prop := match xs with
  | [.int i, .int j, .int k] => ((0 <= i /\ i <= 1000) /\ (0 <= j /\ j <= 1000) /\ 0 < k /\ k <= 1000) /\ Q (stpD i k (stepN i j k))
  | _ => False
theorem A7t {i j k : Int} {Q : List PyData -> Prop} : B51 [.int i, .int j, .int k] Q = (((0 <= i /\ i <= 1000) /\ (0 <= j /\ j <= 1000) /\ 0 < k /\ k <= 1000) /\ Q (stpD i k (stepN i j k))) := rfl
def B5j (pa : PAr) (env : PEnv) (Q : List PyData -> PEnv -> Prop) : Prop := pa env fun xs e => B51 xs fun ys => Q ys e
instance ri_rngS {K : Frag} {ta : TA} {pa : PAr} [ha : RAv K ta pa] : RI K (B59 ta) (B5j pa) where
  ok := by
    rintro c w env σ Qp R rfl E p k
    refine ha.ok c w env σ _ _ rfl E p fun vs xs e1 w1 E1 l1 v1 q1 => ?_
    unfold B51 at q1
    split at q1
    · rename_i i j k'
      obtain ⟨hb, q1⟩ := q1
      cases v1 with | cons h t => cases t with | cons h' t => cases t with | cons h2 t =>
        cases t
        refine ⟨i, j, k', by rw [h.intE, h'.intE, h2.intE], hb, k _ _ e1 w1 E1 l1 ?_ q1⟩
        intro w' ok l s
        refine ⟨fun m hm => by rw [R1] at hm; exact hm, by rw [R1]; exact Nat.le_refl _, fun m v H' y hm => ?_⟩
        obtain ⟨e, y⟩ := y
        subst y
        rw [R1] at hm
        refine ⟨w', .int (i + (m : Nat) * k'), e.symm, ok, Le.refl w', ?_, .int _⟩
        unfold stpD
        rw [List.getElem?_map, List.getElem?_range hm]; rfl
    · exact q1.elim
theorem B6e {lo st : Int} {n : Nat} {pg : PyData -> PEnv -> (PEnv -> Prop) -> Prop} {pb : PSt} {D : PEnds} {env : PEnv} (Iv : Nat -> PEnv -> Prop) (h0 : Iv 0 env)
    (hs : ∀ (i : Nat) e, i < n -> Iv i e -> pg (.int (lo + (i : Nat) * st)) e fun e2 => pb ⟨Iv (i + 1), D.rt, D.nx, Iv (i + 1)⟩ e2) (hd : ∀ e, Iv n e -> D.nx e) : A02 (stpD lo st n) pg pb D env :=
  ⟨Iv, h0, fun i x e hx hi => by obtain ⟨h1, rfl⟩ := B0l hx; exact hs i e h1 hi, fun e h => hd e (by rwa [R1] at h)⟩
def B90 (K : Frag) (j : Nat) : TE := tBM K "list" X3 (tVar j) (G5 (tC (.int 0)) tNil)
theorem A6e {K : Frag} {c : Ct} {w : Wd} {env : PEnv} {σ : St} {j : Nat} {y : PyData} {r : List PyData} {Q : VK} (hK : c.K = K) (E : EnvOk c w env σ) (e : env[j]? = some (some (.own (y :: r)))) (k : ∀ v w', EnvOk c w' (env.set j (some (.own r))) σ -> w'.F = w.F -> Den K w'.F v y -> Q v w'.H) : B90 K j σ w.H Q := by
  subst hK
  obtain ⟨v, g0, l, vs, ev, h1, h2, h3, h4, h5⟩ := E.at' j _ e
  subst ev
  cases h5 with
  | cons hd tl =>
    rename_i u us
    refine ⟨_, g0, .inl ⟨rfl, _, SqL.of h1⟩, l, u :: us, 0, 0, u, rfl, rfl, h1, by decide, by decide, ?_, rfl, ?_⟩
    · exact B1x (k := 0) (len := (u :: us).length) (by simp)
    · exact k u ⟨w.M, upd w.H l (.lst us), w.F⟩ (E.write e g0 h1 h2 h3 h4 tl) rfl hd
def B0y (i j : Nat) (D : PEnds) (env : PEnv) : Prop := L4 env[j]? fun ys => ∃ y r, ys = y :: r /\ D.nx ((env.set j (some (.own r))).set i (some (.d y)))
instance rs_pop0 {K : Frag} {i j : Nat} : RS K (tAsg (tBM K "list" X3 (tVar j) (G5 (tC (.int 0)) tNil)) (Q8 i)) (B0y i j) where
  ok := by
    rintro c w env σ Dp D rfl E h p
    unfold B0y L4 at p
    split at p
    · rename_i ys e
      obtain ⟨y, r, rfl, p⟩ := p
      refine A6e (c := c) rfl E e fun v w' E' f d => ?_
      exact h.nx _ _ w' (E'.set (s := .d y) d (fun _ z => nomatch z)) (by rw [f]; exact Same.refl _) p
    · exact p.elim
def A2b (i j a b : Nat) (D : PEnds) (env : PEnv) : Prop := a ≠ b /\ L4 env[a]? fun xs => L4 env[b]? fun ys => ∃ x r y t, xs = x :: r /\ ys = y :: t /\ D.nx ((((env.set a (some (.own r))).set b (some (.own t))).set i (some (.d x))).set j (some (.d y)))
instance rs_popPar {K : Frag} {i j a b : Nat} : RS K (tPar i j (G5 (tBM K "list" X3 (tVar a) (G5 (tC (.int 0)) tNil)) (G5 (tBM K "list" X3 (tVar b) (G5 (tC (.int 0)) tNil)) tNil))) (A2b i j a b) where
  ok := by
    rintro c w env σ Dp D rfl E h ⟨hab, p⟩
    unfold L4 at p
    split at p
    · rename_i xs e
      split at p
      · rename_i ys e2
        obtain ⟨x, r, y, t, rfl, rfl, p⟩ := p
        refine A6e (c := c) rfl E e fun v w' E' f d => ?_
        have e3 : (env.set a (some (.own r)))[b]? = some (some (.own (y :: t))) := by rw [List.getElem?_set_ne hab]; exact e2
        refine A6e (c := c) rfl E' e3 fun v2 w2 E2 f2 d2 => ?_
        refine ⟨v, v2, rfl, ?_⟩
        have d' : Den c.K w2.F v x := by rw [f2]; exact d
        exact h.nx _ _ w2 ((E2.set (s := .d x) d' (fun _ z => nomatch z)).set (s := .d y) d2 (fun _ z => nomatch z)) (by rw [f2, f]; exact Same.refl _) p
      · exact p.elim
    · exact p.elim
def B5m (i j : Nat) (pa : PEnv -> (OT -> PEnv -> Prop) -> Prop) (D : PEnds) (env : PEnv) : Prop := pa env fun t e => ∃ a b xs ys, t = .cons (.nd true a (B9 xs)) (.cons (.nd true b (B9 ys)) .nil) /\ i ≠ j /\ D.nx ((e.set i (some (.own xs))).set j (some (.own ys)))
instance rs_parO {K : Frag} {i j : Nat} {ta : TA} {pa : PEnv -> (OT -> PEnv -> Prop) -> Prop} [ha : RAt K ta pa] : RS K (B6s i j ta) (B5m i j pa) where
  ok := by
    rintro c w env σ Dp D rfl E h p
    refine ha.ok c w env σ _ _ rfl E p fun vs t e1 w1 E1 l1 ht ho hn ⟨a, b, xs, ys, et, hij, q⟩ => ?_
    subst et
    obtain ⟨v, r, rfl, ⟨ev, us, h1, d1⟩, v2, r2, e2, ⟨ev2, us2, h2, d2⟩, e3⟩ := ht
    cases (show r2 = [] from e3)
    subst e2
    cases ev
    cases ev2
    have fpe : (OT.cons (.nd true a (B9 xs)) (.cons (.nd true b (B9 ys)) .nil)).fp = [a, b] := by
      show (a :: (B9 xs).fp) ++ ((b :: (B9 ys).fp) ++ []) = [a, b]
      rw [M6, M6]; rfl
    unfold Own at ho
    unfold NewT at hn
    rw [fpe] at ho hn
    obtain ⟨ha1, hb1⟩ := And.intro (ho.1 a (by simp)) (ho.1 b (by simp))
    have hab : a ≠ b := by have := ho.2; simp at this; exact this
    have na := hn a (by simp)
    have nb := hn b (by simp)
    refine ⟨.ref a, .ref b, rfl, ?_⟩
    have E2 := E1.set (i := i) (v := .ref a) (s := .own xs) ⟨a, us, rfl, h1, ha1.2.1, ha1.2.2.1, ha1.2.2.2, J2 d1⟩ (fun z f => by
      cases (show V.ref a = .ref z from f); exact na)
    have hl := E1.len
    have E3 := E2.set (i := j) (v := .ref b) (s := .own ys) ⟨b, us2, rfl, h2, hb1.2.1, hb1.2.2.1, hb1.2.2.2, J2 d2⟩ (fun z f => by
      cases (show V.ref b = .ref z from f)
      refine ⟨fun k s u q1 q2 f => ?_, nb.2⟩
      rw [List.getElem?_set] at q1 q2
      split at q1
      · rename_i z
        subst z
        rw [if_pos rfl] at q2
        split at q1
        · split at q2
          · cases q1; cases q2
            exact hab (V.ref.inj (show V.ref a = .ref b from f))
          · cases q2
        · cases q1
      · rename_i z
        rw [if_neg z] at q2
        exact nb.1 k s u q1 q2 f)
    exact h.nx _ _ w1 E3 l1.f q
theorem EnvOk.forget {c : Ct} {w : Wd} {env : PEnv} {σ : St} (i : Nat) (E : EnvOk c w env σ) : EnvOk c w (env.set i none) σ := by
  have up : ∀ {j : Nat} {t : SV}, (env.set i none)[j]? = some (some t) -> env[j]? = some (some t) := by
    intro j t q
    rw [List.getElem?_set] at q
    split at q
    · split at q <;> cases q
    · exact q
  exact ⟨E.wok, E.le0, by simpa using E.len, fun j s q => E.at' j s (up q), fun j k s t v u a q1 q2 => E.own j k s t v u a (up q1) (up q2), E.zf, fun a j t u za q => E.zo a j t u za (up q)⟩
theorem EnvOk.setNone {c : Ct} {w : Wd} {env : PEnv} {σ : St} {v : V} (i : Nat) (E : EnvOk c w env σ) : EnvOk c w (env.set i none) (σ.set i (some v)) := by
  have up : ∀ {j : Nat} {t : SV}, (env.set i none)[j]? = some (some t) -> i ≠ j /\ env[j]? = some (some t) := by
    intro j t q
    rw [List.getElem?_set] at q
    split at q
    · split at q <;> cases q
    · exact ⟨‹_›, q⟩
  have dn : ∀ {j : Nat} {u : V}, i ≠ j -> (σ.set i (some v))[j]? = some (some u) -> σ[j]? = some (some u) := fun n q => by rwa [List.getElem?_set_ne n] at q
  exact ⟨E.wok, E.le0, by simpa using E.len, fun j s q => by
      obtain ⟨u, h1, h2⟩ := E.at' j s (up q).2
      exact ⟨u, by rw [List.getElem?_set_ne (up q).1]; exact h1, h2⟩, fun j k s t v u a q1 q2 q3 q4 => E.own j k s t v u a (up q1).2 (up q2).2 (dn (up q1).1 q3) (dn (up q2).1 q4), E.zf, fun a j t u za q q' => E.zo a j t u za (up q).2 (dn (up q).1 q')⟩
def OT.lks : OT -> Bool
  | .nil => true
  | .cons (.nd true _ _) t => t.lks
  | _ => false
theorem A8f : ∀ {t : OT} {n : Nat}, t.lks = true -> n < t.len -> ∃ b l, t.kid n = some (.nd true b l)
  | .nil, n, _, h => absurd h (by simp [OT.len])
  | .cons (.nd true b l) t, 0, _, _ => ⟨b, l, rfl⟩
  | .cons (.nd true b l) t, n + 1, h, hn => A8f (t := t) (n := n) h (by simp [OT.len] at hn; omega)
theorem A2k {a : Addr} : ∀ {t : OT}, t.lks = true -> (OT.put a .nil t).lks = true /\ (OT.put a .nil t).len = t.len
  | .nil, _ => ⟨rfl, rfl⟩
  | .cons (.nd true b l) t, h => by
    obtain ⟨h1, h2⟩ := A2k (a := a) (t := t) h
    exact ⟨h1, by show (OT.put a .nil t).len + 1 = t.len + 1; rw [h2]⟩
def A0c (i j : Nat) (D : PEnds) (env : PEnv) : Prop := asTr env[i]? fun t => i ≠ j /\ j < env.length /\ ∃ a ks, t = .nd true a ks /\ ks.lks = true /\ D.nx ((env.set i none).set j none)
instance (priority := high) rs_forClr {K : Frag} {i j : Nat} : RS K (tFor (iSq K (tVar i)) (Q8 j) (A4y (tBM0 K "list" A5z (tVar j)))) (A0c i j) where
  ok := by
    rintro c w env σ Dp D rfl E h p
    unfold A0c asTr at p
    split at p
    · rename_i t e
      obtain ⟨hij, hjE, a, ks, rfl, hk, q⟩ := p
      obtain ⟨v, g0, ⟨ev, us, h1, ht⟩, ho⟩ := E.at' i _ e
      cases ev
      have hil : i < env.length := (List.getElem?_eq_some_iff.mp e).1
      have hset : env.set i (some (.tr (.nd true a ks))) = env := by
        refine List.ext_getElem? fun k => ?_
        rw [List.getElem?_set]
        split
        · rename_i z; subst z; exact e.symm
        · rfl
      refine ⟨_, g0, .inl ⟨a, rfl, ⟨us, SqL.of h1⟩, ?_⟩⟩
      refine ⟨fun n m σ' H' => m = ks.len - n /\ n <= ks.len /\ ∃ ks' w', w'.H = H' /\ w'.F = w.F /\ σ'[i]? = some (some (.ref a)) /\ ks'.lks = true /\ ks'.len = ks.len /\ ((n = 0 /\ EnvOk c w' (env.set i (some (.tr (.nd true a ks')))) σ') \/ EnvOk c w' ((env.set i (some (.tr (.nd true a ks')))).set j none) σ'), ⟨ks.len, rfl, Nat.zero_le _, ks, w, rfl, rfl, g0, hk, rfl, .inl ⟨rfl, by rw [hset]; exact E⟩⟩, ?_⟩
      rintro n m σ1 _ ⟨rfl, hle, ks', w1, rfl, f1, s1, k1, k2, E1⟩
      have E1 : EnvOk c w1 ((env.set i (some (.tr (.nd true a ks')))).set j none) σ1 := E1.elim (fun z => z.2.forget j) id
      have ei : ((env.set i (some (.tr (.nd true a ks')))).set j none)[i]? = some (some (.tr (.nd true a ks'))) := by
        rw [List.getElem?_set_ne (Ne.symm hij), List.getElem?_set_self hil]
      obtain ⟨v', g', VRT⟩ := E1.at' i _ ei
      rw [s1] at g'; cases g'
      obtain ⟨⟨_, us1, b1, t1⟩, o1, nd1⟩ := id VRT
      have hlen := t1.len
      by_cases hlt : n < ks.len
      · obtain ⟨b, l, hb⟩ := A8f (t := ks') (n := n) k1 (by omega)
        obtain ⟨x, hx, ⟨ex, us2, b2, t2⟩⟩ := t1.kid hb
        cases ex
        refine .inr ⟨⟨us1, .ref b, SqL.of b1, hx⟩, fun σ' H' => n + 1 <= ks.len /\ ∃ ks' w', w'.H = H' /\ w'.F = w.F /\ σ'[i]? = some (some (.ref a)) /\ ks'.lks = true /\ ks'.len = ks.len /\ EnvOk c w' ((env.set i (some (.tr (.nd true a ks')))).set j none) σ', fun σ' H' ⟨z0, ks2, w2, z1, z2, z3, z4, z5, z6⟩ => ⟨ks.len - (n + 1), by omega, rfl, z0, ks2, w2, z1, z2, z3, z4, z5, .inr z6⟩, fun y H' hy => ?_⟩
        obtain ⟨rfl, hy⟩ := hy
        have hyb : y = .ref b := by
          have := hy us1 (SqL.of b1)
          rw [hx] at this; cases this; rfl
        subst hyb
        have hj : (σ1.set j (some (V.ref b)))[j]? = some (some (.ref b)) := List.getElem?_set_self (by have := E1.len; simp at this; omega)
        have hbf : b ∈ (OT.nd true a ks').fp := List.mem_cons_of_mem _ (A4a hb (by simp [OT.fp]))
        have hne : a ≠ b := fun z => (List.nodup_cons.mp (show (a :: ks'.fp).Nodup from nd1)).1 (z ▸ A4a hb (by simp [OT.fp]))
        refine (?_ : A4y (tBM0 c.K "list" A5z (tVar j)) _ (σ1.set j (some (V.ref b))) w1.H)
        have E2 : EnvOk c w1 (((env.set i (some (.tr (.nd true a ks')))).set j none).set j none) (σ1.set j (some (.ref b))) := E1.setNone j
        rw [List.set_set] at E2
        have s2 : (σ1.set j (some (V.ref b)))[i]? = some (some (.ref a)) := by rw [List.getElem?_set_ne (Ne.symm hij)]; exact s1
        · refine ⟨_, hj, .inl ⟨rfl, us2, SqL.of b2⟩, b, us2, rfl, rfl, b2, hlt, OT.put b .nil ks', ⟨w1.M, upd w1.H b (.lst []), w1.F⟩, rfl, f1, s2, (A2k k1).1, (A2k k1).2.trans k2, ?_⟩
          have E3 := E2.writeAt (s' := .tr (OT.put b .nil (.nd true a ks'))) (us := []) ei s2 hbf (fun x hx => A3d hx) ⟨Tre.put b2 VRT.1, fun x hx => ?_, nd1.sublist Z7⟩
          · rw [List.set_comm _ _ (Ne.symm hij), List.set_set] at E3
            have e4 : OT.put b .nil (.nd true a ks') = .nd true a (OT.put b .nil ks') := by show OT.nd true a (if a = b then _ else _) = _; rw [if_neg hne]
            rw [e4] at E3
            exact E3
          · obtain ⟨q1, q2⟩ := o1 x (A3d hx)
            exact ⟨fun z => q1 (M2 z), q2⟩
      · have hn : n = ks.len := by omega
        refine .inl ⟨⟨us1, SqL.of b1, by omega⟩, ?_⟩
        have E2 := E1.forget i
        rw [List.set_comm _ _ (Ne.symm hij), List.set_set] at E2
        exact h.nx _ _ w1 E2 (by rw [f1]; exact Same.refl _) q
    · exact p.elim
def A2e (pe : PX) (pr : PAs) (env : PEnv) (Q : List SV -> PEnv -> Prop) : Prop := pe env fun s e1 => isSt (some (some s)) (pr e1 fun as e2 => Q (.st :: as) e2)
instance (priority := low) ram_stE {K : Frag} {md : List Md} {te : TE} {tr : TA} {pe : PX} {pr : PAs} [he : RE K te pe] [hr : RAm K md tr pr] : RAm K (.st :: md) (G5 te tr) (A2e pe pr) where
  ok := by
    rintro c w env σ Qp Q rfl E p k
    refine he.ok c w env σ _ _ rfl E p fun v s e1 w1 R q1 => ?_
    unfold isSt at q1
    split at q1
    · rename_i e
      cases e
      refine hr.ok c w1 e1 σ _ _ rfl R.ev q1 fun vs xs e2 w2 E2 l2 v2 q2 => ?_
      obtain ⟨q, e', hm⟩ := R.val
      exact k _ _ e2 w2 E2 (R.lw.trans l2) (.st ⟨q, e', l2.m _ hm⟩ v2) q2
    · exact q1.elim
def B1s (K : Frag) (te : TE) : TE := tCB (A27 K) (G5 te tNil)
def A6q (pa : PDt) (env : PEnv) (Q : SV -> PEnv -> Prop) : Prop := pa env fun d e => A5x d /\ Q (.d (.str d.shown)) e
instance re_reprH {K : Frag} {te : TE} {pa : PDt} [ha : RH K te pa] : RE K (B1s K te) (A6q pa) where
  ok := by
    rintro c w env σ Qp Q rfl E p k
    refine ha.ok c w env σ _ _ rfl E p fun v x e1 w1 E1 l1 d1 q1 => ?_
    exact ⟨v, x, rfl, Den.same (fun a o h => (A9g h).1) d1, q1.1, k _ _ e1 w1 ((Res.data E1 (.str _)).pre l1) q1.2⟩
end Pu
namespace L2
open PySem
theorem B10 {X : Cx} {e : Expr} {K : PySem.W.Frag} {te : TE} (h : QE X e (tCB (A27 K) (G5 te tNil))) : QE X e (Pu.B1s K te) := h
end L2
set_option synthInstance.maxHeartbeats 0
set_option synthInstance.maxSize 100000
set_option maxHeartbeats 4000000
namespace Prf
open PySem L2 My Pu
local macro_rules | `(tactic| trivial) => `(tactic| try simp only [pSeq, B5q, B20, B8c, A6r, B8a, pRet, A6p, A70, A7z, A7y, A7x, B7z, pIf, pAsg, B8i, B2d, B3g, pApp, B0d, B2w, B71, B0x, B9y, pYes, pNot, pAnd, pOr, B72, B5w, pOrV, pIfE, pOp, pI_i, B76, pEqD, pNeD, pIsN, B5n, A08, A4d, A1a, A4c, A09, A4b, B2h, B2g, pU_i, pUn, pNil, B0z, pTup, pLst, pCB, A6v, A01, A3n, B24, B2f, B2e, B2q, B2r, A3l, A3k, B2p, B3h, A5m, A2x, A5l, A2u, A2v, A5k, A5n, B18, B3a, B29, B28, A6k, A7m, A7l, A7n, pC, pdat, B9x, B9w, A7d, B5p, A69, A67, A3r, B9r, B31, B4u, B11, A53, Z6, A3c, A3i, B5t, A3q, A3v, A3u, A3w, A4u, Y7, A1w, A1x, A6o, A7w, A6n, A7v, pFor, A7a, X7, G7, SV.lent, A2c, B5l, B9s, pSlL, pRev, A6m, A7u, B2y, B23, B22, A63, List.map_cons, List.map_nil, List.replicate_succ, List.replicate_zero, List.cons_append, List.nil_append, List.getElem?_cons_zero, List.getElem?_cons_succ, List.set_cons_zero, List.set_cons_succ, List.length_cons, List.length_nil, B5v, B5u, B79, B78, Option.bind_some, Option.bind_none, Option.map_some, Option.map_none, Option.join_some, A61, A60, A8i, A33, A32, A9u, A4m, A9s, A4l, B3m, B39, A0g, A4i, A1e, A1d, A9c, B1r, decide_eq_true_eq, Bool.not_eq_true', decide_eq_false_iff_not, ite_not, true_and, and_true, reduceIte, Nat.zero_le, Nat.reduceAdd, Nat.reduceLeDiff, Nat.reduceSub, Int.zero_add, A3p, A3o, List.length_map, A5i, B26, A5o, A9i, A9o, A8h, A9t, B3n, B3x, B30, B3w, B3z, B3q, B3u, B3t, B3o, B3p, B3r, Bool.true_eq_false, Bool.false_eq_true, reduceCtorEq, Bool.not_true, Bool.not_false, decide_true, decide_false, B17, B27, A65, A8a, pLsN, pLsC, B5s, A6u, A76, A75, A77, A2l, A9v, A9p, A4e, eq_self, B7r, Y6, A1v, A4j, A9n, A39, A36, A38, A35, A37, A34, B3v, B3y, B3s, B5i, A68, B5o, ot_d, ot_o, ot_t, A3s, A6l, A7q, A7p, A7r, A7o, pKid, A7b, B4b, B5d, B9v, B9u, B9t, pTr, B2b, B3e, B3d, B3f, B2u, B19, B3c, B3b, A7e, A8b, R9, A52, A4f, B2o, A3y, B2t, A74, A73, A72, B74, pIn, A81, A82, A8z, A80, A89, A9a, A87, A88, A8t, A8u, A8r, A8s, A8p, A8q, A8n, A8o, A8x, A8y, A8v, A8w, A8l, A8m, A8j, A8k, A85, A86, A83, A84, A2w, B9q, B2n, pS, B8f, B2l, B2i, B2k, B2m, B2j, A6z, A6w, A6y, A6x, B75, B7w, B8b, B2x, pRep, A6t, B2s, pIdx, B70, B7u, B2a, pStr, B7t, A7c, B8j, B12, A6s, pSlT, B73, A79, A78, pPth, pVw, A5j, pLf, A8g, pBr, pMuV, B8t, B2c, pA2, B9b, pC2, pMu, B25, B21, A66, B1y, B2v, A00, pDa, B8e, B8k, B7v, B8z, mIx, B32, B3j, pUnT, B6q, A0o, A5w, B2z, pCmT, B7s, B5j, A7t, B0y, A2b, B5m, A0c, A6q, A2f, A2e])
local macro_rules | `(tactic| nofun) => `(tactic| try simp -implicitDefEqProofs only [pSeq, B5q, B20, B8c, A6r, B8a, pRet, A6p, A70, A7z, A7y, A7x, B7z, pIf, pAsg, B8i, B2d, B3g, pApp, B0d, B2w, B71, B0x, B9y, pYes, pNot, pAnd, pOr, B72, B5w, pOrV, pIfE, pOp, pI_i, B76, pEqD, pNeD, pIsN, B5n, A08, A4d, A1a, A4c, A09, A4b, B2h, B2g, pU_i, pUn, pNil, B0z, pTup, pLst, pCB, A6v, A01, A3n, B24, B2f, B2e, B2q, B2r, A3l, A3k, B2p, B3h, A5m, A2x, A5l, A2u, A2v, A5k, A5n, B18, B3a, B29, B28, A6k, A7m, A7l, A7n, pC, pdat, B9x, B9w, A7d, B5p, A69, A67, A3r, B9r, B31, B4u, B11, A53, Z6, A3c, A3i, B5t, A3q, A3v, A3u, A3w, A4u, Y7, A1w, A1x, A6o, A7w, A6n, A7v, pFor, A7a, X7, G7, SV.lent, A2c, B5l, B9s, pSlL, pRev, A6m, A7u, B2y, B23, B22, A63, List.map_cons, List.map_nil, List.replicate_succ, List.replicate_zero, List.cons_append, List.nil_append, List.getElem?_cons_zero, List.getElem?_cons_succ, List.set_cons_zero, List.set_cons_succ, List.length_cons, List.length_nil, B5v, B5u, B79, B78, Option.bind_some, Option.bind_none, Option.map_some, Option.map_none, Option.join_some, A61, A60, A8i, A33, A32, A9u, A4m, A9s, A4l, B3m, B39, A0g, A4i, A1e, A1d, A9c, B1r, decide_eq_true_eq, Bool.not_eq_true', decide_eq_false_iff_not, ite_not, true_and, and_true, reduceIte, Nat.zero_le, Nat.reduceAdd, Nat.reduceLeDiff, Nat.reduceSub, Int.zero_add, A3p, A3o, List.length_map, A5i, B26, A5o, A9i, A9o, A8h, A9t, B3n, B3x, B30, B3w, B3z, B3q, B3u, B3t, B3o, B3p, B3r, Bool.true_eq_false, Bool.false_eq_true, reduceCtorEq, Bool.not_true, Bool.not_false, decide_true, decide_false, B17, B27, A65, A8a, pLsN, pLsC, B5s, A6u, A76, A75, A77, A2l, A9v, A9p, A4e, eq_self, B7r, Y6, A1v, A4j, A9n, A39, A36, A38, A35, A37, A34, B3v, B3y, B3s, B5i, A68, B5o, ot_d, ot_o, ot_t, A3s, A6l, A7q, A7p, A7r, A7o, pKid, A7b, B4b, B5d, B9v, B9u, B9t, pTr, B2b, B3e, B3d, B3f, B2u, B19, B3c, B3b, A7e, A8b, R9, A52, A4f, B2o, A3y, B2t, A74, A73, A72, B74, pIn, A81, A82, A8z, A80, A89, A9a, A87, A88, A8t, A8u, A8r, A8s, A8p, A8q, A8n, A8o, A8x, A8y, A8v, A8w, A8l, A8m, A8j, A8k, A85, A86, A83, A84, A2w, B9q, B2n, pS, B8f, B2l, B2i, B2k, B2m, B2j, A6z, A6w, A6y, A6x, B75, B7w, B8b, B2x, pRep, A6t, B2s, pIdx, B70, B7u, B2a, pStr, B7t, A7c, B8j, B12, A6s, pSlT, B73, A79, A78, pPth, pVw, A5j, pLf, A8g, pBr, pMuV, B8t, B2c, pA2, B9b, pC2, pMu, B25, B21, A66, B1y, B2v, A00, pDa, B8e, B8k, B7v, B8z, mIx, B32, B3j, pUnT, B6q, A0o, A5w, B2z, pCmT, B7s, B5j, A7t, B0y, A2b, B5m, A0c, A6q, A2f, A2e])
set_option genInjectivity false
set_option genSizeOfSpec false
structure Adr where
  a_commonpart : Addr
  d_commonpart : FuncData
  a_plus : Addr
  d_plus : FuncData
  a_minus : Addr
  d_minus : FuncData
  a_product : Addr
  d_product : FuncData
  a_parted : Addr
  d_parted : FuncData
  a_isless : Addr
  d_isless : FuncData
  a_larger : Addr
  d_larger : FuncData
  a_between : Addr
  d_between : FuncData
  a_sharebetween : Addr
  d_sharebetween : FuncData
  a_pieceat : Addr
  d_pieceat : FuncData
  a_priceat : Addr
  d_priceat : FuncData
  a_mergedwholes : Addr
  d_mergedwholes : FuncData
  a_shapesbeside : Addr
  d_shapesbeside : FuncData
  a_piecesof : Addr
  d_piecesof : FuncData
  a_issteeper : Addr
  d_issteeper : FuncData
  a_byfallingrates : Addr
  d_byfallingrates : FuncData
  a_shapesbehind : Addr
  d_shapesbehind : FuncData
  a_shapescaled : Addr
  d_shapescaled : FuncData
  a_Lbegun : Addr
  d_Lbegun : FuncData
  a_Ltake : Addr
  d_Ltake : FuncData
  a_Llow : Addr
  d_Llow : FuncData
  a_Lplus : Addr
  d_Lplus : FuncData
  a_Lminus : Addr
  d_Lminus : FuncData
  a_Ltimes : Addr
  d_Ltimes : FuncData
  a_Lunder : Addr
  d_Lunder : FuncData
  a_Lamount : Addr
  d_Lamount : FuncData
  a_Lshape : Addr
  d_Lshape : FuncData
  a_Lparted : Addr
  d_Lparted : FuncData
  a_Lfall : Addr
  d_Lfall : FuncData
  a_Lprice : Addr
  d_Lprice : FuncData
  a_Lisshape : Addr
  d_Lisshape : FuncData
  a_Lspots : Addr
  d_Lspots : FuncData
  a_Lbesideright : Addr
  d_Lbesideright : FuncData
  a_Lpartedprice : Addr
  d_Lpartedprice : FuncData
  a_Lbehindright : Addr
  d_Lbehindright : FuncData
  a_Lalltold : Addr
  d_Lalltold : FuncData
  a_law : Addr
  d_law : FuncData
structure Txt (K : PySem.W.Frag) (mg : Str -> Option Value) (D : Adr) : Prop where
  F_commonpart : Fun K "common_part" "common_part" s_commonpart D.a_commonpart D.d_commonpart
  m_commonpart : mg "common_part" = some (.ref D.a_commonpart)
  F_plus : Fun K "plus" "plus" s_plus D.a_plus D.d_plus
  m_plus : mg "plus" = some (.ref D.a_plus)
  F_minus : Fun K "minus" "minus" s_minus D.a_minus D.d_minus
  m_minus : mg "minus" = some (.ref D.a_minus)
  F_product : Fun K "product" "product" s_product D.a_product D.d_product
  m_product : mg "product" = some (.ref D.a_product)
  F_parted : Fun K "parted" "parted" s_parted D.a_parted D.d_parted
  m_parted : mg "parted" = some (.ref D.a_parted)
  F_isless : Fun K "is_less" "is_less" s_isless D.a_isless D.d_isless
  m_isless : mg "is_less" = some (.ref D.a_isless)
  F_larger : Fun K "larger" "larger" s_larger D.a_larger D.d_larger
  m_larger : mg "larger" = some (.ref D.a_larger)
  F_between : Fun K "between" "between" s_between D.a_between D.d_between
  m_between : mg "between" = some (.ref D.a_between)
  F_sharebetween : Fun K "share_between" "share_between" s_sharebetween D.a_sharebetween D.d_sharebetween
  m_sharebetween : mg "share_between" = some (.ref D.a_sharebetween)
  F_pieceat : Fun K "piece_at" "piece_at" s_pieceat D.a_pieceat D.d_pieceat
  m_pieceat : mg "piece_at" = some (.ref D.a_pieceat)
  F_priceat : Fun K "price_at" "price_at" s_priceat D.a_priceat D.d_priceat
  m_priceat : mg "price_at" = some (.ref D.a_priceat)
  F_mergedwholes : Fun K "merged_wholes" "merged_wholes" s_mergedwholes D.a_mergedwholes D.d_mergedwholes
  m_mergedwholes : mg "merged_wholes" = some (.ref D.a_mergedwholes)
  F_shapesbeside : Fun K "shapes_beside" "shapes_beside" s_shapesbeside D.a_shapesbeside D.d_shapesbeside
  m_shapesbeside : mg "shapes_beside" = some (.ref D.a_shapesbeside)
  F_piecesof : Fun K "pieces_of" "pieces_of" s_piecesof D.a_piecesof D.d_piecesof
  m_piecesof : mg "pieces_of" = some (.ref D.a_piecesof)
  F_issteeper : Fun K "is_steeper" "is_steeper" s_issteeper D.a_issteeper D.d_issteeper
  m_issteeper : mg "is_steeper" = some (.ref D.a_issteeper)
  F_byfallingrates : Fun K "by_falling_rates" "by_falling_rates" s_byfallingrates D.a_byfallingrates D.d_byfallingrates
  m_byfallingrates : mg "by_falling_rates" = some (.ref D.a_byfallingrates)
  F_shapesbehind : Fun K "shapes_behind" "shapes_behind" s_shapesbehind D.a_shapesbehind D.d_shapesbehind
  m_shapesbehind : mg "shapes_behind" = some (.ref D.a_shapesbehind)
  F_shapescaled : Fun K "shape_scaled" "shape_scaled" s_shapescaled D.a_shapescaled D.d_shapescaled
  m_shapescaled : mg "shape_scaled" = some (.ref D.a_shapescaled)
  F_Lbegun : Fun K "_law_begun" "_law_begun" s_Lbegun D.a_Lbegun D.d_Lbegun
  m_Lbegun : mg "_law_begun" = some (.ref D.a_Lbegun)
  F_Ltake : Fun K "_law_take" "_law_take" s_Ltake D.a_Ltake D.d_Ltake
  m_Ltake : mg "_law_take" = some (.ref D.a_Ltake)
  F_Llow : Fun K "_law_low" "_law_low" s_Llow D.a_Llow D.d_Llow
  m_Llow : mg "_law_low" = some (.ref D.a_Llow)
  F_Lplus : Fun K "_law_plus" "_law_plus" s_Lplus D.a_Lplus D.d_Lplus
  m_Lplus : mg "_law_plus" = some (.ref D.a_Lplus)
  F_Lminus : Fun K "_law_minus" "_law_minus" s_Lminus D.a_Lminus D.d_Lminus
  m_Lminus : mg "_law_minus" = some (.ref D.a_Lminus)
  F_Ltimes : Fun K "_law_times" "_law_times" s_Ltimes D.a_Ltimes D.d_Ltimes
  m_Ltimes : mg "_law_times" = some (.ref D.a_Ltimes)
  F_Lunder : Fun K "_law_under" "_law_under" s_Lunder D.a_Lunder D.d_Lunder
  m_Lunder : mg "_law_under" = some (.ref D.a_Lunder)
  F_Lamount : Fun K "_law_amount" "_law_amount" s_Lamount D.a_Lamount D.d_Lamount
  m_Lamount : mg "_law_amount" = some (.ref D.a_Lamount)
  F_Lshape : Fun K "_law_shape" "_law_shape" s_Lshape D.a_Lshape D.d_Lshape
  m_Lshape : mg "_law_shape" = some (.ref D.a_Lshape)
  F_Lparted : Fun K "_law_parted" "_law_parted" s_Lparted D.a_Lparted D.d_Lparted
  m_Lparted : mg "_law_parted" = some (.ref D.a_Lparted)
  F_Lfall : Fun K "_law_fall" "_law_fall" s_Lfall D.a_Lfall D.d_Lfall
  m_Lfall : mg "_law_fall" = some (.ref D.a_Lfall)
  F_Lprice : Fun K "_law_price" "_law_price" s_Lprice D.a_Lprice D.d_Lprice
  m_Lprice : mg "_law_price" = some (.ref D.a_Lprice)
  F_Lisshape : Fun K "_law_is_shape" "_law_is_shape" s_Lisshape D.a_Lisshape D.d_Lisshape
  m_Lisshape : mg "_law_is_shape" = some (.ref D.a_Lisshape)
  F_Lspots : Fun K "_law_spots" "_law_spots" s_Lspots D.a_Lspots D.d_Lspots
  m_Lspots : mg "_law_spots" = some (.ref D.a_Lspots)
  F_Lbesideright : Fun K "_law_beside_right" "_law_beside_right" s_Lbesideright D.a_Lbesideright D.d_Lbesideright
  m_Lbesideright : mg "_law_beside_right" = some (.ref D.a_Lbesideright)
  F_Lpartedprice : Fun K "_law_parted_price" "_law_parted_price" s_Lpartedprice D.a_Lpartedprice D.d_Lpartedprice
  m_Lpartedprice : mg "_law_parted_price" = some (.ref D.a_Lpartedprice)
  F_Lbehindright : Fun K "_law_behind_right" "_law_behind_right" s_Lbehindright D.a_Lbehindright D.d_Lbehindright
  m_Lbehindright : mg "_law_behind_right" = some (.ref D.a_Lbehindright)
  F_Lalltold : Fun K "_law_all_told" "_law_all_told" s_Lalltold D.a_Lalltold D.d_Lalltold
  m_Lalltold : mg "_law_all_told" = some (.ref D.a_Lalltold)
  F_law : Fun K "law" "law" s_law D.a_law D.d_law
  m_law : mg "law" = some (.ref D.a_law)
  z_abs : mg "abs" = none
  z_bool : mg "bool" = none
  z_int : mg "int" = none
  z_isinstance : mg "isinstance" = none
  z_len : mg "len" = none
  z_list : mg "list" = none
  z_max : mg "max" = none
  z_min : mg "min" = none
  z_range : mg "range" = none
  z_repr : mg "repr" = none
  z_tuple : mg "tuple" = none
  z_zip : mg "zip" = none
abbrev sp_law := B4n
section
variable {K : PySem.W.Frag} {mg : Str -> Option Value} {D : Adr}
theorem sc_commonpart : FnScope ["one", "other"] ["one", "other"] (A3 s_commonpart) := ⟨rfl, rfl, rfl, by decide +kernel, rfl, by decide +kernel, by decide +kernel⟩
theorem K1 (T : Txt K mg D) : Binds K D.d_commonpart ["one", "other"] [] := T.F_commonpart.binds (ps := ["one", "other"]) fun _ _ _ _ _ _ us hl => by obtain ⟨_, _, rfl⟩ := us2 hl; rfl
theorem sc_plus : FnScope ["one", "other", "shared", "mine", "theirs", "top", "rest"] ["one", "other"] (A3 s_plus) := ⟨rfl, rfl, rfl, by decide +kernel, rfl, by decide +kernel, by decide +kernel⟩
theorem O8 (T : Txt K mg D) : Binds K D.d_plus ["one", "other"] [] := T.F_plus.binds (ps := ["one", "other"]) fun _ _ _ _ _ _ us hl => by obtain ⟨_, _, rfl⟩ := us2 hl; rfl
theorem sc_minus : FnScope ["one", "other"] ["one", "other"] (A3 s_minus) := ⟨rfl, rfl, rfl, by decide +kernel, rfl, by decide +kernel, by decide +kernel⟩
theorem Q1 (T : Txt K mg D) : Binds K D.d_minus ["one", "other"] [] := T.F_minus.binds (ps := ["one", "other"]) fun _ _ _ _ _ _ us hl => by obtain ⟨_, _, rfl⟩ := us2 hl; rfl
theorem sc_product : FnScope ["one", "other", "mine", "theirs"] ["one", "other"] (A3 s_product) := ⟨rfl, rfl, rfl, by decide +kernel, rfl, by decide +kernel, by decide +kernel⟩
theorem L3 (T : Txt K mg D) : Binds K D.d_product ["one", "other"] [] := T.F_product.binds (ps := ["one", "other"]) fun _ _ _ _ _ _ us hl => by obtain ⟨_, _, rfl⟩ := us2 hl; rfl
theorem sc_parted : FnScope ["one", "other", "top", "bottom"] ["one", "other"] (A3 s_parted) := ⟨rfl, rfl, rfl, by decide +kernel, rfl, by decide +kernel, by decide +kernel⟩
theorem B1o (T : Txt K mg D) : Binds K D.d_parted ["one", "other"] [] := T.F_parted.binds (ps := ["one", "other"]) fun _ _ _ _ _ _ us hl => by obtain ⟨_, _, rfl⟩ := us2 hl; rfl
theorem sc_isless : FnScope ["one", "other"] ["one", "other"] (A3 s_isless) := ⟨rfl, rfl, rfl, by decide +kernel, rfl, by decide +kernel, by decide +kernel⟩
theorem O9 (T : Txt K mg D) : Binds K D.d_isless ["one", "other"] [] := T.F_isless.binds (ps := ["one", "other"]) fun _ _ _ _ _ _ us hl => by obtain ⟨_, _, rfl⟩ := us2 hl; rfl
theorem sc_larger : FnScope ["one", "other"] ["one", "other"] (A3 s_larger) := ⟨rfl, rfl, rfl, by decide +kernel, rfl, by decide +kernel, by decide +kernel⟩
theorem B1p (T : Txt K mg D) : Binds K D.d_larger ["one", "other"] [] := T.F_larger.binds (ps := ["one", "other"]) fun _ _ _ _ _ _ us hl => by obtain ⟨_, _, rfl⟩ := us2 hl; rfl
theorem sc_between : FnScope ["one", "other", "share"] ["one", "other", "share"] (A3 s_between) := ⟨rfl, rfl, rfl, by decide +kernel, rfl, by decide +kernel, by decide +kernel⟩
theorem B0a (T : Txt K mg D) : Binds K D.d_between ["one", "other", "share"] [] := T.F_between.binds (ps := ["one", "other", "share"]) fun _ _ _ _ _ _ us hl => by obtain ⟨_, _, _, rfl⟩ := us3 hl; rfl
theorem sc_sharebetween : FnScope ["one", "other", "at"] ["one", "other", "at"] (A3 s_sharebetween) := ⟨rfl, rfl, rfl, by decide +kernel, rfl, by decide +kernel, by decide +kernel⟩
theorem W2 (T : Txt K mg D) : Binds K D.d_sharebetween ["one", "other", "at"] [] := T.F_sharebetween.binds (ps := ["one", "other", "at"]) fun _ _ _ _ _ _ us hl => by obtain ⟨_, _, _, rfl⟩ := us3 hl; rfl
theorem sc_pieceat : FnScope ["shape", "whole", "many"] ["shape", "whole"] (A3 s_pieceat) := ⟨rfl, rfl, rfl, by decide +kernel, rfl, by decide +kernel, by decide +kernel⟩
theorem A99 (T : Txt K mg D) : Binds K D.d_pieceat ["shape", "whole"] [] := T.F_pieceat.binds (ps := ["shape", "whole"]) fun _ _ _ _ _ _ us hl => by obtain ⟨_, _, rfl⟩ := us2 hl; rfl
theorem sc_priceat : FnScope ["shape", "whole", "at"] ["shape", "whole"] (A3 s_priceat) := ⟨rfl, rfl, rfl, by decide +kernel, rfl, by decide +kernel, by decide +kernel⟩
theorem A1t (T : Txt K mg D) : Binds K D.d_priceat ["shape", "whole"] [] := T.F_priceat.binds (ps := ["shape", "whole"]) fun _ _ _ _ _ _ us hl => by obtain ⟨_, _, rfl⟩ := us2 hl; rfl
theorem sc_mergedwholes : FnScope ["one", "other", "wholes", "left", "right", "whole"] ["one", "other"] (A3 s_mergedwholes) := ⟨rfl, rfl, rfl, by decide +kernel, rfl, by decide +kernel, by decide +kernel⟩
theorem W5 (T : Txt K mg D) : Binds K D.d_mergedwholes ["one", "other"] [] := T.F_mergedwholes.binds (ps := ["one", "other"]) fun _ _ _ _ _ _ us hl => by obtain ⟨_, _, rfl⟩ := us2 hl; rfl
theorem sc_shapesbeside : FnScope ["one", "other", "first", "wholes"] ["one", "other"] (A3 s_shapesbeside) := ⟨rfl, rfl, rfl, by decide +kernel, rfl, by decide +kernel, by decide +kernel⟩
theorem W3 (T : Txt K mg D) : Binds K D.d_shapesbeside ["one", "other"] [] := T.F_shapesbeside.binds (ps := ["one", "other"]) fun _ _ _ _ _ _ us hl => by obtain ⟨_, _, rfl⟩ := us2 hl; rfl
theorem sc_piecesof : FnScope ["shape"] ["shape"] (A3 s_piecesof) := ⟨rfl, rfl, rfl, by decide +kernel, rfl, by decide +kernel, by decide +kernel⟩
theorem Y3 (T : Txt K mg D) : Binds K D.d_piecesof ["shape"] [] := T.F_piecesof.binds (ps := ["shape"]) fun _ _ _ _ _ _ us hl => by obtain ⟨_, rfl⟩ := us1 hl; rfl
theorem sc_issteeper : FnScope ["one", "other"] ["one", "other"] (A3 s_issteeper) := ⟨rfl, rfl, rfl, by decide +kernel, rfl, by decide +kernel, by decide +kernel⟩
theorem V7 (T : Txt K mg D) : Binds K D.d_issteeper ["one", "other"] [] := T.F_issteeper.binds (ps := ["one", "other"]) fun _ _ _ _ _ _ us hl => by obtain ⟨_, _, rfl⟩ := us2 hl; rfl
theorem sc_byfallingrates : FnScope ["one", "other", "found", "left", "right", "mine", "theirs"] ["one", "other"] (A3 s_byfallingrates) := ⟨rfl, rfl, rfl, by decide +kernel, rfl, by decide +kernel, by decide +kernel⟩
theorem Q9 (T : Txt K mg D) : Binds K D.d_byfallingrates ["one", "other"] [] := T.F_byfallingrates.binds (ps := ["one", "other"]) fun _ _ _ _ _ _ us hl => by obtain ⟨_, _, rfl⟩ := us2 hl; rfl
theorem sc_shapesbehind : FnScope ["one", "other", "wait", "whole", "price", "shape", "more", "less"] ["one", "other", "wait"] (A3 s_shapesbehind) := ⟨rfl, rfl, rfl, by decide +kernel, rfl, by decide +kernel, by decide +kernel⟩
theorem W4 (T : Txt K mg D) : Binds K D.d_shapesbehind ["one", "other", "wait"] [] := T.F_shapesbehind.binds (ps := ["one", "other", "wait"]) fun _ _ _ _ _ _ us hl => by obtain ⟨_, _, _, rfl⟩ := us3 hl; rfl
theorem sc_shapescaled : FnScope ["shape", "span", "cost"] ["shape", "span", "cost"] (A3 s_shapescaled) := ⟨rfl, rfl, rfl, by decide +kernel, rfl, by decide +kernel, by decide +kernel⟩
theorem A0j (T : Txt K mg D) : Binds K D.d_shapescaled ["shape", "span", "cost"] [] := T.F_shapescaled.binds (ps := ["shape", "span", "cost"]) fun _ _ _ _ _ _ us hl => by obtain ⟨_, _, _, rfl⟩ := us3 hl; rfl
theorem sc_Lbegun : FnScope ["_law_script", "_law_k", "_law_cell"] ["_law_script", "_law_k"] (A3 s_Lbegun) := ⟨rfl, rfl, rfl, by decide +kernel, rfl, by decide +kernel, by decide +kernel⟩
theorem A4t (T : Txt K mg D) : Binds K D.d_Lbegun ["_law_script", "_law_k"] [] := T.F_Lbegun.binds (ps := ["_law_script", "_law_k"]) fun _ _ _ _ _ _ us hl => by obtain ⟨_, _, rfl⟩ := us2 hl; rfl
theorem sc_Ltake : FnScope ["_law_state", "_law_many", "_law_digit", "_law_made", "_law_turn"] ["_law_state", "_law_many"] (A3 s_Ltake) := ⟨rfl, rfl, rfl, by decide +kernel, rfl, by decide +kernel, by decide +kernel⟩
theorem K5 (T : Txt K mg D) : Binds K D.d_Ltake ["_law_state", "_law_many"] [] := T.F_Ltake.binds (ps := ["_law_state", "_law_many"]) fun _ _ _ _ _ _ us hl => by obtain ⟨_, _, rfl⟩ := us2 hl; rfl
theorem sc_Llow : FnScope ["_law_top", "_law_bottom", "_law_one", "_law_other"] ["_law_top", "_law_bottom"] (A3 s_Llow) := ⟨rfl, rfl, rfl, by decide +kernel, rfl, by decide +kernel, by decide +kernel⟩
theorem A1u (T : Txt K mg D) : Binds K D.d_Llow ["_law_top", "_law_bottom"] [] := T.F_Llow.binds (ps := ["_law_top", "_law_bottom"]) fun _ _ _ _ _ _ us hl => by obtain ⟨_, _, rfl⟩ := us2 hl; rfl
theorem sc_Lplus : FnScope ["_law_one", "_law_other"] ["_law_one", "_law_other"] (A3 s_Lplus) := ⟨rfl, rfl, rfl, by decide +kernel, rfl, by decide +kernel, by decide +kernel⟩
theorem L9 (T : Txt K mg D) : Binds K D.d_Lplus ["_law_one", "_law_other"] [] := T.F_Lplus.binds (ps := ["_law_one", "_law_other"]) fun _ _ _ _ _ _ us hl => by obtain ⟨_, _, rfl⟩ := us2 hl; rfl
theorem sc_Lminus : FnScope ["_law_one", "_law_other"] ["_law_one", "_law_other"] (A3 s_Lminus) := ⟨rfl, rfl, rfl, by decide +kernel, rfl, by decide +kernel, by decide +kernel⟩
theorem K2 (T : Txt K mg D) : Binds K D.d_Lminus ["_law_one", "_law_other"] [] := T.F_Lminus.binds (ps := ["_law_one", "_law_other"]) fun _ _ _ _ _ _ us hl => by obtain ⟨_, _, rfl⟩ := us2 hl; rfl
theorem sc_Ltimes : FnScope ["_law_one", "_law_other"] ["_law_one", "_law_other"] (A3 s_Ltimes) := ⟨rfl, rfl, rfl, by decide +kernel, rfl, by decide +kernel, by decide +kernel⟩
theorem N4 (T : Txt K mg D) : Binds K D.d_Ltimes ["_law_one", "_law_other"] [] := T.F_Ltimes.binds (ps := ["_law_one", "_law_other"]) fun _ _ _ _ _ _ us hl => by obtain ⟨_, _, rfl⟩ := us2 hl; rfl
theorem sc_Lunder : FnScope ["_law_one", "_law_other"] ["_law_one", "_law_other"] (A3 s_Lunder) := ⟨rfl, rfl, rfl, by decide +kernel, rfl, by decide +kernel, by decide +kernel⟩
theorem F6 (T : Txt K mg D) : Binds K D.d_Lunder ["_law_one", "_law_other"] [] := T.F_Lunder.binds (ps := ["_law_one", "_law_other"]) fun _ _ _ _ _ _ us hl => by obtain ⟨_, _, rfl⟩ := us2 hl; rfl
theorem sc_Lamount : FnScope ["_law_state", "_law_plain", "_law_least", "_law_way", "_law_bottom"] ["_law_state", "_law_plain", "_law_least"] (A3 s_Lamount) := ⟨rfl, rfl, rfl, by decide +kernel, rfl, by decide +kernel, by decide +kernel⟩
theorem J7 (T : Txt K mg D) : Binds K D.d_Lamount ["_law_state", "_law_plain", "_law_least"] [] := T.F_Lamount.binds (ps := ["_law_state", "_law_plain", "_law_least"]) fun _ _ _ _ _ _ us hl => by obtain ⟨_, _, _, rfl⟩ := us3 hl; rfl
theorem sc_Lshape : FnScope ["_law_state", "_law_most", "_law_plain", "_law_gaps", "_law_whole", "_law_price_here", "_law_rate", "_law_falls", "_law_gap", "_law_bends", "_law_k"] ["_law_state", "_law_most", "_law_plain"] (A3 s_Lshape) := ⟨rfl, rfl, rfl, by decide +kernel, rfl, by decide +kernel, by decide +kernel⟩
theorem A4s (T : Txt K mg D) : Binds K D.d_Lshape ["_law_state", "_law_most", "_law_plain"] [] := T.F_Lshape.binds (ps := ["_law_state", "_law_most", "_law_plain"]) fun _ _ _ _ _ _ us hl => by obtain ⟨_, _, _, rfl⟩ := us3 hl; rfl
theorem sc_Lparted : FnScope ["_law_one", "_law_other"] ["_law_one", "_law_other"] (A3 s_Lparted) := ⟨rfl, rfl, rfl, by decide +kernel, rfl, by decide +kernel, by decide +kernel⟩
theorem B0b (T : Txt K mg D) : Binds K D.d_Lparted ["_law_one", "_law_other"] [] := T.F_Lparted.binds (ps := ["_law_one", "_law_other"]) fun _ _ _ _ _ _ us hl => by obtain ⟨_, _, rfl⟩ := us2 hl; rfl
theorem sc_Lfall : FnScope ["_law_one", "_law_other"] ["_law_one", "_law_other"] (A3 s_Lfall) := ⟨rfl, rfl, rfl, by decide +kernel, rfl, by decide +kernel, by decide +kernel⟩
theorem B0c (T : Txt K mg D) : Binds K D.d_Lfall ["_law_one", "_law_other"] [] := T.F_Lfall.binds (ps := ["_law_one", "_law_other"]) fun _ _ _ _ _ _ us hl => by obtain ⟨_, _, rfl⟩ := us2 hl; rfl
theorem sc_Lprice : FnScope ["_law_shape_here", "_law_whole", "_law_told", "_law_k", "_law_down"] ["_law_shape_here", "_law_whole"] (A3 s_Lprice) := ⟨rfl, rfl, rfl, by decide +kernel, rfl, by decide +kernel, by decide +kernel⟩
theorem N5 (T : Txt K mg D) : Binds K D.d_Lprice ["_law_shape_here", "_law_whole"] [] := T.F_Lprice.binds (ps := ["_law_shape_here", "_law_whole"]) fun _ _ _ _ _ _ us hl => by obtain ⟨_, _, rfl⟩ := us2 hl; rfl
theorem sc_Lisshape : FnScope ["_law_thing", "_law_last", "_law_k", "_law_fall_here"] ["_law_thing"] (A3 s_Lisshape) := ⟨rfl, rfl, rfl, by decide +kernel, rfl, by decide +kernel, by decide +kernel⟩
theorem Y4 (T : Txt K mg D) : Binds K D.d_Lisshape ["_law_thing"] [] := T.F_Lisshape.binds (ps := ["_law_thing"]) fun _ _ _ _ _ _ us hl => by obtain ⟨_, rfl⟩ := us1 hl; rfl
theorem sc_Lspots : FnScope ["_law_marks", "_law_spots_here", "_law_k"] ["_law_marks"] (A3 s_Lspots) := ⟨rfl, rfl, rfl, by decide +kernel, rfl, by decide +kernel, by decide +kernel⟩
theorem A4r (T : Txt K mg D) : Binds K D.d_Lspots ["_law_marks"] [] := T.F_Lspots.binds (ps := ["_law_marks"]) fun _ _ _ _ _ _ us hl => by obtain ⟨_, rfl⟩ := us1 hl; rfl
theorem sc_Lbesideright : FnScope ["_law_one", "_law_other", "_law_told", "_law_begin", "_law_whole"] ["_law_one", "_law_other", "_law_told"] (A3 s_Lbesideright) := ⟨rfl, rfl, rfl, by decide +kernel, rfl, by decide +kernel, by decide +kernel⟩
theorem W7 (T : Txt K mg D) : Binds K D.d_Lbesideright ["_law_one", "_law_other", "_law_told"] [] := T.F_Lbesideright.binds (ps := ["_law_one", "_law_other", "_law_told"]) fun _ _ _ _ _ _ us hl => by obtain ⟨_, _, _, rfl⟩ := us3 hl; rfl
theorem sc_Lpartedprice : FnScope ["_law_one", "_law_other", "_law_room", "_law_best", "_law_mine", "_law_yours", "_law_price_here"] ["_law_one", "_law_other", "_law_room"] (A3 s_Lpartedprice) := ⟨rfl, rfl, rfl, by decide +kernel, rfl, by decide +kernel, by decide +kernel⟩
theorem W6 (T : Txt K mg D) : Binds K D.d_Lpartedprice ["_law_one", "_law_other", "_law_room"] [] := T.F_Lpartedprice.binds (ps := ["_law_one", "_law_other", "_law_room"]) fun _ _ _ _ _ _ us hl => by obtain ⟨_, _, _, rfl⟩ := us3 hl; rfl
theorem sc_Lbehindright : FnScope ["_law_one", "_law_other", "_law_wait", "_law_told", "_law_begin", "_law_whole"] ["_law_one", "_law_other", "_law_wait", "_law_told"] (A3 s_Lbehindright) := ⟨rfl, rfl, rfl, by decide +kernel, rfl, by decide +kernel, by decide +kernel⟩
theorem W8 (T : Txt K mg D) : Binds K D.d_Lbehindright ["_law_one", "_law_other", "_law_wait", "_law_told"] [] := T.F_Lbehindright.binds (ps := ["_law_one", "_law_other", "_law_wait", "_law_told"]) fun _ _ _ _ _ _ us hl => by obtain ⟨_, _, _, _, rfl⟩ := us4 hl; rfl
theorem sc_Lalltold : FnScope ["_law_one", "_law_other", "_law_wait", "_law_span", "_law_cost"] ["_law_one", "_law_other", "_law_wait", "_law_span", "_law_cost"] (A3 s_Lalltold) := ⟨rfl, rfl, rfl, by decide +kernel, rfl, by decide +kernel, by decide +kernel⟩
theorem Y5 (T : Txt K mg D) : Binds K D.d_Lalltold ["_law_one", "_law_other", "_law_wait", "_law_span", "_law_cost"] [] := T.F_Lalltold.binds (ps := ["_law_one", "_law_other", "_law_wait", "_law_span", "_law_cost"]) fun _ _ _ _ _ _ us hl => by obtain ⟨_, _, _, _, _, rfl⟩ := us5 hl; rfl
theorem sc_law : FnScope ["_law_script", "_law_k", "_law_state", "_law_wide", "_law_plain", "_law_one", "_law_other", "_law_wait", "_law_span", "_law_cost", "_law_kept", "_law_told", "_law_held", "_law_shape_here"] ["_law_script"] (A3 s_law) := ⟨rfl, rfl, rfl, by decide +kernel, rfl, by decide +kernel, by decide +kernel⟩
end
def On (B k : Nat) (q : Rat) : Prop := ∃ z : Int, q = Rat.divInt z (B : Int) /\ z.natAbs <= k * B
theorem On.mono {B k l : Nat} {q : Rat} (h : On B k q) (g : k <= l) : On B l q := let ⟨z, e, b⟩ := h; ⟨z, e, Nat.le_trans b (Nat.mul_le_mul_right _ g)⟩
theorem On.add {B k l : Nat} {p q : Rat} (hB : 0 < B) (h : On B k p) (g : On B l q) : On B (k + l) (p + q) := by
  obtain ⟨z, rfl, b⟩ := h
  obtain ⟨y, rfl, c⟩ := g
  have hn : (B : Int) ≠ 0 := by omega
  refine ⟨z + y, ?_, Nat.le_trans (Int.natAbs_add_le _ _) (by rw [Nat.add_mul]; omega)⟩
  rw [Rat.divInt_add_divInt _ _ hn hn, <- Int.add_mul, Rat.divInt_mul_right hn]
theorem On.neg {B k : Nat} {p : Rat} (h : On B k p) : On B k (-p) := by
  obtain ⟨z, rfl, b⟩ := h
  exact ⟨-z, by rw [Rat.neg_divInt], by rw [Int.natAbs_neg]; exact b⟩
theorem On.sub {B k l : Nat} {p q : Rat} (hB : 0 < B) (h : On B k p) (g : On B l q) : On B (k + l) (p - q) := by
  rw [Rat.sub_eq_add_neg]; exact h.add hB g.neg
theorem On.of {B a b : Nat} {q : Rat} (hB : 0 < B) (h : SmR a b q) (d : q.den ∣ B) : On B (2 ^ a) q := by
  obtain ⟨c, rfl⟩ := d
  have hd := q.den_pos
  by_cases hc : c = 0
  · subst hc; rw [Nat.mul_zero] at hB; exact absurd hB (Nat.lt_irrefl _)
  · refine ⟨q.num * c, ?_, ?_⟩
    · rw [Int.natCast_mul, Rat.divInt_mul_right (by omega), Rat.num_divInt_den]
    · rw [Int.natAbs_mul, Int.natAbs_natCast]
      have h1 : q.num.natAbs <= 2 ^ a := Nat.le_of_lt h.1
      exact Nat.mul_le_mul h1 (Nat.le_mul_of_pos_left _ hd)
theorem On.zero {B : Nat} : On B 0 0 := ⟨0, by rw [Rat.zero_divInt], by simp⟩
theorem On.up {B C k : Nat} {q : Rat} (hC : 0 < C) (h : On B k q) : On (B * C) k q := by
  obtain ⟨z, rfl, b⟩ := h
  refine ⟨z * C, by rw [Int.natCast_mul, Rat.divInt_mul_right (by omega)], ?_⟩
  rw [Int.natAbs_mul, Int.natAbs_natCast, <- Nat.mul_assoc]
  exact Nat.mul_le_mul_right _ b
theorem On.mul {B C k l : Nat} {p q : Rat} (hB : 0 < B) (hC : 0 < C) (h : On B k p) (g : On C l q) : On (B * C) (k * l) (p * q) := by
  obtain ⟨z, rfl, b⟩ := h
  obtain ⟨y, rfl, c⟩ := g
  refine ⟨z * y, by rw [Rat.divInt_mul_divInt, Int.natCast_mul], ?_⟩
  rw [Int.natAbs_mul]
  refine Nat.le_trans (Nat.mul_le_mul b c) (Nat.le_of_eq ?_)
  rw [Nat.mul_assoc, Nat.mul_left_comm B l C, <- Nat.mul_assoc]
theorem On.sm {B k n d : Nat} {q : Rat} (hB : 0 < B) (h : On B k q) (g : k * B < 2 ^ n) (g2 : B < 2 ^ d) : SmR n d q := by
  obtain ⟨z, rfl, b⟩ := h
  exact SmR.low (Nat.lt_of_le_of_lt b g) (by unfold Sm; rw [Int.natAbs_natCast]; exact g2) (by omega)
def LL : Nat := 591133442051411133755680800
theorem F3 : 0 < LL := by decide
theorem B80 {d : Nat} (h0 : 0 < d) (h : d < 64) : d ∣ LL := by
  have k : ∀ d : Fin 64, d.val = 0 \/ LL % d.val = 0 := by decide +kernel
  rcases k ⟨d, h⟩ with z | z
  · exact absurd z (Nat.ne_of_gt h0)
  · exact Nat.dvd_of_mod_eq_zero z
theorem A03 {q : Rat} (h : SmR 41 6 q) : On LL (2 ^ 41) q := by
  refine On.of F3 h (B80 q.den_pos ?_)
  have := h.2; unfold Sm at this; rw [Int.natAbs_natCast] at this; exact this
theorem On.p2 {B a b : Nat} {q : Rat} (h : On B (2 ^ a) q) (g : a <= b) : On B (2 ^ b) q := h.mono (Nat.pow_le_pow_right (by decide) g)
theorem On.add2 {B a b : Nat} {p q : Rat} (hB : 0 < B) (h : On B (2 ^ a) p) (g : On B (2 ^ a) q) (hb : a + 1 <= b) : On B (2 ^ b) (p + q) := by
  refine (h.add hB g).mono (Nat.le_trans ?_ (Nat.pow_le_pow_right (by decide) hb))
  rw [Nat.pow_succ]; omega
theorem On.sub2 {B a b : Nat} {p q : Rat} (hB : 0 < B) (h : On B (2 ^ a) p) (g : On B (2 ^ a) q) (hb : a + 1 <= b) : On B (2 ^ b) (p - q) := by
  refine (h.sub hB g).mono (Nat.le_trans ?_ (Nat.pow_le_pow_right (by decide) hb))
  rw [Nat.pow_succ]; omega
theorem B9n {α : Type} {f : α -> PyData} {xs : List α} {n : Nat} (h : n <= xs.length) : cutD (xs.map f) (some (n : Int)) none = (xs.drop n).map f := by
  unfold cutD
  rw [HT.sIx_none, show HT.sIx (xs.map f).length 0 (some (n : Int)) = min n xs.length by rw [List.length_map]; exact HT.sIx_nat _ _ n, List.map_drop, Nat.min_eq_left h, List.length_map]
  rw [List.take_of_length_le (by simp)]
def sl (p : Rat × Rat) : Rat := p.2 / p.1
def Dw : List (Rat × Rat) -> Rat -> Rat
  | [], _ => 0
  | p :: r, x => if x < p.1 then sl p * x else p.2 + Dw r (x - p.1)
def Srt : List (Rat × Rat) -> Prop
  | [] => True
  | p :: r => 0 < p.1 /\ 0 < p.2 /\ (∀ q ∈ r, sl q < sl p) /\ Srt r
theorem K6 {p : Rat × Rat} (h : 0 < p.1) : sl p * p.1 = p.2 := Rat.div_mul_cancel (by grind)
theorem Q2 {p : Rat × Rat} (h : 0 < p.1) (g : 0 < p.2) : 0 < sl p := by
  have e := K6 h
  by_cases z : sl p <= 0
  · have := Rat.mul_le_mul_of_nonneg_right z (Rat.le_of_lt h); grind
  · grind
theorem R5 {a b c : Rat} (h : a <= b) (g : 0 <= c) : a * c <= b * c := Rat.mul_le_mul_of_nonneg_right h g
theorem Srt.pos : ∀ {ps : List (Rat × Rat)}, Srt ps -> ∀ q ∈ ps, 0 < q.1 /\ 0 < q.2
  | p :: r, h, q, hq => by
    rcases List.mem_cons.mp hq with rfl | z
    · exact ⟨h.1, h.2.1⟩
    · exact Srt.pos h.2.2.2 q z
theorem L8 : ∀ {ps : List (Rat × Rat)}, Srt ps -> Dw ps 0 = 0
  | [], _ => rfl
  | p :: r, h => by
    unfold Dw
    rw [if_pos h.1, Rat.mul_zero]
theorem L1 {p : Rat × Rat} {r : List (Rat × Rat)} {x : Rat} (h : x < p.1) : Dw (p :: r) x = sl p * x := by unfold Dw; rw [if_pos h]
theorem G6 {p : Rat × Rat} {r : List (Rat × Rat)} {x : Rat} (h : ¬ x < p.1) : Dw (p :: r) x = p.2 + Dw r (x - p.1) := by
  show (if x < p.1 then sl p * x else p.2 + Dw r (x - p.1)) = _
  rw [if_neg h]
theorem B1f {p : Rat × Rat} {r : List (Rat × Rat)} {x : Rat} (s : Srt (p :: r)) (h : x <= p.1) : Dw (p :: r) x = sl p * x := by
  by_cases z : x < p.1
  · exact L1 z
  · have e : x = p.1 := by grind
    rw [G6 z, e, Rat.sub_self, L8 s.2.2.2, K6 s.1, Rat.add_zero]
theorem A4k {p : Rat × Rat} {r : List (Rat × Rat)} {x : Rat} (h : 0 <= x) : Dw (p :: r) (p.1 + x) = p.2 + Dw r x := by
  rw [G6 (by grind), show p.1 + x - p.1 = x by grind]
theorem A9q {s : Rat} (hs : 0 <= s) : ∀ {ps : List (Rat × Rat)}, Srt ps -> (∀ q ∈ ps, sl q <= s) -> ∀ {y t : Rat}, 0 <= y -> 0 <= t -> Dw ps (y + t) <= Dw ps y + s * t
  | [], _, _, y, t, _, ht => by
    have := Rat.mul_nonneg hs ht
    unfold Dw; grind
  | p :: r, h, b, y, t, hy, ht => by
    have b1 := b p List.mem_cons_self
    have b2 : ∀ q ∈ r, sl q <= s := fun q hq => b q (List.mem_cons_of_mem _ hq)
    have e := K6 h.1
    by_cases h1 : y + t < p.1
    · rw [L1 h1, L1 (by grind)]
      have := R5 b1 ht
      grind
    · rw [G6 h1]
      by_cases h2 : y < p.1
      · rw [L1 h2]
        have ih := A9q hs (ps := r) h.2.2.2 b2 (y := 0) (t := y + t - p.1) (by grind) (by grind)
        rw [L8 h.2.2.2, Rat.zero_add] at ih
        have := R5 b1 (show 0 <= p.1 - y by grind)
        grind
      · rw [G6 h2]
        have ih := A9q hs (ps := r) h.2.2.2 b2 (y := y - p.1) (t := t) (by grind) ht
        rw [show y - p.1 + t = y + t - p.1 by grind] at ih
        grind
theorem B35 {s : Rat} (hs : 0 <= s) {ps : List (Rat × Rat)} (h : Srt ps) (b : ∀ q ∈ ps, sl q <= s) {x : Rat} (hx : 0 <= x) : Dw ps x <= s * x := by
  have := A9q hs h b (y := 0) (t := x) (by grind) hx
  rw [L8 h] at this
  grind
inductive Mg : List (Rat × Rat) -> List (Rat × Rat) -> List (Rat × Rat) -> Prop
  | nl (qs) : Mg [] qs qs
  | nr (ps) : Mg ps [] ps
  | l {p q r t m} : sl q < sl p -> Mg r (q :: t) m -> Mg (p :: r) (q :: t) (p :: m)
  | r {p q r t m} : sl p < sl q -> Mg (p :: r) t m -> Mg (p :: r) (q :: t) (q :: m)
  | b {p q r t m} : sl p = sl q -> Mg r t m -> Mg (p :: r) (q :: t) ((p.1 + q.1, p.2 + q.2) :: m)
theorem A13 {p q : Rat × Rat} (h1 : 0 < p.1) (h2 : 0 < q.1) (e : sl p = sl q) : sl (p.1 + q.1, p.2 + q.2) = sl p := by
  have a := K6 h1
  have b := K6 h2
  show (p.2 + q.2) / (p.1 + q.1) = sl p
  have h : p.2 + q.2 = sl p * (p.1 + q.1) := by rw [<- e] at b; grind
  rw [h]
  exact Rat.mul_div_cancel (by grind)
theorem Mg.bd {ps qs ms : List (Rat × Rat)} (h : Mg ps qs ms) : Srt ps -> Srt qs -> ∀ s, (∀ q ∈ ps, sl q < s) -> (∀ q ∈ qs, sl q < s) -> ∀ q ∈ ms, sl q < s := by
  induction h with
  | nl qs => intro _ _ s _ h; exact h
  | nr ps => intro _ _ s h _; exact h
  | l e _ ih =>
    intro h1 h2 s b1 b2 q hq
    rcases List.mem_cons.mp hq with rfl | z
    · exact b1 _ List.mem_cons_self
    · exact ih h1.2.2.2 h2 s (fun q hq => b1 q (List.mem_cons_of_mem _ hq)) b2 q z
  | r e _ ih =>
    intro h1 h2 s b1 b2 q hq
    rcases List.mem_cons.mp hq with rfl | z
    · exact b2 _ List.mem_cons_self
    · exact ih h1 h2.2.2.2 s b1 (fun q hq => b2 q (List.mem_cons_of_mem _ hq)) q z
  | b e _ ih =>
    intro h1 h2 s b1 b2 q hq
    rcases List.mem_cons.mp hq with rfl | z
    · rw [A13 h1.1 h2.1 e]; exact b1 _ List.mem_cons_self
    · exact ih h1.2.2.2 h2.2.2.2 s (fun q hq => b1 q (List.mem_cons_of_mem _ hq)) (fun q hq => b2 q (List.mem_cons_of_mem _ hq)) q z
theorem Mg.srt {ps qs ms : List (Rat × Rat)} (h : Mg ps qs ms) : Srt ps -> Srt qs -> Srt ms := by
  induction h with
  | nl qs => intro _ h; exact h
  | nr ps => intro h _; exact h
  | l e g ih =>
    intro h1 h2
    refine ⟨h1.1, h1.2.1, g.bd h1.2.2.2 h2 _ h1.2.2.1 fun q hq => ?_, ih h1.2.2.2 h2⟩
    rcases List.mem_cons.mp hq with rfl | z
    · exact e
    · have := h2.2.2.1 q z; grind
  | r e g ih =>
    intro h1 h2
    refine ⟨h2.1, h2.2.1, g.bd h1 h2.2.2.2 _ (fun q hq => ?_) h2.2.2.1, ih h1 h2.2.2.2⟩
    rcases List.mem_cons.mp hq with rfl | z
    · exact e
    · have := h1.2.2.1 q z; grind
  | b e g ih =>
    intro h1 h2
    refine ⟨by have := h1.1; have := h2.1; grind, by have := h1.2.1; have := h2.2.1; grind, ?_, ih h1.2.2.2 h2.2.2.2⟩
    rw [A13 h1.1 h2.1 e]
    exact g.bd h1.2.2.2 h2.2.2.2 _ h1.2.2.1 (by rw [e]; exact h2.2.2.1)
theorem A2o : ∀ {ps : List (Rat × Rat)}, Srt ps -> ∀ {y t : Rat}, 0 <= y -> 0 <= t -> Dw ps y <= Dw ps (y + t)
  | [], _, y, t, _, ht => by unfold Dw; exact Rat.le_refl
  | p :: r, h, y, t, hy, ht => by
    have e := K6 h.1
    have b1 := Q2 h.1 h.2.1
    by_cases h1 : y + t < p.1
    · rw [L1 h1, L1 (by grind)]
      have := Rat.mul_nonneg (Rat.le_of_lt b1) ht
      grind
    · rw [G6 h1]
      by_cases h2 : y < p.1
      · rw [L1 h2]
        have ih := A2o (ps := r) h.2.2.2 (y := 0) (t := y + t - p.1) (by grind) (by grind)
        rw [L8 h.2.2.2, Rat.zero_add] at ih
        have := Rat.mul_nonneg (Rat.le_of_lt b1) (show 0 <= p.1 - y by grind)
        grind
      · rw [G6 h2]
        have ih := A2o (ps := r) h.2.2.2 (y := y - p.1) (t := t) (by grind) ht
        rw [show y - p.1 + t = y + t - p.1 by grind] at ih
        grind
def offs : List (Rat × Rat) -> List Rat
  | [] => [0]
  | p :: r => 0 :: (offs r).map fun x => p.1 + x
theorem L0 (ps : List (Rat × Rat)) : (0 : Rat) ∈ offs ps := by cases ps <;> simp [offs]
theorem P7 {p : Rat × Rat} {r : List (Rat × Rat)} {x : Rat} (h : x ∈ offs r) : p.1 + x ∈ offs (p :: r) := List.mem_cons_of_mem _ (List.mem_map.mpr ⟨x, h, rfl⟩)
def Cv (ps qs ms : List (Rat × Rat)) : Prop := (∀ x y : Rat, 0 <= x -> 0 <= y -> Dw ps x + Dw qs y <= Dw ms (x + y)) /\ ∀ x : Rat, 0 <= x -> ∃ a b : Rat, 0 <= a /\ 0 <= b /\ a + b = x /\ Dw ps a + Dw qs b = Dw ms x /\ (a ∈ offs ps \/ b ∈ offs qs)
theorem Cv.comm {ps qs ms : List (Rat × Rat)} (h : Cv ps qs ms) : Cv qs ps ms := by
  refine ⟨fun x y hx hy => ?_, fun x hx => ?_⟩
  · have := h.1 y x hy hx
    rw [Rat.add_comm y x] at this; grind
  · obtain ⟨a, b, ha, hb, e, f, o⟩ := h.2 x hx
    exact ⟨b, a, hb, ha, by grind, by grind, o.symm⟩
theorem Cv.step {p : Rat × Rat} {r qs m : List (Rat × Rat)} (h1 : Srt (p :: r)) (h2 : Srt qs) (b : ∀ q ∈ qs, sl q <= sl p) (ih : Cv r qs m) : Cv (p :: r) qs (p :: m) := by
  have e := K6 h1.1
  have s0 := Rat.le_of_lt (Q2 h1.1 h1.2.1)
  refine ⟨fun x y hx hy => ?_, fun x hx => ?_⟩
  · by_cases g1 : x < p.1
    · rw [L1 g1]
      by_cases g2 : x + y < p.1
      · rw [L1 g2]
        have := B35 s0 h2 b hy
        grind
      · rw [G6 g2]
        have u := A9q s0 h2 b (y := y - (p.1 - x)) (t := p.1 - x) (by grind) (by grind)
        rw [show y - (p.1 - x) + (p.1 - x) = y by grind] at u
        have i := ih.1 0 (y - (p.1 - x)) (by grind) (by grind)
        rw [L8 h1.2.2.2, show 0 + (y - (p.1 - x)) = x + y - p.1 by grind] at i
        grind
    · rw [G6 g1, G6 (by grind)]
      have i := ih.1 (x - p.1) y (by grind) hy
      rw [show x - p.1 + y = x + y - p.1 by grind] at i
      grind
  · by_cases g1 : x < p.1
    · exact ⟨x, 0, hx, by grind, by grind, by rw [L1 g1, L1 g1, L8 h2]; grind, .inr (L0 _)⟩
    · obtain ⟨a, b, ha, hb, e1, f, o⟩ := ih.2 (x - p.1) (by grind)
      refine ⟨p.1 + a, b, by have := h1.1; grind, hb, by grind, ?_, o.imp P7 id⟩
      rw [A4k ha, G6 g1, <- f]; grind
theorem B6h {p q : Rat × Rat} {m : List (Rat × Rat)} (h1 : 0 < p.1) (h2 : 0 < q.1) (e : sl p = sl q) (x : Rat) : Dw ((p.1 + q.1, p.2 + q.2) :: m) x = Dw (p :: q :: m) x := by
  have a := K6 h1
  have b := K6 h2
  have c := A13 h1 h2 e
  by_cases g : x < p.1
  · rw [L1 (show x < (p.1 + q.1, p.2 + q.2).1 by show x < p.1 + q.1; grind), L1 g, c]
  · rw [G6 g]
    by_cases g2 : x - p.1 < q.1
    · rw [L1 (show x < (p.1 + q.1, p.2 + q.2).1 by show x < p.1 + q.1; grind), L1 g2, c]
      rw [<- e]; grind
    · rw [G6 g2, G6 (show ¬ x < (p.1 + q.1, p.2 + q.2).1 by show ¬ x < p.1 + q.1; grind)]
      show p.2 + q.2 + Dw m (x - (p.1 + q.1)) = p.2 + (q.2 + Dw m (x - p.1 - q.1))
      rw [show x - (p.1 + q.1) = x - p.1 - q.1 by grind]; grind
theorem Srt.top {p : Rat × Rat} {r : List (Rat × Rat)} (h : Srt (p :: r)) {s : Rat} (g : sl p <= s) : ∀ q ∈ p :: r, sl q <= s := fun q hq => by
  rcases List.mem_cons.mp hq with rfl | z
  · exact g
  · have := h.2.2.1 q z; grind
theorem Mg.cv {ps qs ms : List (Rat × Rat)} (h : Mg ps qs ms) : Srt ps -> Srt qs -> Cv ps qs ms := by
  have nl : ∀ qs, Srt qs -> Cv [] qs qs := fun qs h => by
    refine ⟨fun x y hx hy => ?_, fun x hx => ⟨0, x, by grind, hx, by grind, by unfold Dw; grind, .inl (L0 _)⟩⟩
    have := A2o h hy hx
    rw [Rat.add_comm x y]
    show 0 + Dw qs y <= _
    grind
  induction h with
  | nl qs => intro _ h; exact nl qs h
  | nr ps => intro h _; exact (nl ps h).comm
  | l e g ih => intro h1 h2; exact Cv.step h1 h2 (h2.top (Rat.le_of_lt e)) (ih h1.2.2.2 h2)
  | r e g ih => intro h1 h2; exact (Cv.step h2 h1 (h1.top (Rat.le_of_lt e)) (ih h1 h2.2.2.2).comm).comm
  | b e g ih =>
    intro h1 h2
    rename_i p q r t m
    have i := ih h1.2.2.2 h2.2.2.2
    have i2 : Cv r (q :: t) (q :: m) := (Cv.step h2 h1.2.2.2 (fun z hz => by have := h1.2.2.1 z hz; grind) i.comm).comm
    have i3 : Cv (p :: r) (q :: t) (p :: q :: m) := Cv.step h1 h2 (h2.top (by grind)) i2
    unfold Cv at i3 ⊢
    simp only [B6h h1.1 h2.1 e]
    exact i3
theorem A2g : ∀ {ps : List (Rat × Rat)}, Srt ps -> ∀ x ∈ offs ps, 0 <= x
  | [], _, x, h => by simp [offs] at h; grind
  | p :: r, s, x, h => by
    rcases List.mem_cons.mp (show x ∈ 0 :: (offs r).map fun x => p.1 + x from h) with z | z
    · grind
    · obtain ⟨y, hy, rfl⟩ := List.mem_map.mp z
      have := A2g s.2.2.2 y hy
      have := s.1
      grind
theorem B36 {s : Rat} : ∀ {ps : List (Rat × Rat)}, Srt ps -> 0 <= s -> (∀ q ∈ ps, sl q <= s) -> ∀ {b : Rat}, 0 <= b -> ∃ u, 0 <= u /\ u <= s /\ (∀ a, 0 <= a -> a <= b -> u * (b - a) <= Dw ps b - Dw ps a) /\ ∀ c, b <= c -> Dw ps c - Dw ps b <= u * (c - b)
  | [], _, hs, _, b, _ => ⟨0, by grind, hs, fun a _ _ => by unfold Dw; grind, fun c _ => by unfold Dw; grind⟩
  | p :: r, h, hs, bd, b, hb => by
    have e := K6 h.1
    have s0 := Rat.le_of_lt (Q2 h.1 h.2.1)
    by_cases g : b < p.1
    · refine ⟨sl p, s0, bd p List.mem_cons_self, fun a ha hab => ?_, fun c hc => ?_⟩
      · rw [L1 g, L1 (by grind)]; grind
      · have := A9q s0 h (h.top Rat.le_refl) (y := b) (t := c - b) hb (by grind)
        rw [show b + (c - b) = c by grind] at this
        grind
    · obtain ⟨u, u0, us, h1, h2⟩ := B36 (ps := r) (s := sl p) h.2.2.2 s0 (fun q hq => Rat.le_of_lt (h.2.2.1 q hq)) (b := b - p.1) (by grind)
      refine ⟨u, u0, Rat.le_trans us (bd p List.mem_cons_self), fun a ha hab => ?_, fun c hc => ?_⟩
      · rw [G6 g]
        by_cases g2 : a < p.1
        · rw [L1 g2]
          have i := h1 0 (by grind) (by grind)
          rw [L8 h.2.2.2] at i
          have := R5 us (show 0 <= p.1 - a by grind)
          grind
        · rw [G6 g2]
          have i := h1 (a - p.1) (by grind) (by grind)
          grind
      · rw [G6 g, G6 (by grind)]
        have i := h2 (c - p.1) (by grind)
        grind
theorem A9r {s : Rat} : ∀ {ps : List (Rat × Rat)}, Srt ps -> 0 <= s -> (∀ q ∈ ps, sl q <= s) -> ∀ {b : Rat}, b ∈ offs ps -> 0 < b -> ∃ u v, 0 <= v /\ v < u /\ u <= s /\ (∀ a, 0 <= a -> a <= b -> u * (b - a) <= Dw ps b - Dw ps a) /\ ∀ c, b <= c -> Dw ps c - Dw ps b <= v * (c - b)
  | [], _, hs, _, b, hb, b0 => by simp [offs] at hb; grind
  | p :: r, h, hs, bd, b, hb, b0 => by
    have e := K6 h.1
    have s1 := Q2 h.1 h.2.1
    have s0 := Rat.le_of_lt s1
    have hb' : ∃ x ∈ offs r, p.1 + x = b := by
      rcases List.mem_cons.mp (show b ∈ 0 :: (offs r).map fun x => p.1 + x from hb) with z | z
      · grind
      · exact List.mem_map.mp z
    obtain ⟨x, hx, rfl⟩ := hb'
    have x0 : 0 <= x := A2g h.2.2.2 x hx
    by_cases g : x = 0
    · subst g
      have tl : ∃ v, 0 <= v /\ v < sl p /\ ∀ q ∈ r, sl q <= v := by
        cases r with
        | nil => exact ⟨0, by grind, s1, fun q z => nomatch z⟩
        | cons t r => exact ⟨sl t, Rat.le_of_lt (Q2 h.2.2.2.1 h.2.2.2.2.1), h.2.2.1 t List.mem_cons_self, h.2.2.2.top Rat.le_refl⟩
      obtain ⟨v, v0, v1, v2⟩ := tl
      refine ⟨sl p, v, v0, v1, bd p List.mem_cons_self, fun a ha hab => ?_, fun c hc => ?_⟩
      · rw [B1f h (by grind), B1f h (by grind)]; grind
      · rw [A4k (by grind), L8 h.2.2.2, G6 (by grind)]
        have := B35 v0 h.2.2.2 v2 (x := c - p.1) (by grind)
        grind
    · obtain ⟨u, v, v0, v1, us, h1, h2⟩ := A9r (ps := r) (s := sl p) h.2.2.2 s0 (fun q hq => Rat.le_of_lt (h.2.2.1 q hq)) hx (by grind)
      refine ⟨u, v, v0, v1, Rat.le_trans us (bd p List.mem_cons_self), fun a ha hab => ?_, fun c hc => ?_⟩
      · rw [A4k x0]
        by_cases g2 : a < p.1
        · rw [L1 g2]
          have i := h1 0 (by grind) (by grind)
          rw [L8 h.2.2.2] at i
          have := R5 us (show 0 <= p.1 - a by grind)
          grind
        · rw [G6 g2]
          have i := h1 (a - p.1) (by grind) (by grind)
          grind
      · rw [A4k x0, G6 (by grind)]
        have i := h2 (c - p.1) (by grind)
        grind
theorem B37 : ∀ {ps : List (Rat × Rat)}, Srt ps -> ∀ {a b : Rat}, 0 <= a -> a <= b -> (∀ x ∈ offs ps, ¬ (a < x /\ x < b)) -> ∃ u, 0 <= u /\ ∀ w, a <= w -> w <= b -> Dw ps w = Dw ps a + u * (w - a)
  | [], _, a, b, _, _, _ => ⟨0, by grind, fun w _ _ => by unfold Dw; grind⟩
  | p :: r, h, a, b, ha, hab, nb => by
    have s0 := Rat.le_of_lt (Q2 h.1 h.2.1)
    by_cases g : a < p.1
    · have hb : b <= p.1 := by
        have := nb p.1 (by have := P7 (p := p) (L0 r); rwa [Rat.add_zero] at this)
        grind
      exact ⟨sl p, s0, fun w h1 h2 => by rw [B1f h (by grind), B1f h (by grind)]; grind⟩
    · obtain ⟨u, u0, hu⟩ := B37 (ps := r) h.2.2.2 (a := a - p.1) (b := b - p.1) (by grind) (by grind) fun x hx => by
        have := nb _ (P7 (p := p) hx); grind
      refine ⟨u, u0, fun w h1 h2 => ?_⟩
      rw [G6 g, G6 (by grind), hu (w - p.1) (by grind) (by grind)]; grind
theorem B38 : ∀ {ps : List (Rat × Rat)}, Srt ps -> ∀ {a w : Rat}, 0 <= a -> a <= w -> (∀ x ∈ offs ps, x <= a) -> Dw ps w = Dw ps a
  | [], _, a, w, _, _, _ => rfl
  | p :: r, h, a, w, ha, haw, nb => by
    have g : p.1 <= a := nb p.1 (by have := P7 (p := p) (L0 r); rwa [Rat.add_zero] at this)
    rw [G6 (by grind), G6 (by grind), B38 (ps := r) h.2.2.2 (a := a - p.1) (w := w - p.1) (by grind) (by grind) fun x hx => by
      have := nb _ (P7 (p := p) hx); grind]
def fl (c d : Rat × Rat) : Rat := (c.2 - d.2) / (d.1 - c.1)
def RiseI (cs : List (Rat × Rat)) : Prop := ∀ (i : Nat) c d, cs[i]? = some c -> cs[i + 1]? = some d -> c.1 < d.1 /\ d.2 < c.2
def B6l (cs : List (Rat × Rat)) : Prop := ∀ (i : Nat) c d e, cs[i]? = some c -> cs[i + 1]? = some d -> cs[i + 2]? = some e -> fl d e < fl c d
theorem RiseI.tail {c : Rat × Rat} {r : List (Rat × Rat)} (h : RiseI (c :: r)) : RiseI r := fun i a b ha hb => h (i + 1) a b (by simpa using ha) (by simpa using hb)
theorem RiseI.lt {cs : List (Rat × Rat)} (h : RiseI cs) : ∀ {j i : Nat} {c d : Rat × Rat}, i < j -> cs[i]? = some c -> cs[j]? = some d -> c.1 < d.1
  | 0, _, _, _, hij, _, _ => absurd hij (Nat.not_lt_zero _)
  | j + 1, i, c, d, hij, hc, hd => by
    have hj : j < cs.length := by have := (List.getElem?_eq_some_iff.mp hd).1; omega
    have e := List.getElem?_eq_getElem hj
    have h1 := (h j _ d e hd).1
    rcases Nat.lt_succ_iff_lt_or_eq.mp hij with z | z
    · have := RiseI.lt h (j := j) z hc e; grind
    · subst z; rw [e] at hc; cases hc; exact h1
theorem P3 (w : Rat) : ∀ {cs : List (Rat × Rat)}, RiseI cs -> ∃ m, (cs.filter fun c => !decide (w < c.1)).length = m /\ m <= cs.length /\ (∀ (j : Nat) c, j < m -> cs[j]? = some c -> ¬ w < c.1) /\ ∀ (j : Nat) c, m <= j -> cs[j]? = some c -> w < c.1
  | [], _ => ⟨0, rfl, Nat.le_refl _, fun j c h => absurd h (Nat.not_lt_zero _), fun j c _ h => by simp at h⟩
  | c :: r, h => by
    by_cases hc : w < c.1
    · have hn : (c :: r).filter (fun c => !decide (w < c.1)) = [] := List.filter_eq_nil_iff.mpr fun d hd => by
        rcases List.mem_cons.mp hd with rfl | hd
        · simp [hc]
        · obtain ⟨j, hj⟩ := List.mem_iff_getElem?.mp hd
          have := h.lt (i := 0) (j := j + 1) (c := c) (d := d) (by omega) rfl (by simpa using hj)
          have : w < d.1 := by grind
          simp [this]
      refine ⟨0, by rw [hn]; rfl, Nat.zero_le _, fun j d hj => absurd hj (Nat.not_lt_zero _), fun j d _ hd => ?_⟩
      cases j with
      | zero => have : c = d := by simpa using hd
                subst this; exact hc
      | succ j => have := h.lt (i := 0) (j := j + 1) (c := c) (d := d) (by omega) rfl hd; grind
    · obtain ⟨m, e, hm, h1, h2⟩ := P3 w h.tail
      refine ⟨m + 1, by rw [List.filter_cons, if_pos (by simp [hc]), List.length_cons, e], by rw [List.length_cons]; omega, fun j d hj hd => ?_, fun j d hj hd => ?_⟩
      · cases j with
        | zero => have : c = d := by simpa using hd
                  subst this; exact hc
        | succ j => exact h1 j d (by omega) (by simpa using hd)
      · cases j with
        | zero => omega
        | succ j => exact h2 j d (by omega) (by simpa using hd)
def bnd (c : Rat × Rat) : List (Rat × Rat) -> List (Rat × Rat)
  | [] => [c]
  | p :: r => c :: bnd (c.1 + p.1, c.2 - p.2) r
theorem C4 : ∀ (ps : List (Rat × Rat)) (c : Rat × Rat), (bnd c ps).length = ps.length + 1
  | [], _ => rfl
  | p :: r, c => by show (bnd _ r).length + 1 = _; rw [C4 r]; rfl
theorem C5 (ps : List (Rat × Rat)) (c : Rat × Rat) : (bnd c ps)[0]? = some c := by cases ps <;> rfl
theorem J9 (ps : List (Rat × Rat)) (p c : Rat × Rat) (i : Nat) : (bnd c (p :: ps))[i + 1]? = (bnd (c.1 + p.1, c.2 - p.2) ps)[i]? := by
  show (c :: bnd _ ps)[i + 1]? = _
  rw [List.getElem?_cons_succ]
theorem A9m {c p : Rat × Rat} : fl c (c.1 + p.1, c.2 - p.2) = sl p := by
  show (c.2 - (c.2 - p.2)) / (c.1 + p.1 - c.1) = p.2 / p.1
  congr 1 <;> grind
theorem K0 : ∀ {ps : List (Rat × Rat)} {c : Rat × Rat}, Srt ps -> RiseI (bnd c ps)
  | [], c, _, i, a, b, ha, hb => by simp [bnd] at hb
  | p :: r, c, s, 0, a, b, ha, hb => by
    rw [C5] at ha; rw [J9, C5] at hb
    cases ha; cases hb
    have := s.1; have := s.2.1
    constructor
    · show c.1 < c.1 + p.1; grind
    · show c.2 - p.2 < c.2; grind
  | p :: r, c, s, i + 1, a, b, ha, hb => by
    rw [J9] at ha hb
    exact K0 s.2.2.2 i a b ha hb
theorem A4q : ∀ {ps : List (Rat × Rat)} {c : Rat × Rat}, Srt ps -> B6l (bnd c ps)
  | [], c, _, i, a, b, e, ha, hb, he => by simp [bnd] at hb
  | [p], c, _, i, a, b, e, ha, hb, he => by
    rw [show i + 2 = (i + 1) + 1 from rfl, J9] at he
    simp [bnd] at he
  | p :: q :: r, c, s, 0, a, b, e, ha, hb, he => by
    rw [C5] at ha; rw [J9, C5] at hb; rw [show 0 + 2 = (0 + 1) + 1 from rfl, J9, J9, C5] at he
    cases ha; cases hb; cases he
    rw [A9m, A9m]
    exact s.2.2.1 q List.mem_cons_self
  | p :: q :: r, c, s, i + 1, a, b, e, ha, hb, he => by
    rw [J9] at ha hb
    rw [show i + 1 + 2 = (i + 2) + 1 from rfl, J9] at he
    exact A4q (ps := q :: r) s.2.2.2 i a b e ha hb he
def ev : List (Rat × Rat) -> Rat -> Rat
  | [], _ => 0
  | [c], _ => c.2
  | c :: d :: r, w => if w < d.1 then c.2 - fl c d * (w - c.1) else ev (d :: r) w
theorem E9 : ∀ (ps : List (Rat × Rat)) (c : Rat × Rat) (w : Rat), ev (bnd c ps) w = c.2 - Dw ps (w - c.1)
  | [], c, w => by show c.2 = c.2 - 0; grind
  | p :: r, c, w => by
    have h := E9 r (c.1 + p.1, c.2 - p.2) w
    have e : bnd c (p :: r) = c :: bnd (c.1 + p.1, c.2 - p.2) r := rfl
    obtain ⟨t, et⟩ : ∃ t, bnd (c.1 + p.1, c.2 - p.2) r = (c.1 + p.1, c.2 - p.2) :: t := by cases r <;> exact ⟨_, rfl⟩
    rw [e, et]
    show (if w < c.1 + p.1 then c.2 - fl c (c.1 + p.1, c.2 - p.2) * (w - c.1) else ev ((c.1 + p.1, c.2 - p.2) :: t) w) = _
    rw [<- et, h, A9m]
    by_cases g : w < c.1 + p.1
    · rw [if_pos g, L1 (by grind)]
    · rw [if_neg g, G6 (by grind)]
      show c.2 - p.2 - Dw r (w - (c.1 + p.1)) = c.2 - (p.2 + Dw r (w - c.1 - p.1))
      rw [show w - (c.1 + p.1) = w - c.1 - p.1 by grind]; grind
theorem V1 : ∀ {cs : List (Rat × Rat)} {i : Nat} {c d : Rat × Rat} {w : Rat}, RiseI cs -> cs[i]? = some c -> cs[i + 1]? = some d -> ¬ w < c.1 -> w < d.1 -> ev cs w = c.2 - fl c d * (w - c.1)
  | [], i, c, d, w, _, h, _, _, _ => by simp at h
  | [a], i, c, d, w, _, _, h, _, _ => by simp at h
  | a :: b :: r, 0, c, d, w, _, h1, h2, h3, h4 => by
    have e1 : a = c := by simpa using h1
    have e2 : b = d := by simpa using h2
    subst e1 e2
    show (if w < b.1 then _ else _) = _
    rw [if_pos h4]
  | a :: b :: r, i + 1, c, d, w, R, h1, h2, h3, h4 => by
    show (if w < b.1 then _ else ev (b :: r) w) = _
    have h1' : (b :: r)[i]? = some c := by simpa using h1
    have h2' : (b :: r)[i + 1]? = some d := by simpa using h2
    have hb : ¬ w < b.1 := by
      rcases Nat.eq_zero_or_pos i with z | z
      · subst z; have : b = c := by simpa using h1'
        subst this; exact h3
      · have := R.tail.lt (i := 0) (j := i) z (c := b) rfl h1'; grind
    rw [if_neg hb]
    exact V1 R.tail h1' h2' h3 h4
theorem O0 : ∀ {cs : List (Rat × Rat)} {c : Rat × Rat} {w : Rat}, RiseI cs -> cs[cs.length - 1]? = some c -> ¬ w < c.1 -> ev cs w = c.2
  | [], c, w, _, h, _ => by simp at h
  | [a], c, w, _, h, _ => by have : a = c := by simpa using h
                             subst this; rfl
  | a :: b :: r, c, w, R, h, hw => by
    show (if w < b.1 then _ else ev (b :: r) w) = _
    have h' : (b :: r)[(b :: r).length - 1]? = some c := by simpa using h
    have hb : ¬ w < b.1 := by
      rcases Nat.eq_zero_or_pos ((b :: r).length - 1) with z | z
      · rw [z] at h'; have : b = c := by simpa using h'
        subst this; exact hw
      · have := R.tail.lt (i := 0) z (c := b) rfl h'; grind
    rw [if_neg hb]
    exact O0 R.tail h' hw
theorem A2i : ∀ {ps : List (Rat × Rat)} {c d : Rat × Rat}, d ∈ bnd c ps -> d.1 - c.1 ∈ offs ps
  | [], c, d, h => by
    have : d = c := by simpa [bnd] using h
    subst this; rw [Rat.sub_self]; exact L0 _
  | p :: r, c, d, h => by
    rcases List.mem_cons.mp (show d ∈ c :: bnd _ r from h) with z | z
    · subst z; rw [Rat.sub_self]; exact L0 _
    · have := A2i z
      have e : d.1 - c.1 = p.1 + (d.1 - (c.1 + p.1)) := by grind
      rw [e]; exact P7 this
theorem U5 : ∀ {ps : List (Rat × Rat)} {c : Rat × Rat} {x : Rat}, x ∈ offs ps -> ∃ d ∈ bnd c ps, d.1 = c.1 + x
  | [], c, x, h => by
    have : x = 0 := by simpa [offs] using h
    subst this; exact ⟨c, by simp [bnd], by grind⟩
  | p :: r, c, x, h => by
    rcases List.mem_cons.mp (show x ∈ 0 :: (offs r).map fun x => p.1 + x from h) with z | z
    · subst z; exact ⟨c, List.mem_cons_self, by grind⟩
    · obtain ⟨y, hy, rfl⟩ := List.mem_map.mp z
      obtain ⟨d, hd, e⟩ := U5 (c := (c.1 + p.1, c.2 - p.2)) hy
      exact ⟨d, List.mem_cons_of_mem _ hd, by rw [e]; show c.1 + p.1 + y = _; grind⟩
theorem A95 : ∀ {ps : List (Rat × Rat)} {c d : Rat × Rat}, Srt ps -> d ∈ bnd c ps -> d.2 = ev (bnd c ps) d.1 := by
  intro ps c d s h
  obtain ⟨i, hi⟩ := List.mem_iff_getElem?.mp h
  have hl := (List.getElem?_eq_some_iff.mp hi).1
  rcases Nat.lt_or_ge (i + 1) (bnd c ps).length with z | z
  · obtain ⟨e, he⟩ : ∃ e, (bnd c ps)[i + 1]? = some e := ⟨_, List.getElem?_eq_getElem z⟩
    have := (K0 s i d e hi he).1
    rw [V1 (K0 s) hi he (by grind) this]; grind
  · rw [O0 (K0 s) (c := d) (by rw [show (bnd c ps).length - 1 = i by omega]; exact hi) (by grind)]
theorem side {ps : List (Rat × Rat)} {c : Rat × Rat} (s : Srt ps) {b : Rat} (hb : c.1 <= b) : ∃ u v, 0 <= v /\ v <= u /\ (∀ d ∈ bnd c ps, d.1 = b -> c.1 < b -> v < u) /\ (∀ a, c.1 <= a -> a <= b -> u * (b - a) <= ev (bnd c ps) a - ev (bnd c ps) b) /\ ∀ a, b <= a -> ev (bnd c ps) b - ev (bnd c ps) a <= v * (a - b) := by
  obtain ⟨S, S0, hS⟩ : ∃ S, 0 <= S /\ ∀ q ∈ ps, sl q <= S := by
    cases ps with
    | nil => exact ⟨0, by grind, fun q z => nomatch z⟩
    | cons p r => exact ⟨sl p, Rat.le_of_lt (Q2 s.1 s.2.1), s.top Rat.le_refl⟩
  by_cases h : b - c.1 ∈ offs ps /\ 0 < b - c.1
  · obtain ⟨u, v, v0, v1, _, h1, h2⟩ := A9r s S0 hS h.1 h.2
    refine ⟨u, v, v0, Rat.le_of_lt v1, fun _ _ _ _ => v1, fun a ha hab => ?_, fun a ha => ?_⟩
    · have := h1 (a - c.1) (by grind) (by grind)
      rw [E9, E9, show b - a = b - c.1 - (a - c.1) by grind]; grind
    · have := h2 (a - c.1) (by grind)
      rw [E9, E9, show a - b = a - c.1 - (b - c.1) by grind]; grind
  · obtain ⟨u, u0, _, h1, h2⟩ := B36 s S0 hS (b := b - c.1) (by grind)
    refine ⟨u, u, u0, Rat.le_refl, fun d hd e hc => absurd ⟨e ▸ A2i hd, by grind⟩ h, fun a ha hab => ?_, fun a ha => ?_⟩
    · have := h1 (a - c.1) (by grind) (by grind)
      rw [E9, E9, show b - a = b - c.1 - (a - c.1) by grind]; grind
    · have := h2 (a - c.1) (by grind)
      rw [E9, E9, show a - b = a - c.1 - (b - c.1) by grind]; grind
theorem lin {ps : List (Rat × Rat)} {c : Rat × Rat} (s : Srt ps) {a b : Rat} (ha : c.1 <= a) (hab : a <= b) (nb : ∀ d ∈ bnd c ps, ¬ (a < d.1 /\ d.1 < b)) : ∃ u, ∀ w, a <= w -> w <= b -> ev (bnd c ps) w = ev (bnd c ps) a - u * (w - a) := by
  obtain ⟨u, _, h⟩ := B37 s (a := a - c.1) (b := b - c.1) (by grind) (by grind) fun x hx z => by
    obtain ⟨d, hd, e⟩ := U5 (c := c) hx
    exact nb d hd (by grind)
  refine ⟨u, fun w h1 h2 => ?_⟩
  rw [E9, E9, h (w - c.1) (by grind) (by grind)]; grind
theorem flat {ps : List (Rat × Rat)} {c : Rat × Rat} (s : Srt ps) {a w : Rat} (ha : c.1 <= a) (haw : a <= w) (nb : ∀ d ∈ bnd c ps, d.1 <= a) : ev (bnd c ps) w = ev (bnd c ps) a := by
  rw [E9, E9, B38 s (a := a - c.1) (w := w - c.1) (by grind) (by grind) fun x hx => by
    obtain ⟨d, hd, e⟩ := U5 (c := c) hx
    have := nb d hd; grind]
theorem B9l {t U X : Rat} (h : 0 < t) (g : U * t <= X) : U <= X / t := by
  have e := Rat.div_mul_cancel (a := X) (b := t) (by grind)
  by_cases z : U <= X / t
  · exact z
  · have := Rat.mul_lt_mul_of_pos_right (show X / t < U by grind) h
    grind
theorem B9k {t U X : Rat} (h : 0 < t) (g : X <= U * t) : X / t <= U := by
  have e := Rat.div_mul_cancel (a := X) (b := t) (by grind)
  by_cases z : X / t <= U
  · exact z
  · have := Rat.mul_lt_mul_of_pos_right (show U < X / t by grind) h
    grind
structure Bs (c1 c2 : Rat × Rat) (ps qs : List (Rat × Rat)) (f : Rat) (vs : List Rat) : Prop where
  s1 : Srt ps
  s2 : Srt qs
  f1 : c1.1 <= f
  f2 : c2.1 <= f
  inc : vs.Pairwise (· < ·)
  ge : ∀ v ∈ vs, f <= v
  of : ∀ v ∈ vs, (∃ d ∈ bnd c1 ps, d.1 = v) \/ ∃ d ∈ bnd c2 qs, d.1 = v
  to : ∀ d, d ∈ bnd c1 ps \/ d ∈ bnd c2 qs -> f <= d.1 -> d.1 ∈ vs
  h0 : vs[0]? = some f
def bsE (c1 c2 : Rat × Rat) (ps qs : List (Rat × Rat)) (w : Rat) : Rat := ev (bnd c1 ps) w + ev (bnd c2 qs) w
def bsL (c1 c2 : Rat × Rat) (ps qs : List (Rat × Rat)) (vs : List Rat) : List (Rat × Rat) := vs.map fun v => (v, bsE c1 c2 ps qs v)
theorem M7 {c1 c2 : Rat × Rat} {ps qs : List (Rat × Rat)} {vs : List Rat} {i : Nat} {d : Rat × Rat} (h : (bsL c1 c2 ps qs vs)[i]? = some d) : vs[i]? = some d.1 /\ d.2 = bsE c1 c2 ps qs d.1 := by
  unfold bsL at h
  rw [List.getElem?_map] at h
  obtain ⟨v, hv, rfl⟩ := Option.map_eq_some_iff.mp h
  exact ⟨hv, rfl⟩
theorem Q6 {vs : List Rat} (h : vs.Pairwise (· < ·)) {i j : Nat} {a b : Rat} (hij : i < j) (ha : vs[i]? = some a) (hb : vs[j]? = some b) : a < b := by
  obtain ⟨h1, rfl⟩ := List.getElem?_eq_some_iff.mp ha
  obtain ⟨h2, rfl⟩ := List.getElem?_eq_some_iff.mp hb
  exact List.pairwise_iff_getElem.mp h i j h1 h2 hij
theorem Bs.side2 {c1 c2 : Rat × Rat} {ps qs : List (Rat × Rat)} {f : Rat} {vs : List Rat} (B : Bs c1 c2 ps qs f vs) {b : Rat} (hb : b ∈ vs) (hf : f < b) : ∃ U V, 0 <= V /\ V < U /\ (∀ a, f <= a -> a <= b -> U * (b - a) <= bsE c1 c2 ps qs a - bsE c1 c2 ps qs b) /\ ∀ a, b <= a -> bsE c1 c2 ps qs b - bsE c1 c2 ps qs a <= V * (a - b) := by
  have f1 := B.f1
  have f2 := B.f2
  obtain ⟨u1, v1, a0, a1, a2, a3, a4⟩ := side B.s1 (c := c1) (b := b) (by grind)
  obtain ⟨u2, v2, b0, b1, b2, b3, b4⟩ := side B.s2 (c := c2) (b := b) (by grind)
  refine ⟨u1 + u2, v1 + v2, by grind, ?_, fun a h1 h2 => ?_, fun a h1 => ?_⟩
  · rcases B.of b hb with ⟨d, hd, e⟩ | ⟨d, hd, e⟩
    · have := a2 d hd e (by grind); grind
    · have := b2 d hd e (by grind); grind
  · have := a3 a (by grind) h2
    have := b3 a (by grind) h2
    unfold bsE; grind
  · have := a4 a h1
    have := b4 a h1
    unfold bsE; grind
theorem Bs.rise {c1 c2 : Rat × Rat} {ps qs : List (Rat × Rat)} {f : Rat} {vs : List Rat} (B : Bs c1 c2 ps qs f vs) : RiseI (bsL c1 c2 ps qs vs) := by
  intro i c d hc hd
  obtain ⟨h1, e1⟩ := M7 hc
  obtain ⟨h2, e2⟩ := M7 hd
  have lt := Q6 B.inc (Nat.lt_succ_self i) h1 h2
  have g1 := B.ge _ (List.mem_of_getElem? h1)
  obtain ⟨U, V, V0, VU, hl, _⟩ := B.side2 (List.mem_of_getElem? h2) (by grind)
  have := hl c.1 g1 (by grind)
  have := Rat.mul_pos (show 0 < U by grind) (show 0 < d.1 - c.1 by grind)
  exact ⟨lt, by rw [e1, e2]; grind⟩
theorem Bs.fall {c1 c2 : Rat × Rat} {ps qs : List (Rat × Rat)} {f : Rat} {vs : List Rat} (B : Bs c1 c2 ps qs f vs) : B6l (bsL c1 c2 ps qs vs) := by
  intro i c d e hc hd he
  obtain ⟨h1, e1⟩ := M7 hc
  obtain ⟨h2, e2⟩ := M7 hd
  obtain ⟨h3, e3⟩ := M7 he
  have lt := Q6 B.inc (Nat.lt_succ_self i) h1 h2
  have lt2 := Q6 B.inc (Nat.lt_succ_self (i + 1)) h2 h3
  have g1 := B.ge _ (List.mem_of_getElem? h1)
  obtain ⟨U, V, V0, VU, hl, hr⟩ := B.side2 (List.mem_of_getElem? h2) (by grind)
  have i1 := hl c.1 g1 (by grind)
  have i2 := hr e.1 (by grind)
  have j1 : U <= fl c d := B9l (by grind) (by rw [e1, e2]; exact i1)
  have j2 : fl d e <= V := B9k (by grind) (by rw [e2, e3]; exact i2)
  grind
theorem Bs.ev {c1 c2 : Rat × Rat} {ps qs : List (Rat × Rat)} {f : Rat} {vs : List Rat} (B : Bs c1 c2 ps qs f vs) {w : Rat} (hw : f <= w) : Prf.ev (bsL c1 c2 ps qs vs) w = bsE c1 c2 ps qs w := by
  have f1 := B.f1
  have f2 := B.f2
  have R := B.rise
  obtain ⟨m, _, hm, h1, h2⟩ := P3 w R
  have hl : (bsL c1 c2 ps qs vs).length = vs.length := by unfold bsL; rw [List.length_map]
  have hv0 := (List.getElem?_eq_some_iff.mp B.h0).1
  have m0 : 1 <= m := by
    rcases Nat.eq_zero_or_pos m with z | z
    · obtain ⟨d, hd⟩ : ∃ d, (bsL c1 c2 ps qs vs)[0]? = some d := ⟨_, List.getElem?_eq_getElem (by omega)⟩
      have g := h2 0 d (by omega) hd
      have e := (M7 hd).1
      rw [B.h0] at e; cases e; grind
    · exact z
  obtain ⟨c, hc⟩ : ∃ d, (bsL c1 c2 ps qs vs)[m - 1]? = some d := ⟨_, List.getElem?_eq_getElem (by omega)⟩
  have cw := h1 (m - 1) c (by omega) hc
  obtain ⟨vc, ec⟩ := M7 hc
  have gc := B.ge _ (List.mem_of_getElem? vc)
  have pos : ∀ d : Rat × Rat, d ∈ bnd c1 ps \/ d ∈ bnd c2 qs -> c.1 < d.1 -> ∃ j, m <= j /\ vs[j]? = some d.1 := fun d hd g => by
    obtain ⟨j, hj⟩ := List.mem_iff_getElem?.mp (B.to d hd (by grind))
    refine ⟨j, ?_, hj⟩
    rcases Nat.lt_or_ge j m with z | z
    · exfalso
      rcases Nat.lt_or_ge j (m - 1) with y | y
      · have := Q6 B.inc y hj vc; grind
      · have : j = m - 1 := by omega
        rw [this, vc] at hj; have := Option.some.inj hj; grind
    · exact z
  by_cases hlast : m = vs.length
  · rw [O0 R (c := c) (by rw [hl, <- hlast]; exact hc) cw, ec]
    have no : ∀ d : Rat × Rat, d ∈ bnd c1 ps \/ d ∈ bnd c2 qs -> d.1 <= c.1 := fun d hd => by
      by_cases z : c.1 < d.1
      · obtain ⟨j, hj, e⟩ := pos d hd z
        have := (List.getElem?_eq_some_iff.mp e).1
        omega
      · grind
    unfold bsE
    rw [flat B.s1 (a := c.1) (w := w) (by grind) (by grind) fun d hd => no d (.inl hd), flat B.s2 (a := c.1) (w := w) (by grind) (by grind) fun d hd => no d (.inr hd)]
  · obtain ⟨d, hd⟩ : ∃ d, (bsL c1 c2 ps qs vs)[m - 1 + 1]? = some d := ⟨_, List.getElem?_eq_getElem (by omega)⟩
    have dw := h2 (m - 1 + 1) d (by omega) hd
    obtain ⟨vd, ed⟩ := M7 hd
    rw [V1 R hc hd cw dw]
    have no : ∀ e : Rat × Rat, e ∈ bnd c1 ps \/ e ∈ bnd c2 qs -> ¬ (c.1 < e.1 /\ e.1 < d.1) := fun e he z => by
      obtain ⟨j, hj, q⟩ := pos e he z.1
      rcases Nat.lt_or_ge (m - 1 + 1) j with y | y
      · have := Q6 B.inc y vd q; grind
      · have : j = m - 1 + 1 := by omega
        rw [this, vd] at q; have := Option.some.inj q; grind
    obtain ⟨u1, l1⟩ := lin B.s1 (a := c.1) (b := d.1) (by grind) (by grind) fun e he => no e (.inl he)
    obtain ⟨u2, l2⟩ := lin B.s2 (a := c.1) (b := d.1) (by grind) (by grind) fun e he => no e (.inr he)
    have x1 := l1 d.1 (by grind) (by grind)
    have x2 := l2 d.1 (by grind) (by grind)
    have y1 := l1 w (by grind) (by grind)
    have y2 := l2 w (by grind) (by grind)
    have ef : fl c d = u1 + u2 := by
      unfold fl
      rw [ec, ed]
      have : bsE c1 c2 ps qs c.1 - bsE c1 c2 ps qs d.1 = (u1 + u2) * (d.1 - c.1) := by unfold bsE; grind
      rw [this]; exact Rat.mul_div_cancel (by grind)
    rw [ef, ec]
    unfold bsE; grind
mutual
def Pln : PyData -> Bool
  | .none => true
  | .bool _ => true
  | .int i => decide (i.natAbs < 2 ^ 1900)
  | .list xs => PlnA xs
  | .tuple xs => PlnA xs
  | _ => false
def PlnA : List PyData -> Bool
  | [] => true
  | x :: r => Pln x && PlnA r
end
mutual
def szD : PyData -> Nat
  | .list xs => 4 + szA xs
  | .tuple xs => 4 + szA xs
  | _ => 2010
def szA : List PyData -> Nat
  | [] => 0
  | x :: r => szD x + 2 + szA r
end
theorem V4 (a b : Str) : (a ++ b).length = a.length + b.length := by
  show (a.cps ++ b.cps).size = _
  rw [Array.size_append]; rfl
theorem R8 : ∀ (ts : List Str) (k : Nat) (acc : Str), (textFrom k acc ts).length <= acc.length + (ts.map fun t => t.length + 2).sum
  | [], k, acc => by show acc.length <= _; omega
  | t :: r, k, acc => by
    have h := R8 r (k + 1) (acc ++ (if k > 0 then ", " else "" : String) ++ t)
    have e : (acc ++ (if k > 0 then ", " else "" : String) ++ t).length <= acc.length + (t.length + 2) := by
      rw [V4, V4]
      have : (Str.ofString (if k > 0 then ", " else "")).length <= 2 := by
        split
        · decide +kernel
        · decide +kernel
      omega
    show (textFrom (k + 1) (acc ++ (if k > 0 then ", " else "" : String) ++ t) r).length <= _
    rw [List.map_cons, List.sum_cons]
    omega
mutual
theorem A6f : ∀ d : PyData, Pln d = true -> d.canLay0 = true /\ d.showable = true /\ d.hasDict = false /\ d.shown.length <= szD d
  | .none, _ => ⟨rfl, rfl, rfl, by decide +kernel⟩
  | .bool b, _ => ⟨rfl, rfl, rfl, by cases b <;> decide +kernel⟩
  | .int i, h => by
    have h : i.natAbs < 2 ^ 1900 := by simpa [Pln] using h
    have hl : i.natAbs.log2 < 1900 := by
      by_cases z : i.natAbs = 0
      · rw [z]; decide
      · exact (Nat.log2_lt z).mpr h
    refine ⟨rfl, by simp [PyData.showable]; omega, rfl, ?_⟩
    have := int_text_length_le (a := i) (k := 1900) (by decide) hl
    show (Str.ofString (toString i)).length <= 2010
    rw [ofString_length]; omega
  | .str z, h => by simp [Pln] at h
  | .dict z, h => by simp [Pln] at h
  | .list xs, h => by
    obtain ⟨h1, h2, h3, h4⟩ := Z9 xs (by simpa [Pln] using h)
    refine ⟨h1, h2, h3, ?_⟩
    show (textFrom 0 "[" (PyData.shownAll xs) ++ "]").length <= 4 + szA xs
    rw [V4]
    have := R8 (PyData.shownAll xs) 0 "["
    have e1 : (Str.ofString "[").length = 1 := by decide +kernel
    have e2 : (Str.ofString "]").length = 1 := by decide +kernel
    omega
  | .tuple xs, h => by
    obtain ⟨h1, h2, h3, h4⟩ := Z9 xs (by simpa [Pln] using h)
    refine ⟨h1, h2, h3, ?_⟩
    show (("(" : Str) ++ Str.join ", " (PyData.shownAll xs) ++ (if (PyData.shownAll xs).length == 1 then ",)" else ")" : String)).length <= 4 + szA xs
    rw [V4, V4]
    have := L2.B1c (sep := Str.ofString ", ") (zs := PyData.shownAll xs)
    have e0 : (Str.ofString ", ").length = 2 := by decide +kernel
    rw [e0] at this
    have e1 : (Str.ofString "(").length = 1 := by decide +kernel
    have e2 : (Str.ofString (if (PyData.shownAll xs).length == 1 then ",)" else ")")).length <= 2 := by
      split
      · decide +kernel
      · decide +kernel
    omega
theorem Z9 : ∀ xs : List PyData, PlnA xs = true -> PyData.canLayAll0 xs = true /\ PyData.showableAll xs = true /\ PyData.hasDictAll xs = false /\ ((PyData.shownAll xs).map fun t => t.length + 2).sum <= szA xs
  | [], _ => ⟨rfl, rfl, rfl, by decide⟩
  | x :: r, h => by
    have h : Pln x = true /\ PlnA r = true := by simpa [PlnA] using h
    obtain ⟨a1, a2, a3, a4⟩ := A6f x h.1
    obtain ⟨b1, b2, b3, b4⟩ := Z9 r h.2
    refine ⟨?_, ?_, ?_, ?_⟩
    · show (x.canLay0 && PyData.canLayAll0 r) = true
      rw [a1, b1]; rfl
    · show (x.showable && PyData.showableAll r) = true
      rw [a2, b2]; rfl
    · show (x.hasDict || PyData.hasDictAll r) = false
      rw [a3, b3]; rfl
    · show ((x.shown :: PyData.shownAll r).map fun t => t.length + 2).sum <= szD x + 2 + szA r
      rw [List.map_cons, List.sum_cons]; omega
end
theorem N7 {a b : Str} (h1 : PyData.strOk a = true) (h2 : PyData.strOk b = true) : PyData.strOk (a ++ b) = true := by
  show ((a.cps ++ b.cps).all (· < 0x110000)) = true
  rw [Array.all_append]
  have h1 : a.cps.all (· < 0x110000) = true := h1
  have h2 : b.cps.all (· < 0x110000) = true := h2
  rw [h1, h2]; rfl
theorem S1 (z : String) : PyData.strOk (Str.ofString z) = true := by
  rw [Str.ofString_eq_toList]
  show ((z.toList.map Char.toNat).toArray.all (· < 0x110000)) = true
  rw [Array.all_eq_true_iff_forall_mem]
  intro c hc
  obtain ⟨x, _, rfl⟩ := List.mem_map.mp (List.mem_toArray.mp hc)
  have : x.toNat.isValidChar := x.valid
  unfold Nat.isValidChar at this
  exact decide_eq_true (by omega)
theorem A20 {z : Str} (hz : PyData.strOk z = true) : ∀ ts : List Str, (∀ t ∈ ts, PyData.strOk t = true) -> PyData.strOk (z.join ts) = true
  | [], _ => by rw [Str.join]; decide +kernel
  | [t], h => by rw [Str.join]; exact h t List.mem_cons_self
  | t :: u :: r, h => N7 (N7 (h t List.mem_cons_self) hz) (A20 hz (u :: r) fun x hx => h x (List.mem_cons_of_mem _ hx))
theorem A21 : ∀ (ts : List Str) (k : Nat) (acc : Str), PyData.strOk acc = true -> (∀ t ∈ ts, PyData.strOk t = true) -> PyData.strOk (textFrom k acc ts) = true
  | [], _, _, h, _ => h
  | t :: r, k, acc, h, ht => A21 r (k + 1) _ (N7 (N7 h (S1 _)) (ht t List.mem_cons_self)) fun x hx => ht x (List.mem_cons_of_mem _ hx)
mutual
theorem B1w : ∀ d : PyData, Pln d = true -> PyData.strOk d.shown = true
  | .none, _ => by decide +kernel
  | .bool b, _ => by cases b <;> decide +kernel
  | .int i, h => S1 (toString i)
  | .str z, h => by simp [Pln] at h
  | .dict z, h => by simp [Pln] at h
  | .list xs, h => N7 (a := textFrom 0 "[" (PyData.shownAll xs)) (b := "]") (A21 _ 0 "[" (S1 "[") (A11 xs h)) (S1 "]")
  | .tuple xs, h => N7 (a := ("(" : Str) ++ Str.join ", " (PyData.shownAll xs)) (b := Str.ofString (if (PyData.shownAll xs).length == 1 then ",)" else ")")) (N7 (S1 "(") (A20 (S1 ", ") _ (A11 xs h))) (S1 _)
theorem A11 : ∀ xs : List PyData, PlnA xs = true -> ∀ t ∈ PyData.shownAll xs, PyData.strOk t = true
  | [], _ => fun _ z => nomatch z
  | x :: r, h => by
    have h : Pln x = true /\ PlnA r = true := by simpa [PlnA] using h
    intro t ht
    rcases List.mem_cons.mp (show t ∈ x.shown :: PyData.shownAll r from ht) with rfl | z
    · exact B1w x h.1
    · exact A11 r h.2 t z
end
theorem B09 : 1000000 <= sizeLine := by rw [sizeLine_eq]; decide
def Wh (w : Rat) : Prop := On (LL * 6) (2 ^ 64) w
theorem V8 : 0 < LL * 6 := by decide
theorem V9 : 0 < LL * LL := by decide
theorem Wh.sm {w : Rat} (h : Wh w) : SmR 160 95 w := On.sm V8 h (Nat.le_of_ble_eq_true rfl) (Nat.le_of_ble_eq_true rfl)
theorem T3 {w : Rat} {a : Nat} (h : On LL (2 ^ a) w) : On (LL * 6) (2 ^ a) w := h.up (by decide)
theorem on_w {w : Rat} {a : Nat} (h : On LL (2 ^ a) w) (g : a <= 60) : SmR 150 90 w := On.sm F3 (h.p2 g) (Nat.le_of_ble_eq_true rfl) (Nat.le_of_ble_eq_true rfl)
theorem on_p {w : Rat} {a : Nat} (h : On (LL * LL) (2 ^ a) w) (g : a <= 110) : SmR 290 180 w := On.sm V9 (h.p2 g) (Nat.le_of_ble_eq_true rfl) (Nat.le_of_ble_eq_true rfl)
structure Gs (cs : List (Rat × Rat)) : Prop where
  ne : 1 <= cs.length
  le : cs.length <= 60
  ri : RiseI cs
  sm : ∀ c ∈ cs, SmR 150 90 c.1 /\ SmR 1350 1250 c.2
structure Sh (c : Rat × Rat) (ps : List (Rat × Rat)) : Prop where
  srt : Srt ps
  le : ps.length <= 12
  c0 : 0 <= c.1
  nn : ∀ d ∈ bnd c ps, 0 <= d.2
  on : ∀ d ∈ bnd c ps, On LL (2 ^ 46) d.1 /\ On (LL * LL) (2 ^ 92) d.2
theorem Sh.gs {c : Rat × Rat} {ps : List (Rat × Rat)} (h : Sh c ps) : Gs (bnd c ps) :=
  ⟨by rw [C4]; omega, by rw [C4]; have := h.le; omega, K0 h.srt, fun d hd => ⟨on_w (h.on d hd).1 (by decide), (on_p (h.on d hd).2 (by decide)).mono (by decide) (by decide)⟩⟩
theorem B1l (c : Rat × Rat) (ps : List (Rat × Rat)) : (bnd c ps).headD (0, 0) = c := by cases ps <;> rfl
theorem E6 (c : Rat × Rat) (ps : List (Rat × Rat)) : c ∈ bnd c ps := List.mem_of_getElem? (C5 ps c)
def evD (cs : List (Rat × Rat)) (w : Rat) : PyData := if w < (cs.headD (0, 0)).1 then .none else dq (ev cs w)
theorem V2 {c : Rat × Rat} {ps : List (Rat × Rat)} {w : Rat} (h : c.1 <= w) : evD (bnd c ps) w = dq (ev (bnd c ps) w) := by
  unfold evD
  rw [B1l, if_neg (by grind)]
theorem R6 {cs : List (Rat × Rat)} {c : Rat × Rat} (h : cs[0]? = some c) : cs.headD (0, 0) = c := by
  cases cs with
  | nil => simp at h
  | cons a r => simpa using h
theorem Sh.sm {c : Rat × Rat} {ps : List (Rat × Rat)} (h : Sh c ps) {w : Rat} (hw : Wh w) (hc : c.1 <= w) : SmR 722 605 (ev (bnd c ps) w) := by
  have R := K0 (c := c) h.srt
  obtain ⟨m, _, hm, h1, h2⟩ := P3 w R
  have m0 : 1 <= m := by
    rcases Nat.eq_zero_or_pos m with z | z
    · have := h2 0 c (by omega) (C5 _ _); grind
    · exact z
  obtain ⟨a, ha⟩ : ∃ d, (bnd c ps)[m - 1]? = some d := ⟨_, List.getElem?_eq_getElem (by omega)⟩
  have oa := h.on a (List.mem_of_getElem? ha)
  by_cases hl : m = (bnd c ps).length
  · rw [O0 R (c := a) (by rw [<- hl]; exact ha) (h1 _ a (by omega) ha)]
    exact (on_p oa.2 (by decide)).mono (by decide) (by decide)
  · obtain ⟨b, hb⟩ : ∃ d, (bnd c ps)[m - 1 + 1]? = some d := ⟨_, List.getElem?_eq_getElem (by omega)⟩
    have ob := h.on b (List.mem_of_getElem? hb)
    have lt := (R _ a b ha hb).1
    rw [V1 R ha hb (h1 _ a (by omega) ha) (h2 _ b (by omega) hb)]
    have s1 : SmR 290 180 (a.2 - b.2) := on_p (On.sub2 V9 oa.2 ob.2 (Nat.le_refl _)) (by decide)
    have s2 : SmR 150 90 (b.1 - a.1) := on_w (On.sub2 F3 ob.1 oa.1 (Nat.le_refl _)) (by decide)
    have s3 : SmR 161 95 (w - a.1) := On.sm V8 (On.sub2 V8 hw ((T3 oa.1).p2 (by decide)) (Nat.le_refl _)) (Nat.le_of_ble_eq_true rfl) (Nat.le_of_ble_eq_true rfl)
    exact ((on_p oa.2 (by decide)).sub ((s1.div s2 (by grind)).mul s3)).mono (by decide) (by decide)
theorem A0y : ∀ {us vs : List Rat}, us.Pairwise (· < ·) -> vs.Pairwise (· < ·) -> (∀ z, z ∈ us ↔ z ∈ vs) -> us = vs
  | [], [], _, _, _ => rfl
  | [], v :: r, _, _, h => by have := (h v).mpr List.mem_cons_self; simp at this
  | u :: r, [], _, _, h => by have := (h u).mp List.mem_cons_self; simp at this
  | u :: r, v :: t, h1, h2, h => by
    obtain ⟨a1, a2⟩ := List.pairwise_cons.mp h1
    obtain ⟨b1, b2⟩ := List.pairwise_cons.mp h2
    have e : u = v := by
      rcases List.mem_cons.mp ((h u).mp List.mem_cons_self) with z | z
      · exact z
      · rcases List.mem_cons.mp ((h v).mpr List.mem_cons_self) with y | y
        · exact y.symm
        · have := b1 u z; have := a1 v y; grind
    subst e
    rw [A0y a2 b2 fun z => ⟨fun hz => ?_, fun hz => ?_⟩]
    · rcases List.mem_cons.mp ((h z).mp (List.mem_cons_of_mem _ hz)) with y | y
      · subst y; have := a1 z hz; grind
      · exact y
    · rcases List.mem_cons.mp ((h z).mpr (List.mem_cons_of_mem _ hz)) with y | y
      · subst y; have := b1 z hz; grind
      · exact y
theorem Mg.uniq {ps qs ms : List (Rat × Rat)} (h : Mg ps qs ms) : ∀ {ns}, Mg ps qs ns -> ms = ns := by
  induction h with
  | nl qs => intro ns g; cases g <;> rfl
  | nr ps => intro ns g; cases g <;> rfl
  | l e _ ih =>
    intro ns g
    cases g with
    | l _ g => rw [ih g]
    | r e2 _ => exfalso; grind
    | b e2 _ => exfalso; grind
  | r e _ ih =>
    intro ns g
    cases g with
    | l e2 _ => exfalso; grind
    | r _ g => rw [ih g]
    | b e2 _ => exfalso; grind
  | b e _ ih =>
    intro ns g
    cases g with
    | l e2 _ => exfalso; grind
    | r e2 _ => exfalso; grind
    | b _ g => rw [ih g]
def lst (c : Rat × Rat) : List (Rat × Rat) -> Rat × Rat
  | [] => c
  | p :: r => lst (c.1 + p.1, c.2 - p.2) r
theorem A0i : ∀ (l : List (Rat × Rat)) (c p : Rat × Rat), bnd c (l ++ [p]) = bnd c l ++ [((lst c l).1 + p.1, (lst c l).2 - p.2)]
  | [], c, p => rfl
  | q :: r, c, p => by
    show c :: bnd _ (r ++ [p]) = c :: (bnd _ r ++ _)
    rw [A0i r]; rfl
theorem A0e : ∀ (l : List (Rat × Rat)) (c p : Rat × Rat), lst c (l ++ [p]) = ((lst c l).1 + p.1, (lst c l).2 - p.2)
  | [], c, p => rfl
  | q :: r, c, p => A0e r _ p
theorem A2j : ∀ (l : List (Rat × Rat)) (c : Rat × Rat), lst c l ∈ bnd c l
  | [], c => by simp [lst, bnd]
  | q :: r, c => List.mem_cons_of_mem _ (A2j r _)
theorem B0k : PyData.tuple [.int 1, .int 3] = dq (Rat.divInt 1 3) := by
  have h : (Rat.divInt 1 3).num = 1 /\ (Rat.divInt 1 3).den = 3 := by decide +kernel
  unfold dq; rw [h.1, h.2]; rfl
structure MW (A B us ls rs : List Rat) : Prop where
  u : us.Pairwise (· < ·)
  l : ls.Pairwise (· < ·)
  r : rs.Pairwise (· < ·)
  ul : ∀ a ∈ us, ∀ b ∈ ls, a <= b
  ur : ∀ a ∈ us, ∀ b ∈ rs, a <= b
  mem : ∀ z, (z ∈ us \/ z ∈ ls \/ z ∈ rs) ↔ (z ∈ A \/ z ∈ B)
  le : us.length + (ls.length + rs.length) <= A.length + B.length
theorem MW.comm {A B us ls rs : List Rat} (h : MW A B us ls rs) : MW B A us rs ls :=
  ⟨h.u, h.r, h.l, h.ur, h.ul, fun z => by have := h.mem z; grind, by have := h.le; omega⟩
theorem MW.pick {A B us ls rs : List Rat} {x : Rat} (h : MW A B us (x :: ls) rs) (hx : ∀ y ∈ rs, x <= y) : (∀ a, us[us.length - 1]? = some a -> a = x -> MW A B us ls rs) /\ ((∀ a, us[us.length - 1]? = some a -> a ≠ x) -> MW A B (us ++ [x]) ls rs) := by
  obtain ⟨l1, l2⟩ := List.pairwise_cons.mp h.l
  have hle := h.le
  rw [List.length_cons] at hle
  refine ⟨fun a ha e => ⟨h.u, l2, h.r, fun a ha b hb => h.ul a ha b (List.mem_cons_of_mem _ hb), h.ur, fun z => ?_, by omega⟩, fun hn => ⟨?_, l2, h.r, fun a ha b hb => ?_, fun a ha b hb => ?_, fun z => ?_, by rw [List.length_append, List.length_singleton]; omega⟩⟩
  · rw [<- h.mem z]
    subst e
    have := List.mem_of_getElem? ha
    constructor
    · rintro (z | z | z)
      · exact .inl z
      · exact .inr (.inl (List.mem_cons_of_mem _ z))
      · exact .inr (.inr z)
    · rintro (z | z | z)
      · exact .inl z
      · rcases List.mem_cons.mp z with rfl | y
        · exact .inl this
        · exact .inr (.inl y)
      · exact .inr (.inr z)
  · refine List.pairwise_append.mpr ⟨h.u, List.pairwise_singleton _ _, fun a ha b hb => ?_⟩
    cases List.mem_singleton.mp hb
    have g := h.ul a ha x List.mem_cons_self
    obtain ⟨i, hi⟩ := List.mem_iff_getElem?.mp ha
    have hil := (List.getElem?_eq_some_iff.mp hi).1
    obtain ⟨z, hz⟩ : ∃ z, us[us.length - 1]? = some z := ⟨_, List.getElem?_eq_getElem (by omega)⟩
    have hzx := hn z hz
    have gz := h.ul z (List.mem_of_getElem? hz) x List.mem_cons_self
    rcases Nat.lt_or_ge i (us.length - 1) with y | y
    · have := Q6 h.u y hi hz; grind
    · have : i = us.length - 1 := by omega
      rw [this, hz] at hi
      have := Option.some.inj hi
      grind
  · rcases List.mem_append.mp ha with z | z
    · exact h.ul a z b (List.mem_cons_of_mem _ hb)
    · cases List.mem_singleton.mp z
      exact Rat.le_of_lt (l1 b hb)
  · rcases List.mem_append.mp ha with z | z
    · exact h.ur a z b hb
    · cases List.mem_singleton.mp z
      exact hx b hb
  · rw [<- h.mem z, List.mem_append, List.mem_singleton, List.mem_cons]
    grind
theorem A96 : ∀ {ps : List (Rat × Rat)} {c : Rat × Rat}, RiseI (bnd c ps) -> ((bnd c ps).map (·.1)).Pairwise (· < ·) := by
  intro ps c h
  refine List.pairwise_iff_getElem.mpr fun i j hi hj hij => ?_
  rw [List.length_map] at hi hj
  rw [List.getElem_map, List.getElem_map]
  exact h.lt hij (List.getElem?_eq_getElem hi) (List.getElem?_eq_getElem hj)
theorem hd {a b : PSt} {D : PEnds} {e : PEnv} (h : ∀ R, R = b -> pSeq a R D e) : pSeq a b D e := h b rfl
theorem A2s {pt : PTt} {pb R : PSt} {D : PEnds} {env : PEnv} (Iv : Nat -> PEnv -> Prop) (h0 : ∃ m, Iv m env) (h : ∀ m e, Iv m e -> pt e fun b e2 => if b = true then pb ⟨fun e3 => ∃ m', m' < m /\ Iv m' e3, D.rt, R D, fun e3 => ∃ m', m' < m /\ Iv m' e3⟩ e2 else R D e2) : pSeq (A3i pt pb) R D env := ⟨Iv, h0, h⟩
theorem B6n {pt : PTt} {a b : PSt} {D' : PEnds} {N : PEnv -> Prop} {e : PEnv} (P : PEnv -> Prop) (h2 : ∀ e', P e' -> b D' e') (h1 : ∀ R : PSt, (∀ e', P e' -> R D' e') -> pt e fun t e2 => if t = true then pSeq a R D' e2 else N e2) : pt e fun t e2 => if t = true then pSeq a b D' e2 else N e2 := h1 b h2
theorem N8 {a b : PSt} {D : PEnds} {e : PEnv} (P : PEnv -> Prop) (h1 : ∀ R : PSt, (∀ e', P e' -> R D e') -> pSeq a R D e) (h2 : ∀ e', P e' -> b D e') : pSeq a b D e := h1 b h2
theorem C0n {c1 c2 : Rat × Rat} {ps qs : List (Rat × Rat)} {us : List Rat} (h1 : Sh c1 ps) (h2 : Sh c2 qs) (pu : us.Pairwise (· < ·)) (mu : ∀ z, z ∈ us ↔ z ∈ (bnd c1 ps).map (·.1) \/ z ∈ (bnd c2 qs).map (·.1)) {f : Rat} (hf : f = if c1.1 < c2.1 then c2.1 else c1.1) : Bs c1 c2 ps qs f (us.filter fun u => !decide (u < f)) := by
  have f12 : c1.1 <= f /\ c2.1 <= f /\ (f = c1.1 \/ f = c2.1) := by rw [hf]; split <;> grind
  have inc : (us.filter fun u => !decide (u < f)).Pairwise (· < ·) := pu.sublist (List.filter_sublist)
  have mem : ∀ v, v ∈ us.filter (fun u => !decide (u < f)) ↔ v ∈ us /\ f <= v := fun v => by
    rw [List.mem_filter]
    have : (!decide (v < f)) = true ↔ f <= v := by simp [Rat.not_lt]
    rw [this]
  have fm : f ∈ us.filter fun u => !decide (u < f) := (mem f).mpr ⟨(mu f).mpr (by
    rcases f12.2.2 with e | e
    · exact .inl (List.mem_map.mpr ⟨c1, E6 _ _, e.symm⟩)
    · exact .inr (List.mem_map.mpr ⟨c2, E6 _ _, e.symm⟩)), Rat.le_refl⟩
  refine ⟨h1.srt, h2.srt, f12.1, f12.2.1, inc, fun v hv => ((mem v).mp hv).2, fun v hv => ?_, fun d hd g => ?_, ?_⟩
  · rcases (mu v).mp ((mem v).mp hv).1 with z | z <;> obtain ⟨d, hd, e⟩ := List.mem_map.mp z
    · exact .inl ⟨d, hd, e⟩
    · exact .inr ⟨d, hd, e⟩
  · refine (mem d.1).mpr ⟨(mu d.1).mpr ?_, g⟩
    exact hd.imp (fun h => List.mem_map.mpr ⟨d, h, rfl⟩) fun h => List.mem_map.mpr ⟨d, h, rfl⟩
  · obtain ⟨i, hi⟩ := List.mem_iff_getElem?.mp fm
    rcases Nat.eq_zero_or_pos i with z | z
    · rw [z] at hi; exact hi
    · exfalso
      obtain ⟨v, hv⟩ : ∃ v, (us.filter fun u => !decide (u < f))[0]? = some v := ⟨_, List.getElem?_eq_getElem (by have := (List.getElem?_eq_some_iff.mp hi).1; omega)⟩
      have := Q6 inc z hv hi
      have := ((mem v).mp (List.mem_of_getElem? hv)).2
      grind
def fst2 (c1 c2 : Rat × Rat) : Rat := if c1.1 < c2.1 then c2.1 else c1.1
theorem Bs.wh {c1 c2 : Rat × Rat} {ps qs : List (Rat × Rat)} {f : Rat} {vs : List Rat} (h1 : Sh c1 ps) (h2 : Sh c2 qs) (B : Bs c1 c2 ps qs f vs) {v : Rat} (hv : v ∈ vs) : On LL (2 ^ 46) v := by
  rcases B.of v hv with ⟨d, hd, rfl⟩ | ⟨d, hd, rfl⟩
  · exact (h1.on d hd).1
  · exact (h2.on d hd).1
theorem O1 {v : Rat} {a : Nat} (h : On LL (2 ^ a) v) (g : a <= 64) : Wh v := (T3 h).p2 g
def pcs : List (Rat × Rat) -> List (Rat × Rat)
  | c :: d :: r => (d.1 - c.1, c.2 - d.2) :: pcs (d :: r)
  | _ => []
theorem A2a : ∀ (ps : List (Rat × Rat)) (c : Rat × Rat), pcs (bnd c ps) = ps
  | [], c => rfl
  | p :: r, c => by
    obtain ⟨t, et⟩ : ∃ t, bnd (c.1 + p.1, c.2 - p.2) r = (c.1 + p.1, c.2 - p.2) :: t := by cases r <;> exact ⟨_, rfl⟩
    have h := A2a r (c.1 + p.1, c.2 - p.2)
    show pcs (c :: bnd (c.1 + p.1, c.2 - p.2) r) = _
    rw [et] at h ⊢
    show (c.1 + p.1 - c.1, c.2 - (c.2 - p.2)) :: pcs _ = _
    rw [h]
    congr 1
    ext <;> dsimp only <;> grind
theorem A19 : ∀ {cs : List (Rat × Rat)} {i : Nat} {c d : Rat × Rat}, cs[i]? = some c -> cs[i + 1]? = some d -> (pcs cs)[i]? = some (d.1 - c.1, c.2 - d.2)
  | [], i, c, d, h, _ => by simp at h
  | [a], i, c, d, _, h => by simp at h
  | a :: b :: r, 0, c, d, h1, h2 => by
    have e1 : a = c := by simpa using h1
    have e2 : b = d := by simpa using h2
    subst e1 e2; rfl
  | a :: b :: r, i + 1, c, d, h1, h2 => by
    show (pcs (b :: r))[i]? = _
    exact A19 (by simpa using h1) (by simpa using h2)
structure Pc (ps : List (Rat × Rat)) : Prop where
  srt : Srt ps
  le : ps.length <= 12
  on : ∀ p ∈ ps, On LL (2 ^ 47) p.1 /\ On (LL * LL) (2 ^ 93) p.2
theorem Sh.pc {c : Rat × Rat} {ps : List (Rat × Rat)} (h : Sh c ps) : Pc ps := by
  refine ⟨h.srt, h.le, fun p hp => ?_⟩
  obtain ⟨i, hi⟩ := List.mem_iff_getElem?.mp hp
  have hl := (List.getElem?_eq_some_iff.mp hi).1
  obtain ⟨a, ha⟩ : ∃ a, (bnd c ps)[i]? = some a := ⟨_, List.getElem?_eq_getElem (by rw [C4]; omega)⟩
  obtain ⟨b, hb⟩ : ∃ a, (bnd c ps)[i + 1]? = some a := ⟨_, List.getElem?_eq_getElem (by rw [C4]; omega)⟩
  have e := A19 ha hb
  rw [A2a, hi] at e
  cases e
  have oa := h.on a (List.mem_of_getElem? ha)
  have ob := h.on b (List.mem_of_getElem? hb)
  exact ⟨On.sub2 F3 ob.1 oa.1 (Nat.le_refl _), On.sub2 V9 oa.2 ob.2 (Nat.le_refl _)⟩
theorem B92 {p q : Rat × Rat} (hp : 0 < p.1) (hq : 0 < q.1) : (q.2 * p.1 < p.2 * q.1) ↔ sl q < sl p := by
  have a := K6 hp
  have b := K6 hq
  have m : 0 < p.1 * q.1 := Rat.mul_pos hp hq
  have e1 : q.2 * p.1 = sl q * (p.1 * q.1) := by rw [<- b]; grind
  have e2 : p.2 * q.1 = sl p * (p.1 * q.1) := by rw [<- a]; grind
  rw [e1, e2]
  constructor
  · intro h
    by_cases z : sl q < sl p
    · exact z
    · have := Rat.mul_le_mul_of_nonneg_right (show sl p <= sl q by grind) (Rat.le_of_lt m); grind
  · intro h; exact Rat.mul_lt_mul_of_pos_right h m
def PcE (p : Rat × Rat) : Prop := 0 < p.1 /\ 0 < p.2 /\ SmR 150 90 p.1 /\ SmR 290 180 p.2
theorem Pc.e {ps : List (Rat × Rat)} (h : Pc ps) {p : Rat × Rat} (hp : p ∈ ps) : PcE p := ⟨(h.srt.pos p hp).1, (h.srt.pos p hp).2, on_w (h.on p hp).1 (by decide), on_p (h.on p hp).2 (by decide)⟩
theorem R4 {p : Rat × Rat} {r : List (Rat × Rat)} (h : Pc (p :: r)) : Pc r := ⟨h.srt.2.2.2, by have := h.le; rw [List.length_cons] at this; omega, fun q hq => h.on q (List.mem_cons_of_mem _ hq)⟩
theorem B3l {A B : Nat} {C : Rat × Rat} : ∀ {l : List (Rat × Rat)} {a b : Nat}, On LL a C.1 -> On (LL * LL) b C.2 -> (∀ m ∈ l, On LL A m.1 /\ On (LL * LL) B m.2) -> ∀ d ∈ bnd C l, On LL (a + l.length * A) d.1 /\ On (LL * LL) (b + l.length * B) d.2 := by
  intro l
  induction l generalizing C with
  | nil =>
    intro a b ha hb _ d hd
    have : d = C := by simpa [bnd] using hd
    subst this
    exact ⟨ha.mono (by simp), hb.mono (by simp)⟩
  | cons p r ih =>
    intro a b ha hb hm d hd
    rcases List.mem_cons.mp (show d ∈ C :: bnd _ r from hd) with rfl | z
    · exact ⟨ha.mono (Nat.le_add_right _ _), hb.mono (Nat.le_add_right _ _)⟩
    · have hp := hm p List.mem_cons_self
      have := ih (C := (C.1 + p.1, C.2 - p.2)) (ha.add F3 hp.1) (hb.sub V9 hp.2) (fun m hm' => hm m (List.mem_cons_of_mem _ hm')) d z
      rw [List.length_cons]
      exact ⟨this.1.mono (by rw [Nat.add_mul]; omega), this.2.mono (by rw [Nat.add_mul]; omega)⟩
def jc (c1 c2 : Rat × Rat) (w : Rat) : Rat × Rat := (c1.1 + c2.1 + w, c1.2 + c2.2)
theorem B9p {c1 c2 : Rat × Rat} {w : Rat} {ms l : List (Rat × Rat)} (o1 : On LL (2 ^ 46) c1.1 /\ On (LL * LL) (2 ^ 92) c1.2) (o2 : On LL (2 ^ 46) c2.1 /\ On (LL * LL) (2 ^ 92) c2.2) (ow : On LL (2 ^ 41) w) (hm : ∀ m ∈ ms, On LL (2 ^ 48) m.1 /\ On (LL * LL) (2 ^ 94) m.2) (hl : ms.length <= 24) (sub : ∀ m ∈ l, m ∈ ms) (hl2 : l.length <= ms.length) : ∀ d ∈ bnd (jc c1 c2 w) l, On LL (2 ^ 56) d.1 /\ On (LL * LL) (2 ^ 100) d.2 := by
  intro d hd
  have a1 : On LL (2 ^ 48) (jc c1 c2 w).1 := On.add2 F3 (On.add2 F3 o1.1 o2.1 (Nat.le_refl _)) (ow.p2 (by decide)) (Nat.le_refl _)
  have a2 : On (LL * LL) (2 ^ 93) (jc c1 c2 w).2 := On.add2 V9 o1.2 o2.2 (Nat.le_refl _)
  have := B3l a1 a2 (fun m h => hm m (sub m h)) d hd
  refine ⟨this.1.mono ?_, this.2.mono ?_⟩
  · have := Nat.mul_le_mul_right (2 ^ 48) (show l.length <= 24 by omega)
    exact Nat.le_trans (Nat.add_le_add_left this _) (Nat.le_of_ble_eq_true rfl)
  · have := Nat.mul_le_mul_right (2 ^ 94) (show l.length <= 24 by omega)
    exact Nat.le_trans (Nat.add_le_add_left this _) (Nat.le_of_ble_eq_true rfl)
def sum2 : List (Rat × Rat) -> Rat
  | [] => 0
  | z :: r => z.2 + sum2 r
theorem Z1 : ∀ (l m : List (Rat × Rat)), sum2 (l ++ m) = sum2 l + sum2 m
  | [], m => by show sum2 m = 0 + sum2 m; grind
  | z :: r, m => by show z.2 + sum2 (r ++ m) = z.2 + sum2 r + sum2 m; rw [Z1 r m]; grind
theorem A2y : ∀ l : List (Rat × Rat), sum2 l.reverse = sum2 l
  | [] => rfl
  | z :: r => by rw [List.reverse_cons, Z1, A2y r]; show sum2 r + (z.2 + 0) = z.2 + sum2 r; grind
theorem A5u : ∀ {l : List (Rat × Rat)}, (∀ z ∈ l, 0 <= z.2) -> 0 <= sum2 l
  | [], _ => Rat.le_refl
  | z :: r, h => by
    have := h z List.mem_cons_self
    have := A5u fun y hy => h y (List.mem_cons_of_mem _ hy)
    show 0 <= z.2 + sum2 r; grind
theorem A8e : ∀ {l : List (Rat × Rat)} {C : Rat × Rat}, (∀ z ∈ l, 0 <= z.2) -> ∀ d ∈ bnd C l, C.2 - sum2 l <= d.2
  | [], C, _, d, hd => by
    have : d = C := by simpa [bnd] using hd
    subst this; show d.2 - 0 <= d.2; grind
  | z :: r, C, h, d, hd => by
    have hz := h z List.mem_cons_self
    have s0 : 0 <= sum2 r := A5u fun y hy => h y (List.mem_cons_of_mem _ hy)
    show C.2 - (z.2 + sum2 r) <= d.2
    rcases List.mem_cons.mp (show d ∈ C :: bnd _ r from hd) with rfl | y
    · grind
    · have : C.2 - z.2 - sum2 r <= d.2 := A8e (C := (C.1 + z.1, C.2 - z.2)) (fun y hy => h y (List.mem_cons_of_mem _ hy)) d y
      grind
theorem B1v : ∀ {l : List (Rat × Rat)}, (∀ z ∈ l, 0 < z.1 /\ 0 < z.2) -> l.Pairwise (fun a b => sl b < sl a) -> Srt l
  | [], _, _ => True.intro
  | z :: r, h, p => ⟨(h z List.mem_cons_self).1, (h z List.mem_cons_self).2, (List.pairwise_cons.mp p).1, B1v (fun y hy => h y (List.mem_cons_of_mem _ hy)) (List.pairwise_cons.mp p).2⟩
def pz (f g : Rat) : Rat × Rat := (g, f * g)
theorem B4w {fs gs : List Rat} {f g : Rat} (h : gs[fs.length]? = some g) : List.zipWith pz (fs ++ [f]) gs = List.zipWith pz fs gs ++ [pz f g] := by
  induction fs generalizing gs with
  | nil =>
    cases gs with
    | nil => simp at h
    | cons a r => have : a = g := by simpa using h
                  subst this; simp
  | cons a r ih =>
    cases gs with
    | nil => simp at h
    | cons b t =>
      rw [List.cons_append, List.zipWith_cons_cons, List.zipWith_cons_cons, List.cons_append, ih (by simpa using h)]
theorem B60 {f g : Rat} (h : 0 < g) : sl (pz f g) = f := Rat.mul_div_cancel (by grind)
theorem B3k {q : Rat} (h : 0 <= q) : ¬ q.num < 0 := by have := Rat.num_nonneg.mpr h; omega
theorem B9g {cs : List (Rat × Rat)} (h : 1 <= cs.length) : PyData.eqv (.list (cs.map dcn)) (.list []) = false := by
  cases cs with
  | nil => simp at h
  | cons c r => rfl
theorem B56 {c : Rat × Rat} {Q : SV -> Prop} : A2d [dcn c] Q = Q (.d (.int 2)) := rfl
theorem B9o {p q : Rat} {Q : SV -> Prop} : B01 (dq p) (dq q) Q = (1 + 1 <= 1000 /\ Q (.d (.tuple [.int p.num, .int p.den, .int q.num, .int q.den]))) := rfl
theorem B43 {ms : List Rat} {i : Nat} (h : i < ms.length) : ∃ m ∈ ms, L2.atI (ms.map dq) ((i : Int) - 1) = some (dq m) := by
  rcases Nat.eq_zero_or_pos i with z | z
  · subst z
    obtain ⟨m, hm⟩ : ∃ m, ms[ms.length - 1]? = some m := ⟨_, List.getElem?_eq_getElem (by omega)⟩
    refine ⟨m, List.mem_of_getElem? hm, ?_⟩
    have e : L2.atI (ms.map dq) (-1) = some (dq m) := by
      unfold L2.atI ixN
      rw [List.length_map]
      rw [if_neg (by decide), if_pos (by omega), show (-1 + (ms.length : Int)).toNat = ms.length - 1 by omega]
      show (ms.map dq)[ms.length - 1]? = _
      rw [List.getElem?_map, hm]; rfl
    exact e
  · obtain ⟨m, hm⟩ : ∃ m, ms[i - 1]? = some m := ⟨_, List.getElem?_eq_getElem (by omega)⟩
    refine ⟨m, List.mem_of_getElem? hm, ?_⟩
    rw [show (i : Int) - 1 = ((i - 1 : Nat) : Int) by omega]
    exact M8 (by rw [List.getElem?_map, hm]; rfl)
def Wp (w : Rat) : Prop := On (LL * 6) (2 ^ 60) w
theorem Wp.h {w : Rat} (h : Wp w) : Wh w := h.p2 (by decide)
theorem B0g {m : Rat} (h : On LL (2 ^ 56) m) : Wp (m + Rat.divInt 1 3) := by
  have t : On (LL * 6) (2 ^ 56) (Rat.divInt 1 3) := by
    refine On.mono (k := 1) ⟨(LL * 2 : Nat), ?_, by decide⟩ (by decide)
    rw [Rat.divInt_eq_divInt_iff (by decide) (by decide)]; decide
  exact (On.add2 V8 (T3 h) t (Nat.le_refl _)).p2 (by decide)
theorem B4c {a b : Rat} (h : On LL (2 ^ 56) a) (g : On LL (2 ^ 56) b) : Wp ((a + b) * Rat.divInt 1 2) := by
  have s := On.add2 F3 h g (Nat.le_refl _)
  have t : On 6 1 (Rat.divInt 1 2) := by
    refine ⟨3, ?_, by decide⟩
    rw [Rat.divInt_eq_divInt_iff (by decide) (by decide)]; decide
  exact (On.mul F3 (by decide) s t).mono (by decide)
theorem B9z {v : Rat} {a : Nat} (h : On LL (2 ^ a) v) (g : a <= 60) : Wp v := (T3 h).p2 g
theorem Sh.nn0 {c : Rat × Rat} {ps : List (Rat × Rat)} (h : Sh c ps) {w : Rat} (hc : c.1 <= w) : 0 <= ev (bnd c ps) w := by
  have R := K0 (c := c) h.srt
  obtain ⟨m, _, hm, h1, h2⟩ := P3 w R
  have m0 : 1 <= m := by
    rcases Nat.eq_zero_or_pos m with z | z
    · have := h2 0 c (by omega) (C5 _ _); grind
    · exact z
  obtain ⟨a, ha⟩ : ∃ d, (bnd c ps)[m - 1]? = some d := ⟨_, List.getElem?_eq_getElem (by omega)⟩
  have na := h.nn a (List.mem_of_getElem? ha)
  by_cases hl : m = (bnd c ps).length
  · rw [O0 R (c := a) (by rw [<- hl]; exact ha) (h1 _ a (by omega) ha)]; exact na
  · obtain ⟨b, hb⟩ : ∃ d, (bnd c ps)[m - 1 + 1]? = some d := ⟨_, List.getElem?_eq_getElem (by omega)⟩
    have nb := h.nn b (List.mem_of_getElem? hb)
    have lt := R _ a b ha hb
    have l1 := h1 _ a (by omega) ha
    have l2 := h2 _ b (by omega) hb
    rw [V1 R ha hb l1 l2]
    have e : fl a b * (b.1 - a.1) = a.2 - b.2 := Rat.div_mul_cancel (by grind)
    have f0 : 0 <= fl a b := Rat.le_of_lt (Q2 (p := (b.1 - a.1, a.2 - b.2)) (by show 0 < b.1 - a.1; grind) (by show 0 < a.2 - b.2; grind))
    have := Rat.mul_le_mul_of_nonneg_left (show w - a.1 <= b.1 - a.1 by grind) f0
    grind
theorem Bs.gs {c1 c2 : Rat × Rat} {ps qs : List (Rat × Rat)} {f : Rat} {vs : List Rat} (h1 : Sh c1 ps) (h2 : Sh c2 qs) (B : Bs c1 c2 ps qs f vs) (hl : vs.length <= 26) : Gs (bsL c1 c2 ps qs vs) /\ ∀ d ∈ bsL c1 c2 ps qs vs, 0 <= d.1 /\ 0 <= d.2 := by
  have key : ∀ d ∈ bsL c1 c2 ps qs vs, On LL (2 ^ 46) d.1 /\ c1.1 <= d.1 /\ c2.1 <= d.1 /\ d.2 = Prf.ev (bnd c1 ps) d.1 + Prf.ev (bnd c2 qs) d.1 := fun d hd => by
    obtain ⟨v, hv, rfl⟩ := List.mem_map.mp hd
    have := B.ge v hv
    have := B.f1
    have := B.f2
    exact ⟨B.wh h1 h2 hv, by dsimp only; grind, by dsimp only; grind, rfl⟩
  have le : (bsL c1 c2 ps qs vs).length = vs.length := by unfold bsL; rw [List.length_map]
  refine ⟨⟨by rw [le]; exact (List.getElem?_eq_some_iff.mp B.h0).1, by omega, B.rise, fun d hd => ?_⟩, fun d hd => ?_⟩
  · obtain ⟨k1, k2, k3, k4⟩ := key d hd
    have w := O1 k1 (by decide)
    refine ⟨on_w k1 (by decide), ?_⟩
    rw [k4]
    exact ((h1.sm w k2).add (h2.sm w k3)).mono (by decide) (by decide)
  · obtain ⟨k1, k2, k3, k4⟩ := key d hd
    have := h1.nn0 k2
    have := h2.nn0 k3
    have := h1.c0
    rw [k4]
    constructor <;> grind
theorem B6d (c1 c2 : Rat × Rat) : c1.1 <= fst2 c1 c2 /\ c2.1 <= fst2 c1 c2 := by unfold fst2; split <;> grind
theorem Wh.q {w : Rat} (h : Wh w) : SmQ 3900 w := h.sm.q (by decide) (by decide)
theorem Wh.p {w : Rat} (h : Wh w) : SmR 162 95 w := h.sm.mono (by decide) (by decide)
theorem Cv.low {c1 c2 : Rat × Rat} {ps qs ms : List (Rat × Rat)} (C : Cv ps qs ms) {m r : Rat} (h1 : c1.1 <= m) (h2 : c2.1 <= r - m) : c1.2 + c2.2 - Dw ms (r - c1.1 - c2.1) <= ev (bnd c1 ps) m + ev (bnd c2 qs) (r - m) := by
  have := C.1 (m - c1.1) (r - m - c2.1) (by grind) (by grind)
  rw [E9, E9, show r - c1.1 - c2.1 = m - c1.1 + (r - m - c2.1) by grind]; grind
theorem Cv.hit {c1 c2 : Rat × Rat} {ps qs ms : List (Rat × Rat)} (C : Cv ps qs ms) {r : Rat} (h : c1.1 + c2.1 <= r) : ∃ m, c1.1 <= m /\ c2.1 <= r - m /\ ev (bnd c1 ps) m + ev (bnd c2 qs) (r - m) = c1.2 + c2.2 - Dw ms (r - c1.1 - c2.1) /\ m ∈ (bnd c1 ps).map (·.1) ++ (bnd c2 qs).map fun d => r - d.1 := by
  obtain ⟨a, b, ha, hb, e, f, o⟩ := C.2 (r - c1.1 - c2.1) (by grind)
  refine ⟨c1.1 + a, by grind, by grind, ?_, ?_⟩
  · rw [E9, E9, show c1.1 + a - c1.1 = a by grind, show r - (c1.1 + a) - c2.1 = b by grind]; grind
  · rcases o with o | o
    · obtain ⟨d, hd, e2⟩ := U5 (c := c1) o
      exact List.mem_append_left _ (List.mem_map.mpr ⟨d, hd, e2⟩)
    · obtain ⟨d, hd, e2⟩ := U5 (c := c2) o
      exact List.mem_append_right _ (List.mem_map.mpr ⟨d, hd, by show r - d.1 = _; rw [e2]; grind⟩)
theorem Mg.nn {c1 c2 : Rat × Rat} {ps qs ms : List (Rat × Rat)} {w : Rat} (h1 : Sh c1 ps) (h2 : Sh c2 qs) (M : Mg ps qs ms) (w0 : 0 <= w) : ∀ d ∈ bnd (jc c1 c2 w) ms, 0 <= d.1 /\ 0 <= d.2 := by
  intro d hd
  have s := M.srt h1.srt h2.srt
  have C := M.cv h1.srt h2.srt
  have x0 := A2g s _ (A2i hd)
  have e := A95 s hd
  rw [E9] at e
  have z1 := h1.c0
  have z2 := h2.c0
  have j1 : (jc c1 c2 w).1 = c1.1 + c2.1 + w := rfl
  have j2 : (jc c1 c2 w).2 = c1.2 + c2.2 := rfl
  obtain ⟨a, b, ha, hb, _, f, _⟩ := C.2 _ x0
  have n1 := h1.nn0 (w := c1.1 + a) (by grind)
  have n2 := h2.nn0 (w := c2.1 + b) (by grind)
  rw [E9, show c1.1 + a - c1.1 = a by grind] at n1
  rw [E9, show c2.1 + b - c2.1 = b by grind] at n2
  constructor
  · grind
  · rw [e, <- f, j2]; grind
abbrev t3 (a a1 a2 a3 : Addr) (A B C : List PyData) : OT := .nd true a (.cons (.nd true a1 (B9 A)) (.cons (.nd true a2 (B9 B)) (.cons (.nd true a3 (B9 C)) .nil)))
def scl (s t : Rat) (cs : List (Rat × Rat)) : List (Rat × Rat) := cs.map fun d => (s * d.1, t * d.2)
theorem Sh.tail {c p : Rat × Rat} {r : List (Rat × Rat)} (h : Sh c (p :: r)) : Sh (c.1 + p.1, c.2 - p.2) r :=
  ⟨h.srt.2.2.2, by have := h.le; rw [List.length_cons] at this; omega, by have := h.c0; have := h.srt.1; show 0 <= c.1 + p.1; grind, fun d hd => h.nn d (List.mem_cons_of_mem _ hd), fun d hd => h.on d (List.mem_cons_of_mem _ hd)⟩
theorem Sh.drop : ∀ {n : Nat} {c : Rat × Rat} {ps : List (Rat × Rat)}, Sh c ps -> n < (bnd c ps).length -> ∃ c' qs, (bnd c ps).drop n = bnd c' qs /\ Sh c' qs
  | 0, c, ps, h, _ => ⟨c, ps, rfl, h⟩
  | n + 1, c, [], h, hn => by simp [bnd] at hn
  | n + 1, c, p :: r, h, hn => by
    obtain ⟨c', qs, e, h'⟩ := Sh.drop (n := n) h.tail (by simpa [bnd] using hn)
    exact ⟨c', qs, by show (c :: bnd _ r).drop (n + 1) = _; rw [List.drop_succ_cons]; exact e, h'⟩
theorem B15 {q : Rat} (h : SmR 1900 1900 q) : Pln (dq q) = true := by
  have h1 : q.num.natAbs < 2 ^ 1900 := h.1
  have h2 : ((q.den : Int)).natAbs < 2 ^ 1900 := h.2
  show (decide (q.num.natAbs < 2 ^ 1900) && (decide (((q.den : Int)).natAbs < 2 ^ 1900) && true)) = true
  rw [decide_eq_true h1, decide_eq_true h2]; rfl
theorem Z8 : ∀ {cs : List (Rat × Rat)}, (∀ c ∈ cs, SmR 1900 1900 c.1 /\ SmR 1900 1900 c.2) -> PlnA (cs.map dcn) = true /\ szA (cs.map dcn) <= 8066 * cs.length
  | [], _ => ⟨rfl, Nat.zero_le _⟩
  | c :: r, h => by
    obtain ⟨a, b⟩ := Z8 fun x hx => h x (List.mem_cons_of_mem _ hx)
    have hc := h c List.mem_cons_self
    refine ⟨?_, ?_⟩
    · show ((Pln (dq c.1) && (Pln (dq c.2) && true)) && PlnA (r.map dcn)) = true
      rw [B15 hc.1, B15 hc.2, a]; rfl
    · show 8064 + 2 + szA (r.map dcn) <= 8066 * (r.length + 1)
      omega
def D3 (A B C : List (Rat × Rat)) : PyData := .list [.list (A.map dcn), .list (B.map dcn), .list (C.map dcn)]
theorem B94 {A B C : List (Rat × Rat)} (hA : ∀ c ∈ A, SmR 1900 1900 c.1 /\ SmR 1900 1900 c.2) (hB : ∀ c ∈ B, SmR 1900 1900 c.1 /\ SmR 1900 1900 c.2) (hC : ∀ c ∈ C, SmR 1900 1900 c.1 /\ SmR 1900 1900 c.2) (lA : A.length <= 30) (lB : B.length <= 30) (lC : C.length <= 30) : A5x (D3 A B C) /\ PyData.strOk (D3 A B C).shown = true := by
  obtain ⟨a1, a2⟩ := Z8 hA
  obtain ⟨b1, b2⟩ := Z8 hB
  obtain ⟨c1, c2⟩ := Z8 hC
  have P : Pln (D3 A B C) = true := by
    show (PlnA (A.map dcn) && (PlnA (B.map dcn) && (PlnA (C.map dcn) && true))) = true
    rw [a1, b1, c1]; rfl
  obtain ⟨x1, x2, x3, x4⟩ := A6f _ P
  have sz : szD (D3 A B C) = 4 + (4 + szA (A.map dcn) + 2 + (4 + szA (B.map dcn) + 2 + (4 + szA (C.map dcn) + 2 + 0))) := rfl
  have d1 := J6 A
  have d2 := J6 B
  have d3 := J6 C
  have := B09
  refine ⟨⟨.inl ⟨x1, x2, x3⟩, ?_, by omega⟩, B1w _ P⟩
  show max (PyData.depthAll (A.map dcn) + 1) (max (PyData.depthAll (B.map dcn) + 1) (max (PyData.depthAll (C.map dcn) + 1) 0)) + 1 <= 60
  omega
theorem B4m {j : Int} (h : j <= 63) : stepN 0 j 2 <= 32 := by unfold stepN; split <;> omega
theorem Bs.uniq {c1 c2 : Rat × Rat} {ps qs : List (Rat × Rat)} {f : Rat} {vs us : List Rat} (A : Bs c1 c2 ps qs f vs) (B : Bs c1 c2 ps qs f us) : vs = us := by
  refine A0y A.inc B.inc fun z => ⟨fun h => ?_, fun h => ?_⟩
  · have g := A.ge z h
    rcases A.of z h with ⟨d, hd, rfl⟩ | ⟨d, hd, rfl⟩
    · exact B.to d (.inl hd) g
    · exact B.to d (.inr hd) g
  · have g := B.ge z h
    rcases B.of z h with ⟨d, hd, rfl⟩ | ⟨d, hd, rfl⟩
    · exact A.to d (.inl hd) g
    · exact A.to d (.inr hd) g
theorem A1z (A B : List (Rat × Rat)) : (PyData.list [.list (A.map dcn), .list (B.map dcn)]).canLay0 = true := by
  show ((PyData.list (A.map dcn)).canLay0 && ((PyData.list (B.map dcn)).canLay0 && true)) = true
  rw [Y1, Y1]; rfl
theorem B4e (A B : List (Rat × Rat)) : (PyData.list [.list (A.map dcn), .list (B.map dcn)]).depth <= 60 := by
  have d1 := J6 A
  have d2 := J6 B
  show max (PyData.depthAll (A.map dcn) + 1) (max (PyData.depthAll (B.map dcn) + 1) 0) + 1 <= 60
  omega
theorem B1t {a a1 a2 a3 : Addr} {A B C : List (Rat × Rat)} : (t3 a a1 a2 a3 (A.map dcn) (B.map dcn) (C.map dcn)).dat = [D3 A B C] := by
  show [PyData.list ([PyData.list (B9 (A.map dcn)).dat] ++ ([PyData.list (B9 (B.map dcn)).dat] ++ ([PyData.list (B9 (C.map dcn)).dat] ++ [])))] = _
  rw [F8, F8, F8]; rfl
section
variable {P : Program} {w : World} {K : PySem.W.Frag} {mg : Str -> Option Value} {base : Heap} {D : Adr}
theorem G9 (T : Txt K mg D) : FnOk P w K mg base CX0 1 D.a_commonpart D.d_commonpart ["one", "other"] (Pu.spOf K [.dat, .dat] B7i) := by
  refine T.F_commonpart.ok sc_commonpart (Pu.spOf.len rfl) (fun cdv A outer s H vs Q E hr h => ?_)
  refine ⟨_, (QSs.out (A6 (K3 (i := 0) (j := 1) rfl sc_commonpart.nd rfl rfl (by decide) rfl rfl (A0 (B7 A1n (by rfl) T.z_abs (by rfl) (A0 (qpv 0) A1)) (A0 (B7 A1n (by rfl) T.z_abs (by rfl) (A0 (qpv 1) A1)) A1)) rfl)
      (A6 (O3 PassesOwn.never (B6 (J5 (K := K) rfl hr.units) (qpv 1) A2 (C2 _))
        (B0 (K3 (i := 0) (j := 1) rfl sc_commonpart.nd rfl rfl (by decide) rfl rfl (A0 (qpv 1) (A0 (B5 Q4 (qpv 0) (qpv 1)) A1)) rfl)))
      (B0 (B4 (qpv 0)))))), ?_⟩
  refine Pu.E5 h ?_
  rintro as Qp ⟨a, b, rfl, k⟩
  trivial
  refine ⟨fun m e => ∃ x y : Int, e = [some (.d (.int x)), some (.d (.int y))] /\ 0 <= x /\ 0 <= y /\ m = y.toNat /\ Int.gcd x y = Int.gcd a b, ⟨_, _, _, rfl, by split <;> omega, by split <;> omega, rfl, B6c a b⟩, ?_⟩
  rintro m e ⟨x, y, rfl, hx, hy, rfl, hg⟩
  trivial
  refine ite2 (fun e => ?_) (fun hn => ?_)
  · subst e
    have := A4g x hx
    rw [hg] at this
    rw [<- this]; exact k
  · have h1 := Int.emod_lt_of_pos x (show 0 < y by omega)
    have h2 := Int.emod_nonneg x hn
    exact ⟨by omega, (x % y).toNat, by omega, y, x % y, rfl, hy, h2, rfl, by rw [A9k, hg]⟩
theorem L6 (T : Txt K mg D) : FnOk P w K mg base CX0 2 D.a_plus D.d_plus ["one", "other"] (Pu.spOf K [.dat, .dat] (X6 (·+·))) := by
  refine T.F_plus.ok sc_plus (Pu.spOf.len rfl) (fun cdv A outer s H vs Q E hr h => ?_)
  refine ⟨_, (QSs.out (A6 (B3 (i := 2) sc_plus.nd rfl (Or.inl rfl) (A5 (G9 (K := K) T) hr.mo rfl T.m_commonpart T.F_commonpart.kp (K1 T) .nil B1 (A0 (A7 (A4 (K := K) rfl) (qpv 0) A2 (fun _ _ => rfl)) (A0 (A7 (A4 (K := K) rfl) (qpv 1) A2 (fun _ _ => rfl)) A1))))
      (A6 (K3 (i := 3) (j := 4) rfl sc_plus.nd rfl rfl (by decide) rfl rfl (A0 (B5 F2 (A7 (A4 (K := K) rfl) (qpv 0) A2 (fun _ _ => rfl)) (qpv 2)) (A0 (B5 F2 (A7 (A4 (K := K) rfl) (qpv 1) A2 (fun _ _ => rfl)) (qpv 2)) A1)) rfl)
      (A6 (B3 (i := 5) sc_plus.nd rfl (Or.inl rfl) (B5 G3 (B5 C8 (A7 (A4 (K := K) rfl) (qpv 0) A2 (fun _ _ => rfl)) (qpv 4)) (B5 C8 (A7 (A4 (K := K) rfl) (qpv 1) A2 (fun _ _ => rfl)) (qpv 3))))
      (A6 (B3 (i := 6) sc_plus.nd rfl (Or.inl rfl) (A5 (G9 (K := K) T) hr.mo rfl T.m_commonpart T.F_commonpart.kp (K1 T) .nil B1 (A0 (qpv 5) (A0 (qpv 2) A1))))
      (B0 (B4 (D5 (A0 (B5 F2 (qpv 5) (qpv 6)) (A0 (B5 C8 (qpv 3) (B5 F2 (A7 (A4 (K := K) rfl) (qpv 1) A2 (fun _ _ => rfl)) (qpv 6))) A1)))))))))), ?_⟩
  refine Pu.E5 h ?_
  rintro as Qp ⟨p, q, rfl, sp, sq, k⟩
  trivial
  refine ⟨_, _, rfl, ?_⟩
  trivial
  have p2 := sp.2.mono (l := 8000) (by decide)
  have q2 := sq.2.mono (l := 8000) (by decide)
  have g0 := Q0 (t := (p.den : Int)) q
  have gs := A0m (t := (p.den : Int)) q2 (den0 q)
  have gn : (0 : Int) <= ((Int.gcd (p.den : Int) (q.den : Int) : Nat) : Int) := Int.natCast_nonneg _
  refine ⟨⟨g0, gs⟩, ⟨g0, gs⟩, ⟨sp.1.mono (by decide), A1c q2 gn⟩, ⟨sq.1.mono (by decide), A1c p2 gn⟩, _, _, rfl, ?_⟩
  trivial
  refine ⟨⟨A4h g0, A0m gs g0⟩, ⟨A4h g0, A0m gs g0⟩, ⟨A1c p2 gn, A1c q2 (Int.natCast_nonneg _)⟩, ?_⟩
  obtain ⟨e1, e2⟩ := B46 p q _ _ rfl rfl
  rw [e1, e2]; exact k
theorem N1 (T : Txt K mg D) : FnOk P w K mg base CX0 3 D.a_minus D.d_minus ["one", "other"] (Pu.spOf K [.dat, .dat] (X6 (·-·))) := by
  refine T.F_minus.ok sc_minus (Pu.spOf.len rfl) (fun cdv A outer s H vs Q E hr h => ?_)
  refine ⟨_, (QSs.out (B0 (B4 (A5 (L6 (K := K) T) hr.mo rfl T.m_plus T.F_plus.kp (O8 T) .nil B1 (A0 (qpv 0) (A0 (D5 (A0 (X4 W9 (A7 (A4 (K := K) rfl) (qpv 1) A2 (fun _ _ => rfl))) (A0 (A7 (A4 (K := K) rfl) (qpv 1) A2 (fun _ _ => rfl)) A1))) A1)))))), ?_⟩
  refine Pu.E5 h ?_
  rintro as Qp ⟨p, q, rfl, sp, sq, k⟩
  trivial
  rw [B9i]
  refine ⟨_, _, rfl, sp, ⟨by have := sq.1; unfold Sm at *; show (-q.num).natAbs < _; omega, sq.2⟩, ?_⟩
  show Qp (.d (dq (p + -q)))
  rw [<- Rat.sub_eq_add_neg]; exact k
theorem J1 (T : Txt K mg D) : FnOk P w K mg base CX0 2 D.a_product D.d_product ["one", "other"] (Pu.spOf K [.dat, .dat] (X6 (·*·))) := by
  refine T.F_product.ok sc_product (Pu.spOf.len rfl) (fun cdv A outer s H vs Q E hr h => ?_)
  refine ⟨_, (QSs.out (A6 (K3 (i := 2) (j := 3) rfl sc_product.nd rfl rfl (by decide) rfl rfl (A0 (A5 (G9 (K := K) T) hr.mo rfl T.m_commonpart T.F_commonpart.kp (K1 T) .nil B1 (A0 (A7 (A4 (K := K) rfl) (qpv 0) A2 (fun _ _ => rfl)) (A0 (A7 (A4 (K := K) rfl) (qpv 1) A2 (fun _ _ => rfl)) A1))) (A0 (A5 (G9 (K := K) T) hr.mo rfl T.m_commonpart T.F_commonpart.kp (K1 T) .nil B1 (A0 (A7 (A4 (K := K) rfl) (qpv 1) A2 (fun _ _ => rfl)) (A0 (A7 (A4 (K := K) rfl) (qpv 0) A2 (fun _ _ => rfl)) A1))) A1)) rfl)
      (B0 (B4 (D5 (A0 (B5 C8 (B5 F2 (A7 (A4 (K := K) rfl) (qpv 0) A2 (fun _ _ => rfl)) (qpv 2)) (B5 F2 (A7 (A4 (K := K) rfl) (qpv 1) A2 (fun _ _ => rfl)) (qpv 3))) (A0 (B5 C8 (B5 F2 (A7 (A4 (K := K) rfl) (qpv 0) A2 (fun _ _ => rfl)) (qpv 3)) (B5 F2 (A7 (A4 (K := K) rfl) (qpv 1) A2 (fun _ _ => rfl)) (qpv 2))) A1))))))), ?_⟩
  refine Pu.E5 h ?_
  rintro as Qp ⟨p, q, rfl, sp, sq, k⟩
  trivial
  refine ⟨_, _, rfl, ?_⟩
  trivial
  refine ⟨_, _, rfl, ?_⟩
  trivial
  have p1 := sp.1.mono (l := 8000) (by decide)
  have q1 := sq.1.mono (l := 8000) (by decide)
  have p2 := sp.2.mono (l := 8000) (by decide)
  have q2 := sq.2.mono (l := 8000) (by decide)
  have g0 := Q0 (t := p.num) q
  have gs := A0m (t := p.num) q2 (den0 q)
  have h0 := Q0 (t := q.num) p
  have hs := A0m (t := q.num) p2 (den0 p)
  refine ⟨⟨g0, gs⟩, ⟨h0, hs⟩, ⟨A1c p1 (Int.natCast_nonneg _), A1c q1 (Int.natCast_nonneg _)⟩, ⟨h0, hs⟩, ⟨g0, gs⟩, ⟨A1c p2 (Int.natCast_nonneg _), A1c q2 (Int.natCast_nonneg _)⟩, ?_⟩
  rw [B8x, B8y]; exact k
theorem A7h (T : Txt K mg D) : FnOk P w K mg base CX0 3 D.a_parted D.d_parted ["one", "other"] (Pu.spOf K [.dat, .dat] A56) := by
  refine T.F_parted.ok sc_parted (Pu.spOf.len rfl) (fun cdv A outer s H vs Q E hr h => ?_)
  refine ⟨_, (QSs.out (A6 (B4s (qpv 1) (O5 (K := K) (n := 2) rfl rfl (E8 (B8 (i := 2) sc_parted.nd rfl (Or.inl rfl) (Or.inl rfl)) (E8 (B8 (i := 3) sc_parted.nd rfl (Or.inl rfl) (Or.inl rfl)) O4)) rfl rfl))
      (A6 (D2 (B6 (K4 (K := K) rfl hr.units) (qpv 2) A2 (C2 _))
        (B0 A50)
        C0)
      (B0 (B4 (A5 (J1 (K := K) T) hr.mo rfl T.m_product T.F_product.kp (L3 T) .nil B1 (A0 (qpv 0) (A0 (S5 (B6 A0d (qpv 2) A2 (C2 _)) (D5 (A0 (qpv 3) (A0 (qpv 2) A1))) (D5 (A0 (X4 W9 (qpv 3)) (A0 (X4 W9 (qpv 2)) A1)))) A1)))))))), ?_⟩
  refine Pu.E5 h ?_
  rintro as Qp ⟨p, q, rfl, sp, sq, hq, k⟩
  trivial
  rw [if_neg (A8c hq)]
  have e := A9e hq
  have kk : Qp (.d (dq (p * q⁻¹))) := by rw [<- Rat.div_def]; exact k
  refine ite2 (fun h => ?_) (fun h => ?_)
  · rw [if_pos h, if_pos h] at e
    trivial
    rw [<- e]
    exact ⟨_, _, rfl, sp, B33 sq hq, kk⟩
  · rw [if_neg h, if_neg h] at e
    trivial
    rw [<- e]
    exact ⟨_, _, rfl, sp, B33 sq hq, kk⟩
theorem M5 (T : Txt K mg D) : FnOk P w K mg base CX0 1 D.a_isless D.d_isless ["one", "other"] (Pu.spOf K [.dat, .dat] A57) := by
  refine T.F_isless.ok sc_isless (Pu.spOf.len rfl) (fun cdv A outer s H vs Q E hr h => ?_)
  refine ⟨_, (QSs.out (B0 (B4 (O6 A48 (B5 C8 (A7 (A4 (K := K) rfl) (qpv 0) A2 (fun _ _ => rfl)) (A7 (A4 (K := K) rfl) (qpv 1) A2 (fun _ _ => rfl))) (B5 C8 (A7 (A4 (K := K) rfl) (qpv 1) A2 (fun _ _ => rfl)) (A7 (A4 (K := K) rfl) (qpv 0) A2 (fun _ _ => rfl))) (C2 _))))), ?_⟩
  refine Pu.E5 h ?_
  rintro as Qp ⟨p, q, rfl, sp, sq, k⟩
  trivial
  have p1 := sp.1.mono (l := 8000) (by decide)
  have p2 := sp.2.mono (l := 8000) (by decide)
  have q1 := sq.1.mono (l := 8000) (by decide)
  have q2 := sq.2.mono (l := 8000) (by decide)
  refine ⟨⟨p1, q2⟩, ⟨q1, p2⟩, ?_⟩
  rw [A31]; exact k
def A47 : Pu.PSp := fun as Q => ∃ (a b s : Rat) (n1 d1 n2 d2 : Nat), as = [.d (dq a), .d (dq b), .d (dq s)] /\ SmR n1 d1 a /\ SmR n1 d1 b /\ SmR n2 d2 s /\ n2 + (n1 + d1 + 1) <= 3900 /\ d2 + (d1 + d1) <= 3900 /\ Q (.d (dq (a + s * (b - a))))
theorem A5a (T : Txt K mg D) : FnOk P w K mg base CX0 4 D.a_between D.d_between ["one", "other", "share"] (Pu.spOf K [.dat, .dat, .dat] A47) := by
  refine T.F_between.ok sc_between (Pu.spOf.len rfl) (fun cdv A outer s H vs Q E hr h => ?_)
  refine ⟨_, (QSs.out (B0 (B4 (A5 (L6 (K := K) T) hr.mo rfl T.m_plus T.F_plus.kp (O8 T) .nil B1 (A0 (qpv 0) (A0 (A5 (J1 (K := K) T) hr.mo rfl T.m_product T.F_product.kp (L3 T) .nil B1 (A0 (qpv 2) (A0 (A5 (N1 (K := K) T) hr.mo rfl T.m_minus T.F_minus.kp (Q1 T) .nil B1 (A0 (qpv 1) (A0 (qpv 0) A1))) A1))) A1)))))), ?_⟩
  refine Pu.E5 h ?_
  rintro as Qp ⟨a, b, s, n1, d1, n2, d2, rfl, sa, sb, ss, h1, h2, k⟩
  trivial
  have sd : SmR (n1 + d1 + 1) (d1 + d1) (b - a) := (sb.sub sa).mono (by omega) (by omega)
  refine ⟨b, a, rfl, sb.q (by omega) (by omega), sa.q (by omega) (by omega), ?_⟩
  trivial
  refine ⟨s, b - a, rfl, ss.q (by omega) (by omega), sd.q (by omega) (by omega), ?_⟩
  trivial
  exact ⟨a, s * (b - a), rfl, sa.q (by omega) (by omega), (ss.mul sd).q (by omega) (by omega), k⟩
def S6 : Pu.PSp := fun as Q => ∃ (a b t : Rat) (n1 d1 n2 d2 : Nat), as = [.d (dq a), .d (dq b), .d (dq t)] /\ SmR n1 d1 a /\ SmR n1 d1 b /\ SmR n2 d2 t /\ n1 + d1 + 1 <= 3900 /\ d1 + d1 <= 3900 /\ n2 + d1 + 1 <= 3900 /\ n1 + d2 + 1 <= 3900 /\ d2 + d1 <= 3900 /\ b - a ≠ 0 /\ Q (.d (dq ((t - a) / (b - a))))
theorem T4 (T : Txt K mg D) : FnOk P w K mg base CX0 4 D.a_sharebetween D.d_sharebetween ["one", "other", "at"] (Pu.spOf K [.dat, .dat, .dat] S6) := by
  refine T.F_sharebetween.ok sc_sharebetween (Pu.spOf.len rfl) (fun cdv A outer s H vs Q E hr h => ?_)
  refine ⟨_, (QSs.out (B0 (B4 (A5 (A7h (K := K) T) hr.mo rfl T.m_parted T.F_parted.kp (B1o T) .nil B1 (A0 (A5 (N1 (K := K) T) hr.mo rfl T.m_minus T.F_minus.kp (Q1 T) .nil B1 (A0 (qpv 2) (A0 (qpv 0) A1))) (A0 (A5 (N1 (K := K) T) hr.mo rfl T.m_minus T.F_minus.kp (Q1 T) .nil B1 (A0 (qpv 1) (A0 (qpv 0) A1))) A1)))))), ?_⟩
  refine Pu.E5 h ?_
  rintro as Qp ⟨a, b, t, n1, d1, n2, d2, rfl, sa, sb, st, h1, h2, h3, h4, h5, hn, k⟩
  trivial
  have sd : SmR (n1 + d1 + 1) (d1 + d1) (b - a) := (sb.sub sa).mono (by omega) (by omega)
  refine ⟨t, a, rfl, st.q (by omega) (by omega), sa.q (by omega) (by omega), ?_⟩
  trivial
  refine ⟨b, a, rfl, sb.q (by omega) (by omega), sa.q (by omega) (by omega), ?_⟩
  trivial
  exact ⟨t - a, b - a, rfl, (st.sub sa).q (by omega) (by omega), sd.q (by omega) (by omega), hn, k⟩
theorem A5c (T : Txt K mg D) : FnOk P w K mg base CX0 1 D.a_Lbegun D.d_Lbegun ["_law_script", "_law_k"] (A2z K) := by
  refine T.F_Lbegun.ok sc_Lbegun (fun vs H Q E h => ?_) (fun cdv A outer s H vs Q E hr h => ?_)
  · obtain ⟨a, ns, k, rfl, _⟩ := h; rfl
  · obtain ⟨a, ns, k, rfl, ha, k0, k1, kk⟩ := h
    refine ⟨_, (F9 (X5 (i := 2) sc_Lbegun.nd rfl (Or.inl rfl) D1)
      (F9 (B41 (A54 A48 (pv 1) (A3h call_len_seq (by rfl) T.z_len PySem.boot_len (N9 (pv 0) A0z)) (C2 _))
        (P1 (X5 (i := 2) sc_Lbegun.nd rfl (Or.inl rfl) (A0a ix_list (pv 0) (pv 1) (fun _ _ => rfl))))
        A15)
      (P1 (A3e (B16 (N9 (pv 2) (N9 (J8 Q4 (J8 G3 (J8 G3 (J8 Q4 (pv 2) D1) (J8 C8 (J8 C8 D1 (pv 1)) (pv 1))) D1) D1) (N9 (A0b C0j (pv 2) (J8 A7f D1 D1) (C2 _)) A0z)))))))), ?_⟩
    have fin : ∀ c : Int, ∃ v, ([some (V.ref a), some (V.int k), some (V.int c)] : St)[2]? = some (some v) /\
        (G5 (tOp (rI (fun _ j => 0 < j) fun i j => .int (i % j)) (tOp (rI0 fun i j => .int (i + j)) (tOp (rI0 fun i j => .int (i + j)) (tOp (rI (fun _ j => 0 < j) fun i j => .int (i % j)) (tVar 2) (tC (.int 2147483587)))
          (tOp (rI B6m fun i j => .int (i * j)) (tOp (rI B6m fun i j => .int (i * j)) (tC (.int 104729)) (tVar 1)) (tVar 1))) (tC (.int 7))) (tC (.int 2147483587)))
          (G5 (tOp (rI0 fun i j => .bl (decide (j <= i))) (tVar 2) (tOp (rI CPow fun i j => .int (i ^ j.toNat)) (tC (.int 10)) (tC (.int 18)))) tNil)) [some (V.ref a), some (V.int k), some (V.int c)] H
          fun xs H1 => (v :: xs).length <= sizeLine /\ ∀ p, H1 p = none -> Q (.ref p) (upd H1 p (.lst (v :: xs))) := by
      intro c
      refine ⟨_, rfl, _, rfl, _, _, rfl, rfl, (by show (0 : Int) < 2147483587; decide), _, rfl, _, _, rfl, rfl, ⟨X2 0, A23 k0 k1⟩, _, rfl, _, _, rfl, rfl, ⟨(Sm.mul (k := 20) (l := 20) (by unfold Sm; decide) (B6y k0 k1)).mono (by decide), A23 k0 k1⟩,
        _, _, rfl, rfl, _, _, rfl, rfl, _, _, rfl, rfl, (by show (0 : Int) < 2147483587; decide), _, rfl, _, _, rfl, rfl, A9z 18, _, _, rfl, rfl, by show 3 <= sizeLine; decide, fun p hp => ?_⟩
      have e1 := Int.emod_nonneg (c % 2147483587 + 104729 * k * k + 7) (show (2147483587 : Int) ≠ 0 by decide)
      have e2 := Int.emod_lt_of_pos (c % 2147483587 + 104729 * k * k + 7) (show (0 : Int) < 2147483587 by decide)
      exact kk p _ hp ⟨_, _, _, C7, e1, by omega⟩ (Same.upd hp).kp
    refine ⟨_, rfl, _, rfl, a, _, rfl, .inl ha, _, _, rfl, rfl, _, rfl, ?_⟩
    refine ifD (fun hn => ?_) (fun hn => ?_)
    · have hk : (ns.map V.int)[k.toNat]? = some (V.int (ns.getD k.toNat 0)) := by
        have hlt : k.toNat < ns.length := by rw [List.length_map] at hn; omega
        rw [List.getElem?_map, List.getElem?_eq_getElem hlt, List.getD_eq_getElem?_getD, List.getElem?_eq_getElem hlt]; rfl
      have hk' : atI (ns.map V.int) k = some (V.int (ns.getD k.toNat 0)) := by
        have := M8 hk
        rwa [show ((k.toNat : Nat) : Int) = k by omega] at this
      refine ⟨_, rfl, _, rfl, a, _, k, _, rfl, rfl, ha, hk', ?_⟩
      exact fin _
    · exact fin 0
theorem A06 (T : Txt K mg D) : FnOk P w K mg base CX0 1 D.a_Lbegun D.d_Lbegun ["_law_script", "_law_k"] (Pu.spOf K [.vw, .dat] Pu.A3f) := FnOk.imp (A5c T) Pu.B1n
theorem A7j (T : Txt K mg D) : FnOk P w K mg base CX0 1 D.a_Ltake D.d_Ltake ["_law_state", "_law_many"] A5v := by
  refine T.F_Ltake.ok sc_Ltake (fun vs H Q E h => ?_) (fun cdv A outer s H vs Q E hr h => ?_)
  · obtain ⟨p, n, rfl, _⟩ := h; rfl
  · obtain ⟨p, n, rfl, S0, n0, sn, k⟩ := h
    refine ⟨_, (F9 (B41 (B13 (A0a ix_list (pv 0) D1 (fun _ _ => rfl)))
        (F9 (X5 (i := 2) sc_Ltake.nd rfl (Or.inl rfl) (J8 Q4 (A0a ix_list (pv 0) D1 (fun _ _ => rfl)) (pv 1)))
        (F9 (A3g (J8 F2 (A0a ix_list (pv 0) D1 (fun _ _ => rfl)) (pv 1)) (A6i (pv 0) D1 Z3))
        (F9 (A3g (A0b A0d (A0a ix_list (pv 0) D1 (fun _ _ => rfl)) D1 (C2 _)) (A6i (pv 0) D1 Z3))
        (P1 (A3e (pv 2))))))
        A15)
      (F9 (X5 (i := 3) sc_Ltake.nd rfl (Or.inl rfl) D1)
      (F9 (B14 PassesOwn.never rfl (A0w rfl T.z_range (N9 (J8 G3 D1 (J8 C8 D1 (A0x A1m (by rfl) T.z_int (by rfl) (N9 (A0b A0d (pv 1) (J8 A7f D1 D1) (C2 _)) A0z)))) A0z)) (A6j (i := 4) sc_Ltake.nd rfl (Or.inl rfl) (Or.inl rfl))
        (F9 (A3g (J8 Q4 (J8 G3 (J8 C8 (A0a ix_list (pv 0) D1 (fun _ _ => rfl)) D1) D1) D1) (A6i (pv 0) D1 Z3))
        (P1 (X5 (i := 3) sc_Ltake.nd rfl (Or.inl rfl) (J8 G3 (J8 C8 (pv 3) D1) (J8 Q4 (J8 C8 (A0a ix_list (pv 0) D1 (fun _ _ => rfl)) (A0a ix_list (pv 0) D1 (fun _ _ => rfl))) D1))))))
      (P1 (A3e (J8 Q4 (J8 F2 (pv 3) D1) (pv 1))))))), ?_⟩
    obtain ⟨c, m, f, hp, m0, m1⟩ := S0.ex
    refine ⟨_, rfl, p, _, _, _, rfl, rfl, SqL.of hp, at2, f, rfl, ?_⟩
    have s8 : Sm 8000 n := sn.mono (by decide)
    cases f with
    | true =>
      refine iteT ?_
      refine ⟨_, rfl, p, _, _, _, rfl, rfl, SqL.of hp, at0, _, rfl, _, _, rfl, rfl, n0, ?_⟩
      refine ⟨_, rfl, p, _, _, _, rfl, rfl, SqL.of hp, at0, _, rfl, _, _, rfl, rfl, ⟨by omega, s8⟩, _, rfl, p, _, _, 0, rfl, rfl, hp, rfl, ?_⟩
      refine ⟨_, rfl, p, _, _, _, rfl, rfl, SqL.of C7, at0, _, _, rfl, rfl, _, rfl, p, _, _, 2, rfl, rfl, C7, rfl, ?_⟩
      refine ⟨_, rfl, ?_⟩
      exact k _ _ (Int.emod_nonneg c (by omega)) (Int.emod_lt_of_pos c n0) ⟨_, _, _, C7, m0, m1⟩ (Kp.upd.trans Kp.upd)
    | false =>
      refine iteF ?_
      refine ⟨_, rfl, _, _, rfl, rfl, A9z 6, _, _, rfl, rfl, .inr ⟨_, rfl, _, _, rfl, rfl, ⟨X2 0, B6z _⟩, _, _, rfl, rfl, _, rfl, ?_, ?_, A9l (lo := 0)
        (fun i σ H' => ∃ (m' md : Int) (x : Option V), σ = [some (V.ref p), some (V.int n), none, some (V.int md), x] /\ H' p = some (.lst [.int c, .int m', .bl false]) /\ 0 <= m' /\ m' < 2147483648 /\ Kp p H H' /\ Sm (40 * i + 1) md)
        ⟨m, 0, none, rfl, hp, m0, m1, Kp.refl, by unfold Sm; decide⟩ ?_ ?_⟩⟩
      · split <;> omega
      · split <;> omega
      · rintro i σ H' hi ⟨m', md, x, rfl, hp', h0, h1, kk, sd⟩
        have hi9 : i < 9 := by
          refine Nat.lt_of_lt_of_le hi ?_
          split <;> decide
        refine ⟨_, rfl, p, _, _, _, rfl, rfl, SqL.of hp', at1, _, _, rfl, rfl, ⟨sm32 h0 h1, X2 0⟩, _, _, rfl, rfl, _, _, rfl, rfl, (by show (0 : Int) < 2147483647; decide), _, rfl, p, _, _, 1, rfl, rfl, hp', rfl, ?_⟩
        have e1 := Int.emod_nonneg (m' * 39373 + 17) (show (2147483647 : Int) ≠ 0 by decide)
        have e2 := Int.emod_lt_of_pos (m' * 39373 + 17) (show (0 : Int) < 2147483647 by decide)
        have sm := sm32 e1 (by omega)
        refine ⟨_, rfl, _, _, rfl, rfl, ⟨sd.mono (by omega), X2 0⟩, _, rfl, p, _, _, _, rfl, rfl, SqL.of C7, at1, _, rfl, p, _, _, _, rfl, rfl, SqL.of C7, at1, _, _, rfl, rfl, ⟨sm, sm⟩, _, _, rfl, rfl, (by show (0 : Int) < 2147483587; decide), _, _, rfl, rfl, ?_⟩
        have g1 := Int.emod_nonneg ((m' * 39373 + 17) % 2147483647 * ((m' * 39373 + 17) % 2147483647)) (show (2147483587 : Int) ≠ 0 by decide)
        have g2 := Int.emod_lt_of_pos ((m' * 39373 + 17) % 2147483647 * ((m' * 39373 + 17) % 2147483647)) (show (0 : Int) < 2147483587 by decide)
        refine ⟨_, _, _, rfl, C7, e1, by omega, kk.trans Kp.upd, ?_⟩
        refine Sm.mono (k := 40 * i + 1 + 32 + 1) (Sm.add (sd.mul (l := 32) (by unfold Sm; decide)) ?_) (by omega)
        exact Sm.mono (k := 32) (by unfold Sm; omega) (by omega)
      · rintro σ H' ⟨m', md, x, rfl, hp', h0, h1, kk, sd⟩
        refine ⟨_, rfl, _, _, rfl, rfl, ⟨by decide, X2 0⟩, _, rfl, _, _, rfl, rfl, n0, ?_⟩
        exact k _ _ (Int.emod_nonneg _ (by omega)) (Int.emod_lt_of_pos _ n0) ⟨_, _, _, hp', h0, h1⟩ kk
theorem G0 (T : Txt K mg D) : FnOk P w K mg base CX0 1 D.a_Ltake D.d_Ltake ["_law_state", "_law_many"] (Pu.spOf K [.st, .dat] Pu.A55) := FnOk.imp (A7j T) Pu.B4f
theorem U0 (T : Txt K mg D) : FnOk P w K mg base CX0 1 D.a_Llow D.d_Llow ["_law_top", "_law_bottom"] (Pu.spOf K [.dat, .dat] B40) := by
  refine T.F_Llow.ok sc_Llow (Pu.spOf.len rfl) (fun cdv A outer s H vs Q E hr h => ?_)
  refine ⟨_, (QSs.out (A6 (B3 (i := 2) sc_Llow.nd rfl (Or.inl rfl) (qpv 0))
      (A6 (B3 (i := 3) sc_Llow.nd rfl (Or.inl rfl) (qpv 1))
      (A6 (O3 PassesOwn.never (B6 (J5 (K := K) rfl hr.units) (qpv 3) A2 (C2 _))
        (B0 (K3 (i := 2) (j := 3) rfl sc_Llow.nd rfl rfl (by decide) rfl rfl (A0 (qpv 3) (A0 (B5 Q4 (qpv 2) (qpv 3)) A1)) rfl)))
      (B0 (B4 (D5 (A0 (B5 F2 (qpv 0) (qpv 2)) (A0 (B5 F2 (qpv 1) (qpv 2)) A1))))))))), ?_⟩
  refine Pu.E5 h ?_
  rintro as Qp ⟨t, b, rfl, hb, st, sb, k⟩
  trivial
  refine ⟨fun m e => ∃ x y : Int, e = [some (.d (.int t)), some (.d (.int b)), some (.d (.int x)), some (.d (.int y))] /\ 0 <= y /\ (y = 0 -> 0 < x) /\ m = y.toNat /\ Int.gcd x y = Int.gcd t b, ⟨_, _, _, rfl, by omega, fun e => by omega, rfl, rfl⟩, ?_⟩
  rintro m e ⟨x, y, rfl, hy, hx, rfl, hg⟩
  trivial
  refine ite2 (fun e => ?_) (fun hn => ?_)
  · subst e
    have hx0 := hx rfl
    have e1 : x = sh t b := by
      have := A4g x (by omega)
      rw [hg] at this
      unfold sh; rw [if_neg (by omega)]; exact this.symm
    subst e1
    have hb0 : b ≠ 0 := by omega
    refine ⟨⟨B62 hb0, B6x sb hb0⟩, ⟨B62 hb0, B6x sb hb0⟩, ?_⟩
    rw [A8d hb0, B55 hb0]; exact k
  · have h1 := Int.emod_lt_of_pos x (show 0 < y by omega)
    have h2 := Int.emod_nonneg x hn
    exact ⟨by omega, (x % y).toNat, by omega, y, x % y, rfl, h2, fun _ => by omega, rfl, by rw [A9k, hg]⟩
theorem I0 (T : Txt K mg D) : FnOk P w K mg base CX0 2 D.a_Lplus D.d_Lplus ["_law_one", "_law_other"] (Pu.spOf K [.dat, .dat] (X6 (·+·))) := by
  refine T.F_Lplus.ok sc_Lplus (Pu.spOf.len rfl) (fun cdv A outer s H vs Q E hr h => ?_)
  refine ⟨_, (QSs.out (B0 (B4 (A5 (U0 (K := K) T) hr.mo rfl T.m_Llow T.F_Llow.kp (A1u T) .nil B1 (A0 (B5 G3 (B5 C8 (A7 (A4 (K := K) rfl) (qpv 0) A2 (fun _ _ => rfl)) (A7 (A4 (K := K) rfl) (qpv 1) A2 (fun _ _ => rfl))) (B5 C8 (A7 (A4 (K := K) rfl) (qpv 1) A2 (fun _ _ => rfl)) (A7 (A4 (K := K) rfl) (qpv 0) A2 (fun _ _ => rfl)))) (A0 (B5 C8 (A7 (A4 (K := K) rfl) (qpv 0) A2 (fun _ _ => rfl)) (A7 (A4 (K := K) rfl) (qpv 1) A2 (fun _ _ => rfl))) A1)))))), ?_⟩
  refine Pu.E5 h ?_
  rintro as Qp ⟨p, q, rfl, sp, sq, k⟩
  trivial
  have p1 := sp.1.mono (l := 8000) (by decide)
  have p2 := sp.2.mono (l := 8000) (by decide)
  have q1 := sq.1.mono (l := 8000) (by decide)
  have q2 := sq.2.mono (l := 8000) (by decide)
  refine ⟨⟨p1, q2⟩, ⟨q1, p2⟩, ⟨p2, q2⟩, _, _, rfl, Int.mul_pos (denp p) (denp q), ((sp.1.mul sq.2).add (sq.1.mul sp.2)).mono (by decide), (sp.2.mul sq.2).mono (by decide), ?_⟩
  rw [B7c]; exact k
theorem G4 (T : Txt K mg D) : FnOk P w K mg base CX0 2 D.a_Lminus D.d_Lminus ["_law_one", "_law_other"] (Pu.spOf K [.dat, .dat] (X6 (·-·))) := by
  refine T.F_Lminus.ok sc_Lminus (Pu.spOf.len rfl) (fun cdv A outer s H vs Q E hr h => ?_)
  refine ⟨_, (QSs.out (B0 (B4 (A5 (U0 (K := K) T) hr.mo rfl T.m_Llow T.F_Llow.kp (A1u T) .nil B1 (A0 (B5 Q3 (B5 C8 (A7 (A4 (K := K) rfl) (qpv 0) A2 (fun _ _ => rfl)) (A7 (A4 (K := K) rfl) (qpv 1) A2 (fun _ _ => rfl))) (B5 C8 (A7 (A4 (K := K) rfl) (qpv 1) A2 (fun _ _ => rfl)) (A7 (A4 (K := K) rfl) (qpv 0) A2 (fun _ _ => rfl)))) (A0 (B5 C8 (A7 (A4 (K := K) rfl) (qpv 0) A2 (fun _ _ => rfl)) (A7 (A4 (K := K) rfl) (qpv 1) A2 (fun _ _ => rfl))) A1)))))), ?_⟩
  refine Pu.E5 h ?_
  rintro as Qp ⟨p, q, rfl, sp, sq, k⟩
  trivial
  have p1 := sp.1.mono (l := 8000) (by decide)
  have p2 := sp.2.mono (l := 8000) (by decide)
  have q1 := sq.1.mono (l := 8000) (by decide)
  have q2 := sq.2.mono (l := 8000) (by decide)
  refine ⟨⟨p1, q2⟩, ⟨q1, p2⟩, ⟨p2, q2⟩, _, _, rfl, Int.mul_pos (denp p) (denp q), ((sp.1.mul sq.2).sub (sq.1.mul sp.2)).mono (by decide), (sp.2.mul sq.2).mono (by decide), ?_⟩
  rw [B69]; exact k
theorem K8 (T : Txt K mg D) : FnOk P w K mg base CX0 2 D.a_Ltimes D.d_Ltimes ["_law_one", "_law_other"] (Pu.spOf K [.dat, .dat] (X6 (·*·))) := by
  refine T.F_Ltimes.ok sc_Ltimes (Pu.spOf.len rfl) (fun cdv A outer s H vs Q E hr h => ?_)
  refine ⟨_, (QSs.out (B0 (B4 (A5 (U0 (K := K) T) hr.mo rfl T.m_Llow T.F_Llow.kp (A1u T) .nil B1 (A0 (B5 C8 (A7 (A4 (K := K) rfl) (qpv 0) A2 (fun _ _ => rfl)) (A7 (A4 (K := K) rfl) (qpv 1) A2 (fun _ _ => rfl))) (A0 (B5 C8 (A7 (A4 (K := K) rfl) (qpv 0) A2 (fun _ _ => rfl)) (A7 (A4 (K := K) rfl) (qpv 1) A2 (fun _ _ => rfl))) A1)))))), ?_⟩
  refine Pu.E5 h ?_
  rintro as Qp ⟨p, q, rfl, sp, sq, k⟩
  trivial
  have p1 := sp.1.mono (l := 8000) (by decide)
  have p2 := sp.2.mono (l := 8000) (by decide)
  have q1 := sq.1.mono (l := 8000) (by decide)
  have q2 := sq.2.mono (l := 8000) (by decide)
  refine ⟨⟨p1, q1⟩, ⟨p2, q2⟩, _, _, rfl, Int.mul_pos (denp p) (denp q), (sp.1.mul sq.1).mono (by decide), (sp.2.mul sq.2).mono (by decide), ?_⟩
  rw [B7a]; exact k
theorem D9 (T : Txt K mg D) : FnOk P w K mg base CX0 1 D.a_Lunder D.d_Lunder ["_law_one", "_law_other"] (Pu.spOf K [.dat, .dat] A57) := by
  refine T.F_Lunder.ok sc_Lunder (Pu.spOf.len rfl) (fun cdv A outer s H vs Q E hr h => ?_)
  refine ⟨_, (QSs.out (B0 (B4 (O6 A48 (B5 C8 (A7 (A4 (K := K) rfl) (qpv 0) A2 (fun _ _ => rfl)) (A7 (A4 (K := K) rfl) (qpv 1) A2 (fun _ _ => rfl))) (B5 C8 (A7 (A4 (K := K) rfl) (qpv 1) A2 (fun _ _ => rfl)) (A7 (A4 (K := K) rfl) (qpv 0) A2 (fun _ _ => rfl))) (C2 _))))), ?_⟩
  refine Pu.E5 h ?_
  rintro as Qp ⟨p, q, rfl, sp, sq, k⟩
  trivial
  have p1 := sp.1.mono (l := 8000) (by decide)
  have p2 := sp.2.mono (l := 8000) (by decide)
  have q1 := sq.1.mono (l := 8000) (by decide)
  have q2 := sq.2.mono (l := 8000) (by decide)
  refine ⟨⟨p1, q2⟩, ⟨q1, p2⟩, ?_⟩
  rw [A31]; exact k
theorem F7 (T : Txt K mg D) : FnOk P w K mg base CX0 2 D.a_Lamount D.d_Lamount ["_law_state", "_law_plain", "_law_least"] (Pu.spOf K [.st, .dat, .dat] A59) := by
  refine T.F_Lamount.ok sc_Lamount (Pu.spOf.len rfl) (fun cdv A outer s H vs Q E hr h => ?_)
  refine ⟨_, (QSs.out (A6 (B3 (i := 3) sc_Lamount.nd rfl (Or.inl rfl) (A5 (G0 (K := K) T) hr.mo rfl T.m_Ltake T.F_Ltake.kp (K5 T) .nil B1 (A0 (qpv 0) (A0 A2 A1))))
      (A6 (D2 (C9 (qpv 1))
        (B0 (B4 (D5 (A0 (B5 G3 (qpv 2) (A5 (G0 (K := K) T) hr.mo rfl T.m_Ltake T.F_Ltake.kp (K5 T) .nil B1 (A0 (qpv 0) (A0 (A7 (A4 (K := K) rfl) (D8 (A0 A2 (A0 A2 (A0 A2 (A0 A2 (A0 A2 (A0 A2 A1))))))) (qpv 3) (fun _ _ => rfl)) A1)))) (A0 A2 A1)))))
        C0)
      (A6 (B3 (i := 4) sc_Lamount.nd rfl (Or.inl rfl) (B5 G3 A2 (A5 (G0 (K := K) T) hr.mo rfl T.m_Ltake T.F_Ltake.kp (K5 T) .nil B1 (A0 (qpv 0) (A0 (A7 (A4 (K := K) rfl) (D8 (A0 A2 (A0 A2 (A0 A2 (A0 A2 (A0 A2 (A0 A2 A1))))))) (qpv 3) (fun _ _ => rfl)) A1)))))
      (B0 (B4 (A5 (U0 (K := K) T) hr.mo rfl T.m_Llow T.F_Llow.kp (A1u T) .nil B1 (A0 (B5 G3 (qpv 2) (A5 (G0 (K := K) T) hr.mo rfl T.m_Ltake T.F_Ltake.kp (K5 T) .nil B1 (A0 (qpv 0) (A0 (A7 (A4 (K := K) rfl) (D8 (A0 A2 (A0 A2 (A0 A2 (A0 A2 (A0 (B5 A7f A2 A2) (A0 A2 A1))))))) (qpv 3) (fun _ _ => rfl)) A1)))) (A0 (qpv 4) A1))))))))), ?_⟩
  refine Pu.E5 h ?_
  rintro as Qp ⟨pl, le, rfl, hle, k⟩
  trivial
  refine ⟨6, rfl, by decide, sm4 6, fun d d0 d6 => ?_⟩
  trivial
  refine ite2 (fun hp => ?_) (fun hp => ?_)
  · obtain ⟨z, hz, e⟩ := B54 (xs := [2, 3, 3, 4, 5, 6]) d0 d6
    have hb : 2 <= z /\ z <= 6 := by simp at hz; omega
    refine P4 e ?_
    trivial
    refine ⟨z, rfl, by omega, A0n (by omega) (by omega), fun d2 g0 g1 => ?_⟩
    trivial
    rw [B9j]
    have s3 : Sm 3 (le + d2) := B0m (B := 7) (by omega) (by omega) (by decide)
    exact k _ (B9d (by omega)) (fun h1 => B9c (by omega)) ((A12 s3).mono (by decide) (by decide)) fun _ => ⟨A12 s3, B4o (A12 s3)⟩
  · obtain ⟨x, hx, ex⟩ := B54 (xs := [1, 1, 2, 4, 12, 60]) d0 d6
    have hbx : 1 <= x /\ x <= 60 := by simp at hx; omega
    obtain ⟨z, hz, ez⟩ := B54 (xs := [3, 9, 12, 30, 1000000000000, 90]) d0 d6
    have hbz : 3 <= z /\ z <= 1000000000000 := by simp at hz; omega
    refine P4 ex ?_
    trivial
    refine ⟨x, rfl, by omega, A0n (by omega) (by omega), fun d1 f0 f1 => ?_⟩
    trivial
    refine ⟨A9z 12, P4 ez ?_⟩
    trivial
    refine ⟨z, rfl, by omega, A0n (by omega) (by omega), fun d2 g0 g1 => ?_⟩
    trivial
    have st : Sm 41 (le + d2) := B0m (B := 1000000000000) (by omega) (by omega) (by decide)
    have sb : Sm 6 (1 + d1) := B0m (B := 60) (by omega) (by omega) (by decide)
    refine ⟨_, _, rfl, by omega, st.mono (by decide), sb.mono (by decide), ?_⟩
    exact k _ (A3b (by omega) (by omega)) (fun h1 => B96 (by omega) (by omega)) (SmR.low st sb (by omega)) fun h => absurd h hp
theorem A5b (T : Txt K mg D) : FnOk P w K mg base CX0 2 D.a_Lparted D.d_Lparted ["_law_one", "_law_other"] (Pu.spOf K [.dat, .dat] A46) := by
  refine T.F_Lparted.ok sc_Lparted (Pu.spOf.len rfl) (fun cdv A outer s H vs Q E hr h => ?_)
  refine ⟨_, (QSs.out (B0 (B4 (A5 (U0 (K := K) T) hr.mo rfl T.m_Llow T.F_Llow.kp (A1u T) .nil B1 (A0 (B5 C8 (A7 (A4 (K := K) rfl) (qpv 0) A2 (fun _ _ => rfl)) (A7 (A4 (K := K) rfl) (qpv 1) A2 (fun _ _ => rfl))) (A0 (B5 C8 (A7 (A4 (K := K) rfl) (qpv 0) A2 (fun _ _ => rfl)) (A7 (A4 (K := K) rfl) (qpv 1) A2 (fun _ _ => rfl))) A1)))))), ?_⟩
  refine Pu.E5 h ?_
  rintro as Qp ⟨p, q, rfl, sp, sq, hq, k⟩
  trivial
  have p1 := sp.1.mono (l := 8000) (by decide)
  have p2 := sp.2.mono (l := 8000) (by decide)
  have q1 := sq.1.mono (l := 8000) (by decide)
  have q2 := sq.2.mono (l := 8000) (by decide)
  refine ⟨⟨p1, q2⟩, ⟨p2, q1⟩, _, _, rfl, Int.mul_pos (denp p) (B53 hq), (sp.1.mul sq.2).mono (by decide), (sp.2.mul sq.1).mono (by decide), ?_⟩
  rw [B7b]; exact k
def A58 : Pu.PSp := fun as Q => ∃ p q : Rat, as = [.d (dq p), .d (dq q)] /\ SmQ 3900 p /\ SmQ 3900 q /\ Q (.d (dq (if p < q then q else p)))
theorem A7i (T : Txt K mg D) : FnOk P w K mg base CX0 2 D.a_larger D.d_larger ["one", "other"] (Pu.spOf K [.dat, .dat] A58) := by
  refine T.F_larger.ok sc_larger (Pu.spOf.len rfl) (fun cdv A outer s H vs Q E hr h => ?_)
  refine ⟨_, (QSs.out (B0 (B4 (S5 (C9 (A5 (M5 (K := K) T) hr.mo rfl T.m_isless T.F_isless.kp (O9 T) .nil B1 (A0 (qpv 0) (A0 (qpv 1) A1)))) (qpv 1) (qpv 0))))), ?_⟩
  refine Pu.E5 h ?_
  rintro as Qp ⟨p, q, rfl, sp, sq, k⟩
  trivial
  refine ⟨p, q, rfl, sp, sq, ?_⟩
  trivial
  refine ite2 (fun h => ?_) (fun h => ?_)
  · rw [if_pos h] at k
    trivial
    exact k
  · rw [if_neg h] at k
    trivial
    exact k
def A45 : Pu.PSp := fun as Q => ∃ (cs : List (Rat × Rat)) (w : Rat), as = [.bor (cs.map dcn), .d (dq w)] /\ Gs cs /\ SmR 160 95 w /\ ∀ m : Nat, m <= cs.length -> (∀ (j : Nat) c, j < m -> cs[j]? = some c -> ¬ w < c.1) -> (∀ (j : Nat) c, m <= j -> cs[j]? = some c -> w < c.1) -> Q (.d (if m = 0 then .none else .int ((m : Int) - 1)))
theorem A49 (T : Txt K mg D) : FnOk P w K mg base CX0 2 D.a_pieceat D.d_pieceat ["shape", "whole"] (Pu.spOf K [.vw, .dat] A45) := by
  refine T.F_pieceat.ok sc_pieceat (Pu.spOf.len rfl) (fun cdv A outer s H vs Q E hr h => ?_)
  refine ⟨_, (QSs.out (A6 (B3 (i := 2) sc_pieceat.nd rfl (Or.inl rfl) (B7 (C1 (K := K) rfl) (by rfl) T.z_len PySem.boot_len (A0 (F1 rfl (D4 (N' := ["whole", "bend"]) (cap := [some 1, none]) rfl rfl rfl rfl (by decide +kernel) rfl rfl) (D7 (K := K) rfl (qpv 0)) (fun _ _ _ => (B8 (i := 1) (show (["whole", "bend"] : List Str).Nodup from by decide +kernel) rfl (Or.inl rfl) (Or.inr rfl))) (fun _ _ _ => (A28 (E7 (C9 (A5 (M5 (K := K) T) hr.mo rfl T.m_isless T.F_isless.kp (O9 T) .nil B1 (A0 (qpv 0) (A0 (A7 (A4 (K := K) rfl) (qpv 1) A2 (fun _ _ => rfl)) A1))))))) (fun _ _ _ => (qpv 1))) A1)))
      (B0 (B4 (S5 (B6 (K4 (K := K) rfl hr.units) (qpv 2) A2 (C2 _)) M4 (B5 Q3 (qpv 2) A2)))))), ?_⟩
  refine Pu.E5 h ?_
  rintro as Qp ⟨cs, w, rfl, sh, sw, k⟩
  have hl := sh.le
  trivial
  refine ⟨by omega, ⟨fun i e ys => ∃ o : Option SV, e = [some (.d (dq w)), o] /\ ys = ((cs.take i).filter fun c => !decide (w < c.1)).map dcn, ⟨_, rfl, rfl⟩, ?_, ?_⟩⟩
  · rintro i x e ys hx ⟨o, rfl, rfl⟩
    rw [List.getElem?_map] at hx
    obtain ⟨c, hc, rfl⟩ := Option.map_eq_some_iff.mp hx
    have sc := sh.sm c (List.mem_of_getElem? hc)
    have et : (cs.take (i + 1)).filter (fun c => !decide (w < c.1)) = (cs.take i).filter (fun c => !decide (w < c.1)) ++ [c].filter (fun c => !decide (w < c.1)) := by
      rw [List.take_succ, hc, List.filter_append]; rfl
    trivial
    refine ⟨_, _, rfl, sw.q (by decide) (by decide), sc.1.q (by decide) (by decide), ?_⟩
    trivial
    refine ite2 (fun h => ⟨_, rfl, ?_⟩) (fun h => ⟨_, rfl, ?_⟩)
    · rw [et, List.filter_cons, if_neg (by simp [h]), List.filter_nil, List.append_nil]
    · rw [et, List.filter_cons, if_pos (by simp [h]), List.filter_nil, List.map_append]; rfl
  · rintro e ys ⟨o, rfl, rfl⟩
    rw [List.length_map, List.take_length]
    obtain ⟨m, em, h1, h2, h3⟩ := P3 w sh.ri
    have k := k m h1 h2 h3
    trivial
    rw [em]
    refine ite2 (fun h => ?_) (fun h => ?_)
    · rw [if_pos (by omega)] at k; exact k
    · rw [if_neg (by omega)] at k; exact k
def A44 : Pu.PSp := fun as Q => ∃ (cs : List (Rat × Rat)) (w : Rat), as = [.bor (cs.map dcn), .d (dq w)] /\ Gs cs /\ SmR 160 95 w /\ Q (.d (evD cs w))
theorem X8 (T : Txt K mg D) : FnOk P w K mg base CX0 5 D.a_priceat D.d_priceat ["shape", "whole"] (Pu.spOf K [.vw, .dat] A44) := by
  refine T.F_priceat.ok sc_priceat (Pu.spOf.len rfl) (fun cdv A outer s H vs Q E hr h => ?_)
  refine ⟨_, (QSs.out (A6 (B3 (i := 2) sc_priceat.nd rfl (Or.inl rfl) (A5 (A49 (K := K) T) hr.mo rfl T.m_pieceat T.F_pieceat.kp (A99 T) .nil B1 (A0 (qpv 0) (A0 (qpv 1) A1))))
      (A6 (D2 (B6 A7g (qpv 2) M4 (C2 _))
        (B0 (B4 M4))
        C0)
      (A6 (D2 (B6 (K4 (K := K) rfl hr.units) (qpv 2) (B5 Q3 (B7 (C1 (K := K) rfl) (by rfl) T.z_len PySem.boot_len (A0 (qpv 0) A1)) A2) (C2 _))
        (B0 (B4 (A7 (A4 (K := K) rfl) (A7 (A4 (K := K) rfl) (qpv 0) (qpv 2) (fun _ _ => rfl)) A2 (fun _ _ => rfl))))
        C0)
      (B0 (B4 (A5 (A5a (K := K) T) hr.mo rfl T.m_between T.F_between.kp (B0a T) .nil B1 (A0 (A7 (A4 (K := K) rfl) (A7 (A4 (K := K) rfl) (qpv 0) (qpv 2) (fun _ _ => rfl)) A2 (fun _ _ => rfl)) (A0 (A7 (A4 (K := K) rfl) (A7 (A4 (K := K) rfl) (qpv 0) (B5 G3 (qpv 2) A2) (fun _ _ => rfl)) A2 (fun _ _ => rfl)) (A0 (A5 (T4 (K := K) T) hr.mo rfl T.m_sharebetween T.F_sharebetween.kp (W2 T) .nil B1 (A0 (A7 (A4 (K := K) rfl) (A7 (A4 (K := K) rfl) (qpv 0) (qpv 2) (fun _ _ => rfl)) A2 (fun _ _ => rfl)) (A0 (A7 (A4 (K := K) rfl) (A7 (A4 (K := K) rfl) (qpv 0) (B5 G3 (qpv 2) A2) (fun _ _ => rfl)) A2 (fun _ _ => rfl)) (A0 (qpv 1) A1)))) A1)))))))))), ?_⟩
  refine Pu.E5 h ?_
  rintro as Qp ⟨cs, w, rfl, sh, sw, k⟩
  have hl := sh.le
  have hne := sh.ne
  have e0 : cs[0]? = some cs[0] := List.getElem?_eq_getElem (by omega)
  trivial
  refine ⟨cs, w, rfl, sh, sw, fun m h1 h2 h3 => ?_⟩
  by_cases hm : m = 0
  · subst hm
    rw [if_pos rfl]
    trivial
    unfold evD at k
    rw [R6 e0, if_pos (h3 0 _ (Nat.le_refl _) e0)] at k
    exact k
  · rw [if_neg hm]
    have k : Qp (.d (dq (ev cs w))) := by
      unfold evD at k
      rwa [R6 e0, if_neg (h2 0 _ (by omega) e0)] at k
    obtain ⟨c, hc⟩ : ∃ c, cs[m - 1]? = some c := ⟨_, List.getElem?_eq_getElem (by omega)⟩
    have hcw := h2 (m - 1) c (by omega) hc
    have sc := sh.sm c (List.mem_of_getElem? hc)
    have em : ((m : Int) - 1) = ((m - 1 : Nat) : Int) := by omega
    rw [em]
    trivial
    refine ite2 (fun h => ?_) (fun h => ?_)
    · refine B2 (n := m - 1) hc ?_
      trivial
      rw [O0 sh.ri (c := c) (by rw [show cs.length - 1 = m - 1 by omega]; exact hc) hcw] at k
      exact k
    · obtain ⟨d, hd⟩ : ∃ c, cs[m - 1 + 1]? = some c := ⟨_, List.getElem?_eq_getElem (by omega)⟩
      have hdw := h3 (m - 1 + 1) d (by omega) hd
      have s2 := sh.sm d (List.mem_of_getElem? hd)
      have lt := (sh.ri _ c d hc hd).1
      have sa : SmR 450 450 ((w - c.1) / (d.1 - c.1)) := ((sw.sub sc.1).div (s2.1.sub sc.1) (by grind)).mono (by decide) (by decide)
      refine B2 (n := m - 1) hc ?_
      trivial
      refine B2 (n := m - 1 + 1) hd ?_
      trivial
      refine B2 (n := m - 1) hc ?_
      trivial
      refine B2 (n := m - 1 + 1) hd ?_
      trivial
      refine ⟨_, _, _, 150, 90, 160, 95, rfl, sc.1, s2.1, sw, by decide, by decide, by decide, by decide, by decide, by grind, ?_⟩
      trivial
      refine ⟨_, _, _, 1350, 1250, 450, 450, rfl, sc.2, s2.2, sa, by decide, by decide, ?_⟩
      trivial
      rw [V1 sh.ri hc hd hcw hdw] at k
      have e : c.2 + (w - c.1) / (d.1 - c.1) * (d.2 - c.2) = c.2 - fl c d * (w - c.1) := by
        unfold fl; rw [Rat.div_def, Rat.div_def]; grind
      rw [e]; exact k
def S9 : Pu.PSp := fun as Q => ∃ A B : List (Rat × Rat), as = [.bor (A.map dcn), .bor (B.map dcn)] /\ Gs A /\ Gs B /\ (A.map (·.1)).Pairwise (· < ·) /\ (B.map (·.1)).Pairwise (· < ·) /\ ∀ us : List Rat, us.Pairwise (· < ·) -> (∀ z, z ∈ us ↔ z ∈ A.map (·.1) \/ z ∈ B.map (·.1)) -> us.length <= A.length + B.length -> Q (.own (us.map dq))
theorem T8 (T : Txt K mg D) : FnOk P w K mg base CX0 2 D.a_mergedwholes D.d_mergedwholes ["one", "other"] (Pu.spOf K [.vw, .vw] S9) := by
  refine T.F_mergedwholes.ok sc_mergedwholes (Pu.spOf.len rfl) (fun cdv A outer s H vs Q E hr h => ?_)
  refine ⟨_, (QSs.out (A6 (B3 (i := 2) sc_mergedwholes.nd rfl (Or.inl rfl) (D8 A1))
      (A6 (B7d (K3 (i := 3) (j := 4) rfl sc_mergedwholes.nd rfl rfl (by decide) rfl rfl (A0 (F1 rfl (D4 (N' := ["bend"]) (cap := [none]) rfl rfl rfl rfl (by decide +kernel) rfl rfl) (D7 (K := K) rfl (qpv 0)) (fun _ _ _ => (B8 (i := 0) (show (["bend"] : List Str).Nodup from by decide +kernel) rfl (Or.inl rfl) (Or.inr rfl))) (fun _ _ _ => F0) (fun _ _ _ => (A7 (A4 (K := K) rfl) (qpv 0) A2 (fun _ _ => rfl)))) (A0 (F1 rfl (D4 (N' := ["bend"]) (cap := [none]) rfl rfl rfl rfl (by decide +kernel) rfl rfl) (D7 (K := K) rfl (qpv 1)) (fun _ _ _ => (B8 (i := 0) (show (["bend"] : List Str).Nodup from by decide +kernel) rfl (Or.inl rfl) (Or.inr rfl))) (fun _ _ _ => F0) (fun _ _ _ => (A7 (A4 (K := K) rfl) (qpv 0) A2 (fun _ _ => rfl)))) A1)) rfl))
      (A6 (O3 PassesOwn.never (QW.pt (K7 (B6 A0d (B7 (C1 (K := K) rfl) (by rfl) T.z_len PySem.boot_len (A0 (qpv 3) A1)) A2 (C2 _)) (J3 (B6 A0d (B7 (C1 (K := K) rfl) (by rfl) T.z_len PySem.boot_len (A0 (qpv 4) A1)) A2 (C2 _)))))
        (A6 (D2 (QW.pt (K7 (B6 (K4 (K := K) rfl hr.units) (B7 (C1 (K := K) rfl) (by rfl) T.z_len PySem.boot_len (A0 (qpv 4) A1)) A2 (C2 _)) (J3 (QW.pt (S3 (B6 A0d (B7 (C1 (K := K) rfl) (by rfl) T.z_len PySem.boot_len (A0 (qpv 3) A1)) A2 (C2 _)) (O2 (C9 (A5 (M5 (K := K) T) hr.mo rfl T.m_isless T.F_isless.kp (O9 T) .nil B1 (A0 (A7 (A4 (K := K) rfl) (qpv 3) A2 (fun _ _ => rfl)) (A0 (A7 (A4 (K := K) rfl) (qpv 4) A2 (fun _ _ => rfl)) A1))))))))))
          (B0 (B3 (i := 5) sc_mergedwholes.nd rfl (Or.inl rfl) (F4 (K := K) rfl PySem.F.plainAttrs_list PySem.F.slot_list_pop PySem.F.type_list_pop N2 (qpv 3) (A0 A2 A1))))
          (B0 (B3 (i := 5) sc_mergedwholes.nd rfl (Or.inl rfl) (F4 (K := K) rfl PySem.F.plainAttrs_list PySem.F.slot_list_pop PySem.F.type_list_pop N2 (qpv 4) (A0 A2 A1)))))
        (B0 (D2 (QW.pt (K7 (B6 (K4 (K := K) rfl hr.units) (B7 (C1 (K := K) rfl) (by rfl) T.z_len PySem.boot_len (A0 (qpv 2) A1)) A2 (C2 _)) (J3 (B6 (J5 (K := K) rfl hr.units) (A7 (A4 (K := K) rfl) (qpv 2) (X4 W9 A2) (fun _ _ => rfl)) (qpv 5) (C2 _)))))
          (B0 (G8 (F4 (K := K) rfl PySem.F.plainAttrs_list PySem.F.slot_list_append PySem.F.type_list_append F5 (qpv 2) (A0 (qpv 5) A1))))
          C0))))
      (B0 (B4 (qpv 2))))))), ?_⟩
  refine Pu.E5 h ?_
  rintro as Qp ⟨A, B, rfl, ga, gb, pa, pb, k⟩
  have hla := ga.le
  have hlb := gb.le
  refine hd fun R hR => ?_
  trivial
  subst hR
  refine hd fun R hR => ?_
  trivial
  refine ⟨by omega, G1 (fun i e ys => ∃ o : Option SV, e = [o] /\ ys = ((A.take i).map (·.1)).map dq) ⟨_, rfl, rfl⟩ ?_ ?_⟩
  · rintro i c e ys hc ⟨o, rfl, rfl⟩
    trivial
    exact ⟨_, rfl, by rw [List.take_succ, hc]; simp⟩
  rintro e ys ⟨o, rfl, rfl⟩
  rw [List.take_length]
  trivial
  refine fun a => ⟨by omega, G1 (fun i e ys => ∃ o : Option SV, e = [o] /\ ys = ((B.take i).map (·.1)).map dq) ⟨_, rfl, rfl⟩ ?_ ?_⟩
  · rintro i c e ys hc ⟨o, rfl, rfl⟩
    trivial
    exact ⟨_, rfl, by rw [List.take_succ, hc]; simp⟩
  rintro e ys ⟨o, rfl, rfl⟩
  rw [List.take_length]
  trivial
  refine fun b _ _ => ⟨_, _, _, _, rfl, by decide, ?_⟩
  subst hR
  refine A2s (fun m e => ∃ (us ls rs : List Rat) (o : Option SV), e = [some (.bor (A.map dcn)), some (.bor (B.map dcn)), some (.own (us.map dq)), some (.own (ls.map dq)), some (.own (rs.map dq)), o] /\ m = ls.length + rs.length /\ MW (A.map (·.1)) (B.map (·.1)) us ls rs) ⟨_, [], _, _, none, rfl, rfl, ⟨List.Pairwise.nil, pa, pb, fun a z => (nomatch z), fun a z => (nomatch z), fun z => by simp, by simp⟩⟩ ?_
  have sA : ∀ z, z ∈ A.map (·.1) \/ z ∈ B.map (·.1) -> SmQ 3900 z := fun z hz => by
    rcases hz with hz | hz <;> obtain ⟨c, hc, rfl⟩ := List.mem_map.mp hz
    · exact (ga.sm c hc).1.q (by decide) (by decide)
    · exact (gb.sm c hc).1.q (by decide) (by decide)
  rintro m e ⟨us, ls, rs, o, rfl, rfl, M⟩
  have hle := M.le
  rw [List.length_map, List.length_map] at hle
  refine B6n (fun e' => ∃ (x : Rat) (ls' rs' : List Rat), e' = [some (.bor (A.map dcn)), some (.bor (B.map dcn)), some (.own (us.map dq)), some (.own (ls'.map dq)), some (.own (rs'.map dq)), some (.d (dq x))] /\ ls'.length + rs'.length < ls.length + rs.length /\ (∀ a, us[us.length - 1]? = some a -> a = x -> MW (A.map (·.1)) (B.map (·.1)) us ls' rs') /\ ((∀ a, us[us.length - 1]? = some a -> a ≠ x) -> MW (A.map (·.1)) (B.map (·.1)) (us ++ [x]) ls' rs')) ?_ ?_
  · rintro e ⟨x, ls', rs', rfl, hlt, m1, m2⟩
    trivial
    refine ite2 (fun h => ?_) (fun h => ?_)
    · have : us = [] := List.eq_nil_of_length_eq_zero (by omega)
      subst this
      exact ⟨by decide, _, hlt, [x], ls', rs', _, rfl, rfl, m2 fun a z => by simp at z⟩
    · obtain ⟨z, hz⟩ : ∃ z, us[us.length - 1]? = some z := ⟨_, List.getElem?_eq_getElem (by omega)⟩
      refine A64 hz (by omega) ?_
      trivial
      refine ite2 (fun g => ?_) (fun g => ?_)
      · exact ⟨_, hlt, us, ls', rs', _, rfl, rfl, m1 z hz g⟩
      · exact ⟨by omega, _, hlt, us ++ [x], ls', rs', _, by rw [List.map_append]; rfl, rfl, m2 fun a ha => by rw [hz] at ha; cases ha; exact g⟩
  · intro R hR
    cases ls with
    | nil =>
      cases rs with
      | nil =>
        trivial
        rw [if_neg (by decide), if_neg (by decide)]
        trivial
        refine k us M.u (fun z => ?_) ?_
        · have := M.mem z; simp at this; simpa using this
        · omega
      | cons y rs =>
        have P := MW.pick M.comm (x := y) (ls := rs) (rs := []) fun z h => nomatch h
        trivial
        rw [if_neg (by decide), if_pos (by omega), if_neg (by omega), if_neg (by decide)]
        trivial
        refine ⟨_, _, rfl, hR _ ⟨y, [], rs, rfl, by simp, fun a ha e => (P.1 a ha e).comm, fun h => (P.2 h).comm⟩⟩
    | cons x ls =>
      cases rs with
      | nil =>
        have P := MW.pick M (x := x) (ls := ls) (rs := []) fun z h => nomatch h
        trivial
        rw [if_pos (by omega), if_pos (by decide)]
        trivial
        refine ⟨_, _, rfl, hR _ ⟨x, ls, [], rfl, by simp, P.1, P.2⟩⟩
      | cons y rs =>
        have hx := sA x ((M.mem x).mp (by simp))
        have hy := sA y ((M.mem y).mp (by simp))
        trivial
        rw [if_pos (by omega), if_neg (by omega), if_pos (by omega)]
        refine ⟨_, _, rfl, hx, hy, ?_⟩
        trivial
        refine ite2 (fun h => ?_) (fun h => ?_)
        · have P := MW.pick M (x := x) (ls := ls) (rs := y :: rs) fun z hz => by
            rcases List.mem_cons.mp hz with rfl | z'
            · exact Rat.le_of_lt h
            · have := (List.pairwise_cons.mp M.r).1 z z'; grind
          refine ⟨_, _, rfl, hR _ ⟨x, ls, y :: rs, rfl, by simp, P.1, P.2⟩⟩
        · have P := MW.pick M.comm (x := y) (ls := rs) (rs := x :: ls) fun z hz => by
            rcases List.mem_cons.mp hz with rfl | z'
            · grind
            · have := (List.pairwise_cons.mp M.l).1 z z'; grind
          refine ⟨_, _, rfl, hR _ ⟨y, x :: ls, rs, rfl, by simp, fun a ha e => (P.1 a ha e).comm, fun h => (P.2 h).comm⟩⟩
def S7 : Pu.PSp := fun as Q => ∃ (c1 c2 : Rat × Rat) (ps qs : List (Rat × Rat)), as = [.bor ((bnd c1 ps).map dcn), .bor ((bnd c2 qs).map dcn)] /\ Sh c1 ps /\ Sh c2 qs /\ ∀ vs, Bs c1 c2 ps qs (fst2 c1 c2) vs -> vs.length <= 26 -> Q (.own ((bsL c1 c2 ps qs vs).map dcn))
theorem T5 (T : Txt K mg D) : FnOk P w K mg base CX0 6 D.a_shapesbeside D.d_shapesbeside ["one", "other"] (Pu.spOf K [.vw, .vw] S7) := by
  refine T.F_shapesbeside.ok sc_shapesbeside (Pu.spOf.len rfl) (fun cdv A outer s H vs Q E hr h => ?_)
  refine ⟨_, (QSs.out (A6 (B3 (i := 2) sc_shapesbeside.nd rfl (Or.inr rfl) (A5 (A7i (K := K) T) hr.mo rfl T.m_larger T.F_larger.kp (B1p T) .nil B1 (A0 (A7 (A4 (K := K) rfl) (A7 (A4 (K := K) rfl) (qpv 0) A2 (fun _ _ => rfl)) A2 (fun _ _ => rfl)) (A0 (A7 (A4 (K := K) rfl) (A7 (A4 (K := K) rfl) (qpv 1) A2 (fun _ _ => rfl)) A2 (fun _ _ => rfl)) A1))))
      (A6 (S4 (i := 3) rfl sc_shapesbeside.nd rfl rfl (D4 (N' := ["first", "whole"]) (cap := [some 2, none]) rfl rfl rfl rfl (by decide +kernel) rfl rfl) (D7 (K := K) rfl (A5 (T8 (K := K) T) hr.mo rfl T.m_mergedwholes T.F_mergedwholes.kp (W5 T) .nil B1 (A0 (qpv 0) (A0 (qpv 1) A1)))) (fun _ _ _ => (B8 (i := 1) (show (["first", "whole"] : List Str).Nodup from by decide +kernel) rfl (Or.inl rfl) (Or.inr rfl))) (fun _ _ _ => (A28 (E7 (C9 (A5 (M5 (K := K) T) hr.mo rfl T.m_isless T.F_isless.kp (O9 T) .nil B1 (A0 (qpv 1) (A0 (qpv 0) A1))))))) (fun _ _ _ => (qpv 1)) rfl)
      (B0 (B4 (F1 rfl (D4 (N' := ["one", "other", "whole"]) (cap := [some 0, some 1, none]) rfl rfl rfl rfl (by decide +kernel) rfl rfl) (D7 (K := K) rfl (qpv 3)) (fun _ _ _ => (B8 (i := 2) (show (["one", "other", "whole"] : List Str).Nodup from by decide +kernel) rfl (Or.inl rfl) (Or.inr rfl))) (fun _ _ _ => F0) (fun _ _ _ => (D5 (A0 (qpv 2) (A0 (A5 (L6 (K := K) T) hr.mo rfl T.m_plus T.F_plus.kp (O8 T) .nil B1 (A0 (A5 (X8 (K := K) T) hr.mo rfl T.m_priceat T.F_priceat.kp (A1t T) .nil B1 (A0 (qpv 0) (A0 (qpv 2) A1))) (A0 (A5 (X8 (K := K) T) hr.mo rfl T.m_priceat T.F_priceat.kp (A1t T) .nil B1 (A0 (qpv 1) (A0 (qpv 2) A1))) A1))) A1)))))))))), ?_⟩
  refine Pu.E5 h ?_
  rintro as Qp ⟨c1, c2, ps, qs, rfl, h1, h2, k⟩
  have l1 := h1.le
  have l2 := h2.le
  have o1 := h1.on c1 (E6 _ _)
  have o2 := h2.on c2 (E6 _ _)
  refine hd fun R hR => ?_
  trivial
  refine B2 (n := 0) (C5 _ _) ?_
  trivial
  refine B2 (n := 0) (C5 _ _) ?_
  trivial
  refine ⟨_, _, rfl, (on_w o1.1 (by decide)).q (by decide) (by decide), (on_w o2.1 (by decide)).q (by decide) (by decide), ?_⟩
  rw [show (if c1.1 < c2.1 then c2.1 else c1.1) = fst2 c1 c2 from rfl]
  trivial
  subst hR
  refine hd fun R hR => ?_
  trivial
  refine ⟨_, _, rfl, h1.gs, h2.gs, A96 h1.gs.ri, A96 h2.gs.ri, fun us pu mu lu => ?_⟩
  rw [C4, C4] at lu
  have B := C0n h1 h2 pu mu (f := fst2 c1 c2) rfl
  have su : ∀ u ∈ us, On LL (2 ^ 46) u := fun u hu => by
    rcases (mu u).mp hu with z | z <;> obtain ⟨d, hd, rfl⟩ := List.mem_map.mp z
    · exact (h1.on d hd).1
    · exact (h2.on d hd).1
  have sf : SmQ 3900 (fst2 c1 c2) := by
    unfold fst2; split
    · exact (on_w o2.1 (by decide)).q (by decide) (by decide)
    · exact (on_w o1.1 (by decide)).q (by decide) (by decide)
  trivial
  refine ⟨by omega, G1 (fun i e ys => ∃ o : Option SV, e = [some (.d (dq (fst2 c1 c2))), o] /\ ys = ((us.take i).filter fun u => !decide (u < fst2 c1 c2)).map dq) ⟨_, rfl, rfl⟩ ?_ ?_⟩
  · rintro i u e ys hu ⟨o, rfl, rfl⟩
    have et : (us.take (i + 1)).filter (fun u => !decide (u < fst2 c1 c2)) = (us.take i).filter (fun u => !decide (u < fst2 c1 c2)) ++ [u].filter (fun u => !decide (u < fst2 c1 c2)) := by
      rw [List.take_succ, hu, List.filter_append]; rfl
    trivial
    refine ⟨_, _, rfl, (on_w (su u (List.mem_of_getElem? hu)) (by decide)).q (by decide) (by decide), sf, ?_⟩
    trivial
    refine ite2 (fun h => ⟨_, rfl, ?_⟩) (fun h => ⟨_, rfl, ?_⟩)
    · rw [et, List.filter_cons, if_neg (by simp [h]), List.filter_nil, List.append_nil]
    · rw [et, List.filter_cons, if_pos (by simp [h]), List.filter_nil, List.map_append]; rfl
  rintro e ys ⟨o, rfl, rfl⟩
  rw [List.take_length]
  have lv : (us.filter fun u => !decide (u < fst2 c1 c2)).length <= 26 := Nat.le_trans (List.length_filter_le _ _) (by omega)
  generalize us.filter (fun u => !decide (u < fst2 c1 c2)) = vs at B lv
  subst hR
  trivial
  refine ⟨by omega, G1 (fun i e ys => ∃ o : Option SV, e = [some (.bor ((bnd c1 ps).map dcn)), some (.bor ((bnd c2 qs).map dcn)), o] /\ ys = (bsL c1 c2 ps qs (vs.take i)).map dcn) ⟨_, rfl, rfl⟩ ?_ ?_⟩
  · rintro i v e ys hv ⟨o, rfl, rfl⟩
    have ov := B.wh h1 h2 (List.mem_of_getElem? hv)
    have gv := B.ge v (List.mem_of_getElem? hv)
    have wv := O1 ov (by decide)
    have g1 : c1.1 <= v := by have := B.f1; grind
    have g2 : c2.1 <= v := by have := B.f2; grind
    trivial
    refine ⟨_, _, rfl, h1.gs, wv.sm, ?_⟩
    trivial
    rw [V2 g1]
    trivial
    refine ⟨_, _, rfl, h2.gs, wv.sm, ?_⟩
    rw [V2 g2]
    trivial
    refine ⟨_, _, rfl, (h1.sm wv g1).q (by decide) (by decide), (h2.sm wv g2).q (by decide) (by decide), ?_⟩
    trivial
    refine ⟨_, rfl, ?_⟩
    rw [List.take_succ, hv]
    unfold bsL
    rw [List.map_append, List.map_append]; rfl
  rintro e ys ⟨o, rfl, rfl⟩
  rw [List.take_length]
  trivial
  exact k vs B lv
def A16 : Pu.PSp := fun as Q => ∃ (c : Rat × Rat) (ps : List (Rat × Rat)), as = [.bor ((bnd c ps).map dcn)] /\ Sh c ps /\ Q (.own (ps.map dcn))
theorem T7 (T : Txt K mg D) : FnOk P w K mg base CX0 4 D.a_piecesof D.d_piecesof ["shape"] (Pu.spOf K [.vw] A16) := by
  refine T.F_piecesof.ok sc_piecesof (Pu.spOf.len rfl) (fun cdv A outer s H vs Q E hr h => ?_)
  refine ⟨_, (QSs.out (B0 (B4 (F1 rfl (D4 (N' := ["sooner", "later"]) (cap := [none, none]) rfl rfl rfl rfl (by decide +kernel) rfl rfl) (B0p (K := K) rfl rfl T.z_zip (A0 (qpv 0) (A0 (A0t (A24 (K := K) rfl) (qpv 0) (A29 A2) A3a) A1))) (fun _ _ _ => (O5 (K := K) (n := 2) rfl rfl (E8 (B8 (i := 0) (show (["sooner", "later"] : List Str).Nodup from by decide +kernel) rfl (Or.inl rfl) (Or.inr rfl)) (E8 (B8 (i := 1) (show (["sooner", "later"] : List Str).Nodup from by decide +kernel) rfl (Or.inl rfl) (Or.inr rfl)) O4)) rfl rfl)) (fun _ _ _ => F0) (fun _ _ _ => (D5 (A0 (A5 (N1 (K := K) T) hr.mo rfl T.m_minus T.F_minus.kp (Q1 T) .nil B1 (A0 (A7 (A4 (K := K) rfl) (qpv 1) A2 (fun _ _ => rfl)) (A0 (A7 (A4 (K := K) rfl) (qpv 0) A2 (fun _ _ => rfl)) A1))) (A0 (A5 (N1 (K := K) T) hr.mo rfl T.m_minus T.F_minus.kp (Q1 T) .nil B1 (A0 (A7 (A4 (K := K) rfl) (qpv 0) A2 (fun _ _ => rfl)) (A0 (A7 (A4 (K := K) rfl) (qpv 1) A2 (fun _ _ => rfl)) A1))) A1)))))))), ?_⟩
  refine Pu.E5 h ?_
  rintro as Qp ⟨c, ps, rfl, h, k⟩
  have hl := h.le
  trivial
  rw [A9y]
  refine ⟨by rw [Y8, List.length_map, C4]; omega, ⟨fun i e ys => ∃ o1 o2 : Option SV, e = [o1, o2] /\ ys = ((pcs (bnd c ps)).take i).map dcn, ⟨_, _, rfl, rfl⟩, ?_, ?_⟩⟩
  · rintro i x e ys hx ⟨o1, o2, rfl, rfl⟩
    obtain ⟨a, b, ha', hb', rfl⟩ := B0f hx
    rw [List.getElem?_map] at ha' hb'
    obtain ⟨a, ha, rfl⟩ := Option.map_eq_some_iff.mp ha'
    obtain ⟨b, hb, rfl⟩ := Option.map_eq_some_iff.mp hb'
    clear ha' hb'
    rw [List.getElem?_drop, Nat.add_comm] at hb
    have sa := h.gs.sm a (List.mem_of_getElem? ha)
    have sb := h.gs.sm b (List.mem_of_getElem? hb)
    trivial
    refine ⟨_, _, rfl, sb.1.q (by decide) (by decide), sa.1.q (by decide) (by decide), ?_⟩
    trivial
    refine ⟨_, _, rfl, sa.2.q (by decide) (by decide), sb.2.q (by decide) (by decide), ?_⟩
    trivial
    refine ⟨_, _, rfl, ?_⟩
    rw [List.take_succ, A19 ha hb, List.map_append]; rfl
  rintro e ys ⟨o1, o2, rfl, rfl⟩
  rw [Y8, List.length_map, List.length_map, List.length_drop, C4, A2a, List.take_of_length_le (by omega)]
  trivial
  exact k
def A0u : Pu.PSp := fun as Q => ∃ p q : Rat × Rat, as = [.d (dcn p), .d (dcn q)] /\ PcE p /\ PcE q /\ Q (.d (.bool (decide (sl q < sl p))))
theorem Q5 (T : Txt K mg D) : FnOk P w K mg base CX0 3 D.a_issteeper D.d_issteeper ["one", "other"] (Pu.spOf K [.dat, .dat] A0u) := by
  refine T.F_issteeper.ok sc_issteeper (Pu.spOf.len rfl) (fun cdv A outer s H vs Q E hr h => ?_)
  refine ⟨_, (QSs.out (B0 (B4 (A5 (M5 (K := K) T) hr.mo rfl T.m_isless T.F_isless.kp (O9 T) .nil B1 (A0 (A5 (J1 (K := K) T) hr.mo rfl T.m_product T.F_product.kp (L3 T) .nil B1 (A0 (A7 (A4 (K := K) rfl) (qpv 1) A2 (fun _ _ => rfl)) (A0 (A7 (A4 (K := K) rfl) (qpv 0) A2 (fun _ _ => rfl)) A1))) (A0 (A5 (J1 (K := K) T) hr.mo rfl T.m_product T.F_product.kp (L3 T) .nil B1 (A0 (A7 (A4 (K := K) rfl) (qpv 0) A2 (fun _ _ => rfl)) (A0 (A7 (A4 (K := K) rfl) (qpv 1) A2 (fun _ _ => rfl)) A1))) A1)))))), ?_⟩
  refine Pu.E5 h ?_
  rintro as Qp ⟨p, q, rfl, ⟨p1, p2, p3, p4⟩, ⟨q1, q2, q3, q4⟩, k⟩
  trivial
  refine ⟨_, _, rfl, q4.q (by decide) (by decide), p3.q (by decide) (by decide), ?_⟩
  trivial
  refine ⟨_, _, rfl, p4.q (by decide) (by decide), q3.q (by decide) (by decide), ?_⟩
  trivial
  refine ⟨_, _, rfl, (q4.mul p3).q (by decide) (by decide), (p4.mul q3).q (by decide) (by decide), ?_⟩
  rw [show decide (q.2 * p.1 < p.2 * q.1) = decide (sl q < sl p) by rw [decide_eq_decide]; exact B92 p1 q1]
  exact k
def P2 : Pu.PSp := fun as Q => ∃ ps qs : List (Rat × Rat), as = [.bor (ps.map dcn), .bor (qs.map dcn)] /\ Pc ps /\ Pc qs /\ ∀ ms, Mg ps qs ms -> ms.length <= 24 -> (∀ m ∈ ms, On LL (2 ^ 48) m.1 /\ On (LL * LL) (2 ^ 94) m.2) -> Q (.own (ms.map dcn))
theorem P6 (T : Txt K mg D) : FnOk P w K mg base CX0 4 D.a_byfallingrates D.d_byfallingrates ["one", "other"] (Pu.spOf K [.vw, .vw] P2) := by
  refine T.F_byfallingrates.ok sc_byfallingrates (Pu.spOf.len rfl) (fun cdv A outer s H vs Q E hr h => ?_)
  refine ⟨_, (QSs.out (A6 (B3 (i := 2) sc_byfallingrates.nd rfl (Or.inl rfl) (D8 A1))
      (A6 (B7d (K3 (i := 3) (j := 4) rfl sc_byfallingrates.nd rfl rfl (by decide) rfl rfl (A0 (J0 (O7 (K := K) rfl) (by rfl) T.z_list (by rfl) (A0 (qpv 0) A1)) (A0 (J0 (O7 (K := K) rfl) (by rfl) T.z_list (by rfl) (A0 (qpv 1) A1)) A1)) rfl))
      (A6 (O3 PassesOwn.never (QW.pt (S3 (B6 A0d (B7 (C1 (K := K) rfl) (by rfl) T.z_len PySem.boot_len (A0 (qpv 3) A1)) A2 (C2 _)) (O2 (B6 A0d (B7 (C1 (K := K) rfl) (by rfl) T.z_len PySem.boot_len (A0 (qpv 4) A1)) A2 (C2 _)))))
        (B0 (D2 (C9 (A5 (Q5 (K := K) T) hr.mo rfl T.m_issteeper T.F_issteeper.kp (V7 T) .nil B1 (A0 (A7 (A4 (K := K) rfl) (qpv 3) A2 (fun _ _ => rfl)) (A0 (A7 (A4 (K := K) rfl) (qpv 4) A2 (fun _ _ => rfl)) A1))))
          (B0 (G8 (F4 (K := K) rfl PySem.F.plainAttrs_list PySem.F.slot_list_append PySem.F.type_list_append F5 (qpv 2) (A0 (F4 (K := K) rfl PySem.F.plainAttrs_list PySem.F.slot_list_pop PySem.F.type_list_pop N2 (qpv 3) (A0 A2 A1)) A1))))
          (B0 (D2 (C9 (A5 (Q5 (K := K) T) hr.mo rfl T.m_issteeper T.F_issteeper.kp (V7 T) .nil B1 (A0 (A7 (A4 (K := K) rfl) (qpv 4) A2 (fun _ _ => rfl)) (A0 (A7 (A4 (K := K) rfl) (qpv 3) A2 (fun _ _ => rfl)) A1))))
            (B0 (G8 (F4 (K := K) rfl PySem.F.plainAttrs_list PySem.F.slot_list_append PySem.F.type_list_append F5 (qpv 2) (A0 (F4 (K := K) rfl PySem.F.plainAttrs_list PySem.F.slot_list_pop PySem.F.type_list_pop N2 (qpv 4) (A0 A2 A1)) A1))))
            (A6 (K3 (i := 5) (j := 6) rfl sc_byfallingrates.nd rfl rfl (by decide) rfl rfl (A0 (F4 (K := K) rfl PySem.F.plainAttrs_list PySem.F.slot_list_pop PySem.F.type_list_pop N2 (qpv 3) (A0 A2 A1)) (A0 (F4 (K := K) rfl PySem.F.plainAttrs_list PySem.F.slot_list_pop PySem.F.type_list_pop N2 (qpv 4) (A0 A2 A1)) A1)) rfl)
            (B0 (G8 (F4 (K := K) rfl PySem.F.plainAttrs_list PySem.F.slot_list_append PySem.F.type_list_append F5 (qpv 2) (A0 (D5 (A0 (A5 (L6 (K := K) T) hr.mo rfl T.m_plus T.F_plus.kp (O8 T) .nil B1 (A0 (A7 (A4 (K := K) rfl) (qpv 5) A2 (fun _ _ => rfl)) (A0 (A7 (A4 (K := K) rfl) (qpv 6) A2 (fun _ _ => rfl)) A1))) (A0 (A5 (L6 (K := K) T) hr.mo rfl T.m_plus T.F_plus.kp (O8 T) .nil B1 (A0 (A7 (A4 (K := K) rfl) (qpv 5) A2 (fun _ _ => rfl)) (A0 (A7 (A4 (K := K) rfl) (qpv 6) A2 (fun _ _ => rfl)) A1))) A1))) A1))))))))))
      (B0 (B4 (B5 (P5 (K := K) rfl) (B5 (P5 (K := K) rfl) (qpv 2) (qpv 3)) (qpv 4)))))))), ?_⟩
  refine Pu.E5 h ?_
  rintro as Qp ⟨ps, qs, rfl, hp, hq, k⟩
  have lp := hp.le
  have lq := hq.le
  refine hd fun R hR => ?_
  trivial
  subst hR
  refine hd fun R hR => ?_
  trivial
  refine fun a b _ _ => ⟨_, _, _, _, rfl, by decide, ?_⟩
  subst hR
  refine A2s (fun m e => ∃ (fs ls rs : List (Rat × Rat)) (o5 o6 : Option SV), e = [some (.bor (ps.map dcn)), some (.bor (qs.map dcn)), some (.own (fs.map dcn)), some (.own (ls.map dcn)), some (.own (rs.map dcn)), o5, o6] /\ m = ls.length + rs.length /\ Pc ls /\ Pc rs /\ fs.length + (ls.length + rs.length) <= 24 /\ (∀ m ∈ fs, On LL (2 ^ 48) m.1 /\ On (LL * LL) (2 ^ 94) m.2) /\ ∀ ms, Mg ls rs ms -> Mg ps qs (fs ++ ms)) ⟨_, [], _, _, _, _, rfl, rfl, hp, hq, by simp; omega, fun m z => (nomatch z), fun ms h => h⟩ ?_
  rintro m e ⟨fs, ls, rs, o5, o6, rfl, rfl, hls, hrs, hle, hfs, hm⟩
  have up : ∀ p : Rat × Rat, On LL (2 ^ 47) p.1 /\ On (LL * LL) (2 ^ 93) p.2 -> On LL (2 ^ 48) p.1 /\ On (LL * LL) (2 ^ 94) p.2 := fun p h => ⟨h.1.p2 (by decide), h.2.p2 (by decide)⟩
  have fin : (ls = [] \/ rs = []) -> Qp (.own (((fs ++ ls) ++ rs).map dcn)) := fun h => by
    refine k _ ?_ (by simp; omega) fun m hm => ?_
    · rcases h with rfl | rfl
      · rw [List.append_nil]; exact hm _ (.nl rs)
      · rw [List.append_nil]; exact hm _ (.nr ls)
    · rcases List.mem_append.mp hm with z | z
      · rcases List.mem_append.mp z with z | z
        · exact hfs m z
        · exact up m (hls.on m z)
      · exact up m (hrs.on m z)
  cases ls with
  | nil =>
    trivial
    rw [if_neg (by decide)]
    trivial
    have := fin (.inl rfl)
    rw [List.map_append, List.map_append] at this
    exact ⟨by simp; omega, by simp; omega, this⟩
  | cons p ls =>
    cases rs with
    | nil =>
      trivial
      rw [if_pos (by omega), if_neg (by decide)]
      trivial
      have := fin (.inr rfl)
      rw [List.map_append, List.map_append] at this
      rw [List.length_cons] at hle
      exact ⟨by omega, by simp; omega, this⟩
    | cons q rs =>
      have ep := hls.e List.mem_cons_self
      have eq := hrs.e List.mem_cons_self
      have op := hls.on p List.mem_cons_self
      have oq := hrs.on q List.mem_cons_self
      rw [List.length_cons, List.length_cons] at hle
      have add : ∀ x : Rat × Rat, On LL (2 ^ 48) x.1 /\ On (LL * LL) (2 ^ 94) x.2 -> ∀ m ∈ fs ++ [x], On LL (2 ^ 48) m.1 /\ On (LL * LL) (2 ^ 94) m.2 := fun x hx m hm => by
        rcases List.mem_append.mp hm with z | z
        · exact hfs m z
        · cases List.mem_singleton.mp z; exact hx
      trivial
      rw [if_pos (by omega), if_pos (by omega)]
      refine ⟨_, _, rfl, ep, eq, ?_⟩
      trivial
      refine ite2 (fun h => ?_) (fun h => ?_)
      · refine ⟨by decide, 0, _, rfl, rfl, by omega, by first | omega | (simp only [List.length_cons]; omega), _, by first | omega | (simp only [List.length_cons]; omega), fs ++ [p], ls, q :: rs, _, _, by rw [List.map_append]; rfl, rfl, R4 hls, hrs, by simp; omega, add p (up p op), fun ms g => by rw [List.append_assoc]; exact hm _ (.l h g)⟩
      · refine ⟨_, _, rfl, eq, ep, ?_⟩
        trivial
        refine ite2 (fun h2 => ?_) (fun h2 => ?_)
        · refine ⟨by decide, 0, _, rfl, rfl, by omega, by first | omega | (simp only [List.length_cons]; omega), _, by first | omega | (simp only [List.length_cons]; omega), fs ++ [q], p :: ls, rs, _, _, by rw [List.map_append]; rfl, rfl, hls, R4 hrs, by simp; omega, add q (up q oq), fun ms g => by rw [List.append_assoc]; exact hm _ (.r h2 g)⟩
        · refine ⟨by decide, _, _, _, _, rfl, rfl, ?_⟩
          trivial
          refine ⟨_, _, rfl, ep.2.2.1.q (by decide) (by decide), eq.2.2.1.q (by decide) (by decide), ?_⟩
          trivial
          refine ⟨_, _, rfl, ep.2.2.2.q (by decide) (by decide), eq.2.2.2.q (by decide) (by decide), ?_⟩
          trivial
          exact ⟨by omega, _, by omega, fs ++ [(p.1 + q.1, p.2 + q.2)], ls, rs, _, _, by rw [List.map_append]; rfl, rfl, R4 hls, R4 hrs, by simp; omega, add _ ⟨On.add2 F3 op.1 oq.1 (Nat.le_refl _), On.add2 V9 op.2 oq.2 (Nat.le_refl _)⟩, fun ms g => by rw [List.append_assoc]; exact hm _ (.b (by grind) g)⟩
def S8 : Pu.PSp := fun as Q => ∃ (c1 c2 : Rat × Rat) (ps qs : List (Rat × Rat)) (w : Rat), as = [.bor ((bnd c1 ps).map dcn), .bor ((bnd c2 qs).map dcn), .d (dq w)] /\ Sh c1 ps /\ Sh c2 qs /\ On LL (2 ^ 41) w /\ ∀ ms, Mg ps qs ms -> ms.length <= 24 -> (∀ d ∈ bnd (jc c1 c2 w) ms, On LL (2 ^ 56) d.1 /\ On (LL * LL) (2 ^ 100) d.2) -> Q (.own ((bnd (jc c1 c2 w) ms).map dcn))
theorem T6 (T : Txt K mg D) : FnOk P w K mg base CX0 5 D.a_shapesbehind D.d_shapesbehind ["one", "other", "wait"] (Pu.spOf K [.vw, .vw, .dat] S8) := by
  refine T.F_shapesbehind.ok sc_shapesbehind (Pu.spOf.len rfl) (fun cdv A outer s H vs Q E hr h => ?_)
  refine ⟨_, (QSs.out (A6 (K3 (i := 3) (j := 4) rfl sc_shapesbehind.nd rfl rfl (by decide) rfl rfl (A0 (A5 (L6 (K := K) T) hr.mo rfl T.m_plus T.F_plus.kp (O8 T) .nil B1 (A0 (A5 (L6 (K := K) T) hr.mo rfl T.m_plus T.F_plus.kp (O8 T) .nil B1 (A0 (A7 (A4 (K := K) rfl) (A7 (A4 (K := K) rfl) (qpv 0) A2 (fun _ _ => rfl)) A2 (fun _ _ => rfl)) (A0 (A7 (A4 (K := K) rfl) (A7 (A4 (K := K) rfl) (qpv 1) A2 (fun _ _ => rfl)) A2 (fun _ _ => rfl)) A1))) (A0 (qpv 2) A1))) (A0 (A5 (L6 (K := K) T) hr.mo rfl T.m_plus T.F_plus.kp (O8 T) .nil B1 (A0 (A7 (A4 (K := K) rfl) (A7 (A4 (K := K) rfl) (qpv 0) A2 (fun _ _ => rfl)) A2 (fun _ _ => rfl)) (A0 (A7 (A4 (K := K) rfl) (A7 (A4 (K := K) rfl) (qpv 1) A2 (fun _ _ => rfl)) A2 (fun _ _ => rfl)) A1))) A1)) rfl)
      (A6 (B3 (i := 5) sc_shapesbehind.nd rfl (Or.inl rfl) (D8 (A0 (D5 (A0 (qpv 3) (A0 (qpv 4) A1))) A1)))
      (A6 (J4 PassesOwn.never rfl (D7 (K := K) rfl (A5 (P6 (K := K) T) hr.mo rfl T.m_byfallingrates T.F_byfallingrates.kp (Q9 T) .nil B1 (A0 (A5 (T7 (K := K) T) hr.mo rfl T.m_piecesof T.F_piecesof.kp (Y3 T) .nil B1 (A0 (qpv 0) A1)) (A0 (A5 (T7 (K := K) T) hr.mo rfl T.m_piecesof T.F_piecesof.kp (Y3 T) .nil B1 (A0 (qpv 1) A1)) A1)))) (O5 (K := K) (n := 2) rfl rfl (E8 (B8 (i := 6) sc_shapesbehind.nd rfl (Or.inl rfl) (Or.inl rfl)) (E8 (B8 (i := 7) sc_shapesbehind.nd rfl (Or.inl rfl) (Or.inl rfl)) O4)) rfl rfl)
        (A6 (K3 (i := 3) (j := 4) rfl sc_shapesbehind.nd rfl rfl (by decide) rfl rfl (A0 (A5 (L6 (K := K) T) hr.mo rfl T.m_plus T.F_plus.kp (O8 T) .nil B1 (A0 (qpv 3) (A0 (qpv 6) A1))) (A0 (A5 (N1 (K := K) T) hr.mo rfl T.m_minus T.F_minus.kp (Q1 T) .nil B1 (A0 (qpv 4) (A0 (qpv 7) A1))) A1)) rfl)
        (B0 (G8 (F4 (K := K) rfl PySem.F.plainAttrs_list PySem.F.slot_list_append PySem.F.type_list_append F5 (qpv 5) (A0 (D5 (A0 (qpv 3) (A0 (qpv 4) A1))) A1))))))
      (B0 (B4 (qpv 5))))))), ?_⟩
  refine Pu.E5 h ?_
  rintro as Qp ⟨c1, c2, ps, qs, w, rfl, h1, h2, ow, k⟩
  have o1 := h1.on c1 (E6 _ _)
  have o2 := h2.on c2 (E6 _ _)
  have s1 := on_w o1.1 (by decide)
  have s2 := on_w o2.1 (by decide)
  have s12 : On LL (2 ^ 47) (c1.1 + c2.1) := On.add2 F3 o1.1 o2.1 (Nat.le_refl _)
  refine hd fun R hR => ?_
  trivial
  refine B2 (n := 0) (C5 _ _) ?_
  trivial
  refine B2 (n := 0) (C5 _ _) ?_
  trivial
  refine ⟨_, _, rfl, s1.q (by decide) (by decide), s2.q (by decide) (by decide), ?_⟩
  trivial
  refine ⟨_, _, rfl, (on_w s12 (by decide)).q (by decide) (by decide), (on_w ow (by decide)).q (by decide) (by decide), ?_⟩
  trivial
  refine B2 (n := 0) (C5 _ _) ?_
  trivial
  refine B2 (n := 0) (C5 _ _) ?_
  trivial
  refine ⟨_, _, rfl, (on_p o1.2 (by decide)).q (by decide) (by decide), (on_p o2.2 (by decide)).q (by decide) (by decide), ?_⟩
  trivial
  subst hR
  refine hd fun R hR => ?_
  trivial
  subst hR
  refine hd fun R hR => ?_
  trivial
  refine ⟨_, _, rfl, h1, ?_⟩
  trivial
  refine ⟨_, _, rfl, h2, ?_⟩
  trivial
  refine ⟨_, _, rfl, h1.pc, h2.pc, fun ms hm hl hon => ?_⟩
  trivial
  refine U9 (fun i e => ∃ o6 o7 : Option SV, e = [some (.bor ((bnd c1 ps).map dcn)), some (.bor ((bnd c2 qs).map dcn)), some (.d (dq w)), some (.d (dq (lst (jc c1 c2 w) (ms.take i)).1)), some (.d (dq (lst (jc c1 c2 w) (ms.take i)).2)), some (.own ((bnd (jc c1 c2 w) (ms.take i)).map dcn)), o6, o7]) ⟨_, _, rfl⟩ ?_ ?_
  · rintro i m e hi ⟨o6, o7, rfl⟩
    have hil := (List.getElem?_eq_some_iff.mp hi).1
    have om := hon m (List.mem_of_getElem? hi)
    have ol := B9p (ms := ms) (l := ms.take i) o1 o2 ow hon hl (fun m h => List.mem_of_mem_take h) (by rw [List.length_take]; omega) _ (A2j _ _)
    have et : ms.take (i + 1) = ms.take i ++ [m] := by rw [List.take_succ, hi]; rfl
    trivial
    refine ⟨_, _, rfl, (on_w ol.1 (by decide)).q (by decide) (by decide), (on_w om.1 (by decide)).q (by decide) (by decide), ?_⟩
    trivial
    refine ⟨_, _, rfl, (on_p ol.2 (by decide)).q (by decide) (by decide), (on_p om.2 (by decide)).q (by decide) (by decide), ?_⟩
    trivial
    exact ⟨by rw [C4, List.length_take]; omega, _, _, by rw [et, A0e, A0i, List.map_append]; rfl⟩
  · rintro e ⟨o6, o7, rfl⟩
    rw [List.take_length]
    subst hR
    trivial
    exact k ms hm hl (B9p o1 o2 ow hon hl (fun m h => h) (Nat.le_refl _))
def W0 : Pu.PSp := fun as Q => ∃ (c : Rat × Rat) (ps : List (Rat × Rat)) (s t : Rat), as = [.bor ((bnd c ps).map dcn), .d (dq s), .d (dq t)] /\ Sh c ps /\ SmR 41 6 s /\ SmR 41 6 t /\ Q (.own (((bnd c ps).map fun d => (s * d.1, t * d.2)).map dcn))
theorem W1 (T : Txt K mg D) : FnOk P w K mg base CX0 3 D.a_shapescaled D.d_shapescaled ["shape", "span", "cost"] (Pu.spOf K [.vw, .dat, .dat] W0) := by
  refine T.F_shapescaled.ok sc_shapescaled (Pu.spOf.len rfl) (fun cdv A outer s H vs Q E hr h => ?_)
  refine ⟨_, (QSs.out (B0 (B4 (F1 rfl (D4 (N' := ["span", "cost", "whole", "price"]) (cap := [some 1, some 2, none, none]) rfl rfl rfl rfl (by decide +kernel) rfl rfl) (D7 (K := K) rfl (qpv 0)) (fun _ _ _ => (O5 (K := K) (n := 2) rfl rfl (E8 (B8 (i := 2) (show (["span", "cost", "whole", "price"] : List Str).Nodup from by decide +kernel) rfl (Or.inl rfl) (Or.inr rfl)) (E8 (B8 (i := 3) (show (["span", "cost", "whole", "price"] : List Str).Nodup from by decide +kernel) rfl (Or.inl rfl) (Or.inr rfl)) O4)) rfl rfl)) (fun _ _ _ => F0) (fun _ _ _ => (D5 (A0 (A5 (J1 (K := K) T) hr.mo rfl T.m_product T.F_product.kp (L3 T) .nil B1 (A0 (qpv 0) (A0 (qpv 2) A1))) (A0 (A5 (J1 (K := K) T) hr.mo rfl T.m_product T.F_product.kp (L3 T) .nil B1 (A0 (qpv 1) (A0 (qpv 3) A1))) A1)))))))), ?_⟩
  refine Pu.E5 h ?_
  rintro as Qp ⟨c, ps, s, t, rfl, h, hs, ht, k⟩
  have hl := h.le
  trivial
  refine ⟨by rw [C4]; omega, G1 (fun i e ys => ∃ o1 o2 : Option SV, e = [some (.d (dq s)), some (.d (dq t)), o1, o2] /\ ys = (((bnd c ps).take i).map fun d => (s * d.1, t * d.2)).map dcn) ⟨_, _, rfl, rfl⟩ ?_ ?_⟩
  · rintro i d e ys hd ⟨o1, o2, rfl, rfl⟩
    have sd := h.gs.sm d (List.mem_of_getElem? hd)
    trivial
    refine ⟨_, _, rfl, hs.q (by decide) (by decide), sd.1.q (by decide) (by decide), ?_⟩
    trivial
    refine ⟨_, _, rfl, ht.q (by decide) (by decide), sd.2.q (by decide) (by decide), ?_⟩
    trivial
    refine ⟨_, _, rfl, ?_⟩
    rw [List.take_succ, hd, List.map_append, List.map_append]; rfl
  rintro e ys ⟨o1, o2, rfl, rfl⟩
  rw [List.take_length]
  trivial
  exact k
def A6b : Pu.PSp := fun as Q => ∃ (most : Int) (pl : Bool), as = [.st, .d (.int most), .d (.bool pl)] /\ 0 <= most /\ most <= 12 /\ ∀ (c : Rat × Rat) (ps : List (Rat × Rat)), Sh c ps -> Q (.own ((bnd c ps).map dcn))
theorem A05 (T : Txt K mg D) : FnOk P w K mg base CX0 3 D.a_Lshape D.d_Lshape ["_law_state", "_law_most", "_law_plain"] (Pu.spOf K [.st, .dat, .dat] A6b) := by
  refine T.F_Lshape.ok sc_Lshape (Pu.spOf.len rfl) (fun cdv A outer s H vs Q E hr h => ?_)
  refine ⟨_, (QSs.out (A6 (S4 (i := 3) rfl sc_Lshape.nd rfl rfl (D4 (N' := ["_law_state", "_law_plain", "_law_k"]) (cap := [some 0, some 2, none]) rfl rfl rfl rfl (by decide +kernel) rfl rfl) (N0 rfl T.z_range (A0 (A5 (G0 (K := K) T) hr.mo rfl T.m_Ltake T.F_Ltake.kp (K5 T) .nil B1 (A0 (qpv 0) (A0 (B5 G3 (qpv 1) A2) A1))) A1)) (fun _ _ _ => (B8 (i := 2) (show (["_law_state", "_law_plain", "_law_k"] : List Str).Nodup from by decide +kernel) rfl (Or.inl rfl) (Or.inr rfl))) (fun _ _ _ => F0) (fun _ _ _ => (A5 (F7 (K := K) T) hr.mo rfl T.m_Lamount T.F_Lamount.kp (J7 T) .nil B1 (A0 (qpv 0) (A0 (qpv 1) (A0 A2 A1))))) rfl)
      (A6 (B3 (i := 4) sc_Lshape.nd rfl (Or.inl rfl) (A5 (F7 (K := K) T) hr.mo rfl T.m_Lamount T.F_Lamount.kp (J7 T) .nil B1 (A0 (qpv 0) (A0 (qpv 2) (A0 A2 A1)))))
      (A6 (B3 (i := 5) sc_Lshape.nd rfl (Or.inl rfl) (A5 (F7 (K := K) T) hr.mo rfl T.m_Lamount T.F_Lamount.kp (J7 T) .nil B1 (A0 (qpv 0) (A0 (qpv 2) (A0 A2 A1)))))
      (A6 (B3 (i := 6) sc_Lshape.nd rfl (Or.inl rfl) (D5 (A0 A2 (A0 A2 A1))))
      (A6 (B3 (i := 7) sc_Lshape.nd rfl (Or.inl rfl) (D8 A1))
      (A6 (J4 PassesOwn.never rfl (D7 (K := K) rfl (qpv 3)) (B8 (i := 8) sc_Lshape.nd rfl (Or.inl rfl) (Or.inl rfl))
        (A6 (B3 (i := 6) sc_Lshape.nd rfl (Or.inl rfl) (A5 (I0 (K := K) T) hr.mo rfl T.m_Lplus T.F_Lplus.kp (L9 T) .nil B1 (A0 (qpv 6) (A0 (A5 (F7 (K := K) T) hr.mo rfl T.m_Lamount T.F_Lamount.kp (J7 T) .nil B1 (A0 (qpv 0) (A0 (qpv 2) (A0 A2 A1)))) A1))))
        (A6 (G8 (F4 (K := K) rfl PySem.F.plainAttrs_list PySem.F.slot_list_append PySem.F.type_list_append F5 (qpv 7) (A0 (qpv 6) A1)))
        (B0 (B3 (i := 5) sc_Lshape.nd rfl (Or.inl rfl) (A5 (I0 (K := K) T) hr.mo rfl T.m_Lplus T.F_Lplus.kp (L9 T) .nil B1 (A0 (qpv 5) (A0 (A5 (K8 (K := K) T) hr.mo rfl T.m_Ltimes T.F_Ltimes.kp (N4 T) .nil B1 (A0 (qpv 6) (A0 (qpv 8) A1))) A1))))))))
      (A6 (B3 (i := 9) sc_Lshape.nd rfl (Or.inl rfl) (D8 (A0 (D5 (A0 (qpv 4) (A0 (qpv 5) A1))) A1)))
      (A6 (J4 PassesOwn.never rfl (A42 rfl T.z_range (A0 (B5 Q3 (B7 (C1 (K := K) rfl) (by rfl) T.z_len PySem.boot_len (A0 (qpv 3) A1)) A2) (A0 (X4 W9 A2) (A0 (X4 W9 A2) A1)))) (B8 (i := 10) sc_Lshape.nd rfl (Or.inl rfl) (Or.inl rfl))
        (A6 (B3 (i := 4) sc_Lshape.nd rfl (Or.inl rfl) (A5 (I0 (K := K) T) hr.mo rfl T.m_Lplus T.F_Lplus.kp (L9 T) .nil B1 (A0 (qpv 4) (A0 (A7 (A4 (K := K) rfl) (qpv 3) (qpv 10) (fun _ _ => rfl)) A1))))
        (A6 (B3 (i := 5) sc_Lshape.nd rfl (Or.inl rfl) (A5 (G4 (K := K) T) hr.mo rfl T.m_Lminus T.F_Lminus.kp (K2 T) .nil B1 (A0 (qpv 5) (A0 (A5 (K8 (K := K) T) hr.mo rfl T.m_Ltimes T.F_Ltimes.kp (N4 T) .nil B1 (A0 (A7 (A4 (K := K) rfl) (qpv 7) (qpv 10) (fun _ _ => rfl)) (A0 (A7 (A4 (K := K) rfl) (qpv 3) (qpv 10) (fun _ _ => rfl)) A1))) A1))))
        (B0 (G8 (F4 (K := K) rfl PySem.F.plainAttrs_list PySem.F.slot_list_append PySem.F.type_list_append F5 (qpv 9) (A0 (D5 (A0 (qpv 4) (A0 (qpv 5) A1))) A1)))))))
      (B0 (B4 (qpv 9)))))))))))), ?_⟩
  refine Pu.E5 h ?_
  rintro as Qp ⟨most, pl, rfl, m0, m1, k⟩
  refine hd fun R hR => ?_
  trivial
  refine ⟨_, rfl, by omega, A0n (by omega) (by omega), fun n n0 n1 => ?_⟩
  trivial
  refine ⟨⟨by omega, by omega⟩, by rw [M9]; omega, B1g (fun i e ys => ∃ (gs : List Rat) (o : Option SV), e = [some .st, some (.d (.bool pl)), o] /\ ys = gs.map dq /\ gs.length = i /\ ∀ g ∈ gs, 0 < g /\ On LL (2 ^ 41) g) ⟨[], none, rfl, rfl, rfl, fun g h => absurd h (by simp)⟩ ?_ ?_⟩
  · rintro i e ys hi ⟨gs, o, rfl, rfl, hl, hg⟩
    trivial
    refine ⟨pl, 1, rfl, .inr rfl, fun q q0 q1 s1 s2 => ?_⟩
    trivial
    refine ⟨gs ++ [q], _, rfl, by simp, by simp [hl], fun g h => ?_⟩
    rcases List.mem_append.mp h with z | z
    · exact hg g z
    · cases List.mem_singleton.mp z
      exact ⟨q1 rfl, A03 s1⟩
  rintro e ys ⟨gs, o, rfl, rfl, hl, hg⟩
  have hlen : gs.length <= 12 := by omega
  trivial
  subst hR
  refine hd fun R hR => ?_
  trivial
  refine ⟨pl, 0, rfl, .inl rfl, fun w w0 _ sw1 _ => ?_⟩
  have ow := A03 sw1
  trivial
  subst hR
  refine hd fun R hR => ?_
  trivial
  refine ⟨pl, 0, rfl, .inl rfl, fun p p0 _ sp1 _ => ?_⟩
  have op := A03 sp1
  trivial
  subst hR
  refine hd fun R hR => ?_
  trivial
  subst hR
  refine hd fun R hR => ?_
  trivial
  subst hR
  refine hd fun R hR => ?_
  trivial
  have ep : p + sum2 (List.zipWith pz [] gs) = p := by show p + 0 = p; rw [Rat.add_zero]
  refine U9 (fun i e => ∃ (rt : Rat) (fs : List Rat) (o8 : Option SV), e = [some .st, some (.d (.int most)), some (.d (.bool pl)), some (.d (.list (gs.map dq))), some (.d (dq w)), some (.d (dq (p + sum2 (List.zipWith pz fs gs)))), some (.d (dq rt)), some (.own (fs.map dq)), o8, none, none] /\
      fs.length = i /\ 0 <= rt /\ fs.Pairwise (· < ·) /\ (∀ f ∈ fs, 0 < f /\ f <= rt /\ On LL (2 ^ 45) f) /\ On LL (i * 2 ^ 41) rt /\ On (LL * LL) (2 ^ 41 + i * 2 ^ 86) (p + sum2 (List.zipWith pz fs gs)))
      ⟨0, [], none, by rw [ep]; rfl, rfl, Rat.le_refl, List.Pairwise.nil, fun f h => absurd h (by simp), On.zero.mono (Nat.zero_le _), by rw [ep]; exact (op.up F3).mono (by omega)⟩ ?_ ?_
  · rintro i g e hgi ⟨rt, fs, o8, rfl, hfl, rt0, pf, hfs, ort, opr⟩
    have hi : i < gs.length := (List.getElem?_eq_some_iff.mp hgi).1
    obtain ⟨g0, og⟩ := hg g (List.mem_of_getElem? hgi)
    trivial
    refine ⟨pl, 1, rfl, .inr rfl, fun a a0 a1 sa1 _ => ?_⟩
    have oa := A03 sa1
    have ra : 0 < a := a1 rfl
    have ort2 : On LL ((i + 1) * 2 ^ 41) (rt + a) := (ort.add F3 oa).mono (by rw [Nat.add_mul]; omega)
    have o45 : On LL (2 ^ 45) (rt + a) := ort2.mono (Nat.le_trans (Nat.mul_le_mul_right _ (show i + 1 <= 12 by omega)) (Nat.le_of_ble_eq_true rfl))
    have ort3 : On LL (2 ^ 45) rt := ort.mono (Nat.le_trans (Nat.mul_le_mul_right _ (show i <= 12 by omega)) (Nat.le_of_ble_eq_true rfl))
    have opr3 : On (LL * LL) (2 ^ 92) (p + sum2 (List.zipWith pz fs gs)) := opr.mono (Nat.le_trans (Nat.add_le_add_left (Nat.mul_le_mul_right _ (show i <= 12 by omega)) _) (Nat.le_of_ble_eq_true rfl))
    have om : On (LL * LL) (2 ^ 86) ((rt + a) * g) := (On.mul F3 F3 o45 og).mono (Nat.le_of_ble_eq_true rfl)
    trivial
    refine ⟨rt, a, rfl, (on_w ort3 (by decide)).q (by decide) (by decide), (on_w oa (by decide)).q (by decide) (by decide), ?_⟩
    trivial
    refine ⟨by omega, ?_⟩
    trivial
    refine ⟨rt + a, g, rfl, (on_w o45 (by decide)).q (by decide) (by decide), (on_w og (by decide)).q (by decide) (by decide), ?_⟩
    trivial
    refine ⟨_, _, rfl, (on_p opr3 (by decide)).q (by decide) (by decide), (on_p om (by decide)).q (by decide) (by decide), ?_⟩
    trivial
    have es : p + sum2 (List.zipWith pz fs gs) + (rt + a) * g = p + sum2 (List.zipWith pz (fs ++ [rt + a]) gs) := by
      rw [B4w (by rw [hfl]; exact hgi), Z1]
      show _ = p + (_ + ((rt + a) * g + 0)); grind
    refine ⟨rt + a, fs ++ [rt + a], _, by rw [es, List.map_append]; rfl, by simp [hfl], by grind, List.pairwise_append.mpr ⟨pf, List.pairwise_singleton _ _, fun f hf b hb => ?_⟩, fun f h => ?_, ort2, by rw [<- es]; exact (opr.add V9 om).mono (by rw [Nat.add_mul]; omega)⟩
    · cases List.mem_singleton.mp hb
      have := (hfs f hf).2.1; grind
    · rcases List.mem_append.mp h with z | z
      · have := hfs f z; exact ⟨this.1, by grind, this.2.2⟩
      · cases List.mem_singleton.mp z
        exact ⟨by grind, Rat.le_refl, o45⟩
  rintro e ⟨rt, fs, o8, rfl, hfl, rt0, pf, hfs, ort, opr⟩
  subst hR
  dsimp only
  generalize hzs : List.zipWith pz fs gs = zs at opr
  have hzl : zs.length = gs.length := by rw [<- hzs, List.length_zipWith, hfl, Nat.min_self]
  have zget : ∀ (i : Nat) z, zs[i]? = some z -> ∃ f g, fs[i]? = some f /\ gs[i]? = some g /\ z = pz f g := fun i z hz => by
    rw [<- hzs, List.getElem?_zipWith] at hz
    cases ef : fs[i]? with
    | none => rw [ef] at hz; simp at hz
    | some f =>
      cases eg : gs[i]? with
      | none => rw [ef, eg] at hz; simp at hz
      | some g => rw [ef, eg] at hz; exact ⟨f, g, rfl, rfl, by simpa using hz.symm⟩
  have zpos : ∀ z ∈ zs, 0 < z.1 /\ 0 < z.2 /\ On LL (2 ^ 41) z.1 /\ On (LL * LL) (2 ^ 86) z.2 := fun z hz => by
    obtain ⟨i, hi⟩ := List.mem_iff_getElem?.mp hz
    obtain ⟨f, g, ef, eg, rfl⟩ := zget i z hi
    have hf := hfs f (List.mem_of_getElem? ef)
    have hg' := hg g (List.mem_of_getElem? eg)
    exact ⟨hg'.1, Rat.mul_pos hf.1 hg'.1, hg'.2, (On.mul F3 F3 hf.2.2 hg'.2).mono (Nat.le_of_ble_eq_true rfl)⟩
  have zpw : zs.Pairwise (fun a b => sl a < sl b) := List.pairwise_iff_getElem.mpr fun i j hi hj hij => by
    obtain ⟨f, g, ef, eg, e1⟩ := zget i _ (List.getElem?_eq_getElem hi)
    obtain ⟨f', g', ef', eg', e2⟩ := zget j _ (List.getElem?_eq_getElem hj)
    rw [e1, e2, B60 (hg g (List.mem_of_getElem? eg)).1, B60 (hg g' (List.mem_of_getElem? eg')).1]
    exact Q6 pf hij ef ef'
  have opr3 : On (LL * LL) (2 ^ 41 + 12 * 2 ^ 86) (p + sum2 zs) := opr.mono (Nat.add_le_add_left (Nat.mul_le_mul_right _ hlen) _)
  have sub : ∀ l : List (Rat × Rat), (∀ z ∈ l, z ∈ zs) -> l.length <= zs.length -> ∀ d ∈ bnd (w, p + sum2 zs) l, On LL (2 ^ 46) d.1 /\ On (LL * LL) (2 ^ 92) d.2 := fun l hl1 hl2 d hd => by
    have := B3l (C := (w, p + sum2 zs)) ow opr3 (fun z hz => ⟨(zpos z (hl1 z hz)).2.2.1, (zpos z (hl1 z hz)).2.2.2⟩) d hd
    exact ⟨this.1.mono (Nat.le_trans (Nat.add_le_add_left (Nat.mul_le_mul_right _ (show l.length <= 12 by omega)) _) (Nat.le_of_ble_eq_true rfl)), this.2.mono (Nat.le_trans (Nat.add_le_add_left (Nat.mul_le_mul_right _ (show l.length <= 12 by omega)) _) (Nat.le_of_ble_eq_true rfl))⟩
  refine hd fun R hR => ?_
  trivial
  subst hR
  refine hd fun R hR => ?_
  trivial
  have hn : ((gs.length : Int) - 1 - -1).toNat = gs.length := by omega
  rw [hn]
  refine ⟨⟨⟨by omega, by omega⟩, by decide, by decide⟩, B6f (fun j e => ∃ o10 : Option SV, e = [some .st, some (.d (.int most)), some (.d (.bool pl)), some (.d (.list (gs.map dq))), some (.d (dq (lst (w, p + sum2 zs) (zs.drop (gs.length - j)).reverse).1)), some (.d (dq (lst (w, p + sum2 zs) (zs.drop (gs.length - j)).reverse).2)), some (.d (dq rt)), some (.own (fs.map dq)), o8, some (.own ((bnd (w, p + sum2 zs) (zs.drop (gs.length - j)).reverse).map dcn)), o10]) ?_ ?_ ?_⟩
  · refine ⟨none, ?_⟩
    rw [Nat.sub_zero, <- hzl, List.drop_length]; rfl
  · rintro j e hj ⟨o10, rfl⟩
    have ei : (gs.length : Int) - 1 - (j : Int) = ((gs.length - 1 - j : Nat) : Int) := by omega
    obtain ⟨z, hz⟩ : ∃ z, zs[gs.length - 1 - j]? = some z := ⟨_, List.getElem?_eq_getElem (by omega)⟩
    obtain ⟨f, g, ef, eg, rfl⟩ := zget _ z hz
    have hf := hfs f (List.mem_of_getElem? ef)
    have hg' := hg g (List.mem_of_getElem? eg)
    have om : On (LL * LL) (2 ^ 86) (f * g) := (On.mul F3 F3 hf.2.2 hg'.2).mono (Nat.le_of_ble_eq_true rfl)
    have ed : (zs.drop (gs.length - (j + 1))).reverse = (zs.drop (gs.length - j)).reverse ++ [pz f g] := by
      have e1 : gs.length - j = gs.length - (j + 1) + 1 := by omega
      have e2 : gs.length - 1 - j = gs.length - (j + 1) := by omega
      rw [e2] at hz
      obtain ⟨hlt, e3⟩ := List.getElem?_eq_some_iff.mp hz
      rw [List.drop_eq_getElem_cons hlt, e3, List.reverse_cons, e1]
    have ol := sub (zs.drop (gs.length - j)).reverse (fun z hz => List.mem_of_mem_drop (List.mem_reverse.mp hz)) (by rw [List.length_reverse, List.length_drop]; omega) _ (A2j _ _)
    trivial
    rw [ei]
    refine B2 eg ?_
    trivial
    refine ⟨_, _, rfl, (on_w ol.1 (by decide)).q (by decide) (by decide), (on_w hg'.2 (by decide)).q (by decide) (by decide), ?_⟩
    trivial
    refine B2 ef ?_
    trivial
    refine B2 eg ?_
    trivial
    refine ⟨_, _, rfl, (on_w hf.2.2 (by decide)).q (by decide) (by decide), (on_w hg'.2 (by decide)).q (by decide) (by decide), ?_⟩
    trivial
    refine ⟨_, _, rfl, (on_p ol.2 (by decide)).q (by decide) (by decide), (on_p om (by decide)).q (by decide) (by decide), ?_⟩
    trivial
    exact ⟨by rw [C4, List.length_reverse, List.length_drop]; omega, _, by rw [ed, A0e, A0i, List.map_append]; rfl⟩
  · rintro e ⟨o10, rfl⟩
    subst hR
    trivial
    rw [Nat.sub_self, List.drop_zero]
    refine k _ _ ⟨B1v (fun z hz => ?_) (List.pairwise_reverse.mpr zpw), by rw [List.length_reverse]; omega, w0, fun d hd => ?_, sub _ (fun z hz => List.mem_reverse.mp hz) (by rw [List.length_reverse]; omega)⟩
    · have := zpos z (List.mem_reverse.mp hz); exact ⟨this.1, this.2.1⟩
    · have := A8e (C := (w, p + sum2 zs)) (l := zs.reverse) (fun z hz => Rat.le_of_lt (zpos z (List.mem_reverse.mp hz)).2.1) d hd
      rw [A2y] at this
      have e : (w, p + sum2 zs).2 - sum2 zs = p := by show p + sum2 zs - sum2 zs = p; grind
      rw [e] at this; grind
def B0t : Pu.PSp := fun as Q => ∃ c d : Rat × Rat, as = [.d (dcn c), .d (dcn d)] /\ c.1 < d.1 /\ (SmR 150 90 c.1 /\ SmR 1350 1250 c.2) /\ (SmR 150 90 d.1 /\ SmR 1350 1250 d.2) /\ Q (.d (dq (fl c d)))
theorem A3t (T : Txt K mg D) : FnOk P w K mg base CX0 3 D.a_Lfall D.d_Lfall ["_law_one", "_law_other"] (Pu.spOf K [.dat, .dat] B0t) := by
  refine T.F_Lfall.ok sc_Lfall (Pu.spOf.len rfl) (fun cdv A outer s H vs Q E hr h => ?_)
  refine ⟨_, (QSs.out (B0 (B4 (A5 (A5b (K := K) T) hr.mo rfl T.m_Lparted T.F_Lparted.kp (B0b T) .nil B1 (A0 (A5 (G4 (K := K) T) hr.mo rfl T.m_Lminus T.F_Lminus.kp (K2 T) .nil B1 (A0 (A7 (A4 (K := K) rfl) (qpv 0) A2 (fun _ _ => rfl)) (A0 (A7 (A4 (K := K) rfl) (qpv 1) A2 (fun _ _ => rfl)) A1))) (A0 (A5 (G4 (K := K) T) hr.mo rfl T.m_Lminus T.F_Lminus.kp (K2 T) .nil B1 (A0 (A7 (A4 (K := K) rfl) (qpv 1) A2 (fun _ _ => rfl)) (A0 (A7 (A4 (K := K) rfl) (qpv 0) A2 (fun _ _ => rfl)) A1))) A1)))))), ?_⟩
  refine Pu.E5 h ?_
  rintro as Qp ⟨c, d, rfl, lt, ⟨s1, s2⟩, ⟨s3, s4⟩, k⟩
  trivial
  refine ⟨_, _, rfl, s2.q (by decide) (by decide), s4.q (by decide) (by decide), ?_⟩
  trivial
  refine ⟨_, _, rfl, s3.q (by decide) (by decide), s1.q (by decide) (by decide), ?_⟩
  trivial
  exact ⟨_, _, rfl, (s2.sub s4).q (by decide) (by decide), (s3.sub s1).q (by decide) (by decide), by grind, k⟩
def A6c : Pu.PSp := fun as Q => ∃ (cs : List (Rat × Rat)) (w : Rat), as = [.bor (cs.map dcn), .d (dq w)] /\ Gs cs /\ SmR 162 95 w /\ Q (.d (evD cs w))
theorem K9 (T : Txt K mg D) : FnOk P w K mg base CX0 4 D.a_Lprice D.d_Lprice ["_law_shape_here", "_law_whole"] (Pu.spOf K [.vw, .dat] A6c) := by
  refine T.F_Lprice.ok sc_Lprice (Pu.spOf.len rfl) (fun cdv A outer s H vs Q E hr h => ?_)
  refine ⟨_, (QSs.out (A6 (B3 (i := 2) sc_Lprice.nd rfl (Or.inl rfl) M4)
      (A6 (J4 PassesOwn.never rfl (N0 rfl T.z_range (A0 (B7 (C1 (K := K) rfl) (by rfl) T.z_len PySem.boot_len (A0 (qpv 0) A1)) A1)) (B8 (i := 3) sc_Lprice.nd rfl (Or.inl rfl) (Or.inl rfl))
        (B0 (D2 (E7 (C9 (A5 (D9 (K := K) T) hr.mo rfl T.m_Lunder T.F_Lunder.kp (F6 T) .nil B1 (A0 (qpv 1) (A0 (A7 (A4 (K := K) rfl) (A7 (A4 (K := K) rfl) (qpv 0) (qpv 3) (fun _ _ => rfl)) A2 (fun _ _ => rfl)) A1)))))
          (A6 (B3 (i := 2) sc_Lprice.nd rfl (Or.inl rfl) (A7 (A4 (K := K) rfl) (A7 (A4 (K := K) rfl) (qpv 0) (qpv 3) (fun _ _ => rfl)) A2 (fun _ _ => rfl)))
          (B0 (D2 (QW.pt (S3 (B6 A48 (B5 G3 (qpv 3) A2) (B7 (C1 (K := K) rfl) (by rfl) T.z_len PySem.boot_len (A0 (qpv 0) A1)) (C2 _)) (O2 (C9 (A5 (D9 (K := K) T) hr.mo rfl T.m_Lunder T.F_Lunder.kp (F6 T) .nil B1 (A0 (qpv 1) (A0 (A7 (A4 (K := K) rfl) (A7 (A4 (K := K) rfl) (qpv 0) (B5 G3 (qpv 3) A2) (fun _ _ => rfl)) A2 (fun _ _ => rfl)) A1)))))))
            (A6 (B3 (i := 4) sc_Lprice.nd rfl (Or.inl rfl) (A5 (K8 (K := K) T) hr.mo rfl T.m_Ltimes T.F_Ltimes.kp (N4 T) .nil B1 (A0 (A5 (A3t (K := K) T) hr.mo rfl T.m_Lfall T.F_Lfall.kp (B0c T) .nil B1 (A0 (A7 (A4 (K := K) rfl) (qpv 0) (qpv 3) (fun _ _ => rfl)) (A0 (A7 (A4 (K := K) rfl) (qpv 0) (B5 G3 (qpv 3) A2) (fun _ _ => rfl)) A1))) (A0 (A5 (G4 (K := K) T) hr.mo rfl T.m_Lminus T.F_Lminus.kp (K2 T) .nil B1 (A0 (qpv 1) (A0 (A7 (A4 (K := K) rfl) (A7 (A4 (K := K) rfl) (qpv 0) (qpv 3) (fun _ _ => rfl)) A2 (fun _ _ => rfl)) A1))) A1))))
            (B0 (B3 (i := 2) sc_Lprice.nd rfl (Or.inl rfl) (A5 (G4 (K := K) T) hr.mo rfl T.m_Lminus T.F_Lminus.kp (K2 T) .nil B1 (A0 (A7 (A4 (K := K) rfl) (A7 (A4 (K := K) rfl) (qpv 0) (qpv 3) (fun _ _ => rfl)) A2 (fun _ _ => rfl)) (A0 (qpv 4) A1))))))
            C0)))
          C0)))
      (B0 (B4 (qpv 2)))))), ?_⟩
  refine Pu.E5 h ?_
  rintro as Qp ⟨cs, w, rfl, sh, sw, k⟩
  have hl := sh.le
  have hne := sh.ne
  obtain ⟨m, _, hm, h1, h2⟩ := P3 w sh.ri
  have e0 : cs[0]? = some cs[0] := List.getElem?_eq_getElem (by omega)
  refine hd fun R hR => ?_
  trivial
  subst hR
  refine hd fun R hR => ?_
  trivial
  refine ⟨⟨by omega, by omega⟩, A2n (fun i e => ∃ (x : PyData) (o3 o4 : Option SV), e = [some (.bor (cs.map dcn)), some (.d (dq w)), some (.d x), o3, o4] /\ (m = 0 -> x = .none) /\ (1 <= m -> m <= i -> x = dq (ev cs w))) ⟨_, _, _, rfl, fun _ => rfl, fun h g => absurd g (by omega)⟩ ?_ ?_⟩
  · rintro i e hi ⟨x, o3, o4, rfl, g1, g2⟩
    have hi : i < cs.length := by omega
    obtain ⟨c, hc⟩ : ∃ c, cs[i]? = some c := ⟨_, List.getElem?_eq_getElem hi⟩
    have sc := sh.sm c (List.mem_of_getElem? hc)
    trivial
    refine B2 hc ?_
    trivial
    refine ⟨_, _, rfl, sw.q (by decide) (by decide), sc.1.q (by decide) (by decide), ?_⟩
    trivial
    refine ite2 (fun lt => ?_) (fun lt => ?_)
    · have hmi : m <= i := by
        rcases Nat.lt_or_ge i m with z | z
        · exact absurd lt (h1 i c z hc)
        · exact z
      exact ⟨x, _, _, rfl, g1, fun a _ => g2 a hmi⟩
    · have him : i < m := by
        rcases Nat.lt_or_ge i m with z | z
        · exact z
        · exact absurd (h2 i c z hc) lt
      refine B2 hc ?_
      trivial
      refine ite2 (fun hlt => ?_) (fun hlt => ?_)
      · have hi1 : i + 1 < cs.length := by omega
        obtain ⟨d, hd⟩ : ∃ c, cs[i + 1]? = some c := ⟨_, List.getElem?_eq_getElem hi1⟩
        have sd := sh.sm d (List.mem_of_getElem? hd)
        have cd := (sh.ri i c d hc hd).1
        rw [show (i : Int) + 1 = ((i + 1 : Nat) : Int) by omega]
        refine B2 hd ?_
        trivial
        refine ⟨_, _, rfl, sw.q (by decide) (by decide), sd.1.q (by decide) (by decide), ?_⟩
        trivial
        refine ite2 (fun lt2 => ?_) (fun lt2 => ?_)
        · refine B2 hc ?_
          trivial
          refine B2 hd ?_
          trivial
          refine ⟨_, _, rfl, cd, sc, sd, ?_⟩
          trivial
          refine B2 hc ?_
          trivial
          refine ⟨_, _, rfl, sw.q (by decide) (by decide), sc.1.q (by decide) (by decide), ?_⟩
          trivial
          have sf : SmR 2800 2800 (fl c d) := ((sc.2.sub sd.2).div (sd.1.sub sc.1) (by grind)).mono (by decide) (by decide)
          refine ⟨_, _, rfl, sf.q (by decide) (by decide), (sw.sub sc.1).q (by decide) (by decide), ?_⟩
          trivial
          refine B2 hc ?_
          trivial
          refine ⟨_, _, rfl, sc.2.q (by decide) (by decide), (sf.mul (sw.sub sc.1)).q (by decide) (by decide), ?_⟩
          trivial
          exact ⟨_, _, _, rfl, fun z => absurd z (by omega), fun _ _ => by rw [V1 sh.ri hc hd lt lt2]⟩
        · refine ⟨_, _, _, rfl, fun z => absurd z (by omega), fun _ z => ?_⟩
          have : i + 1 < m := by
            rcases Nat.lt_or_ge (i + 1) m with y | y
            · exact y
            · exact absurd (h2 (i + 1) d y hd) lt2
          omega
      · refine ⟨_, _, _, rfl, fun z => absurd z (by omega), fun _ z => ?_⟩
        rw [O0 sh.ri (c := c) (by rw [show cs.length - 1 = i by omega]; exact hc) lt]
  · rintro e ⟨x, o3, o4, rfl, g1, g2⟩
    subst hR
    trivial
    unfold evD at k
    rw [R6 e0] at k
    by_cases z : m = 0
    · rw [g1 z]
      rw [if_pos (h2 0 _ (by omega) e0)] at k
      exact k
    · rw [g2 (by omega) (by omega)]
      rw [if_neg (h1 0 _ (by omega) e0)] at k
      exact k
def A17 : Pu.PSp := fun as Q => ∃ cs : List (Rat × Rat), as = [.bor (cs.map dcn)] /\ Gs cs /\ B6l cs /\ (∀ c ∈ cs, 0 <= c.1 /\ 0 <= c.2) /\ Q (.d (.bool true))
theorem U1 (T : Txt K mg D) : FnOk P w K mg base CX0 4 D.a_Lisshape D.d_Lisshape ["_law_thing"] (Pu.spOf K [.vw] A17) := by
  refine T.F_Lisshape.ok sc_Lisshape (Pu.spOf.len rfl) (fun cdv A outer s H vs Q E hr h => ?_)
  refine ⟨_, (QSs.out (A6 (D2 (QW.pt (K7 (E7 (C9 (B7 (V6 (K := K) rfl) (by rfl) T.z_isinstance (by rfl) (A0 (qpv 0) (A0 (Z5 (v := .ty "list") rfl T.z_list (by rfl) rfl) A1))))) (J3 (B6 (K4 (K := K) rfl hr.units) (qpv 0) (D8 A1) (C2 _)))))
        (B0 (B4 G2))
        C0)
      (A6 (B3 (i := 1) sc_Lisshape.nd rfl (Or.inl rfl) M4)
      (A6 (J4 PassesOwn.never rfl (N0 rfl T.z_range (A0 (B7 (C1 (K := K) rfl) (by rfl) T.z_len PySem.boot_len (A0 (qpv 0) A1)) A1)) (B8 (i := 2) sc_Lisshape.nd rfl (Or.inl rfl) (Or.inl rfl))
        (A6 (D2 (QW.pt (K7 (E7 (C9 (B7 (V6 (K := K) rfl) (by rfl) T.z_isinstance (by rfl) (A0 (A7 (A4 (K := K) rfl) (qpv 0) (qpv 2) (fun _ _ => rfl)) (A0 (Z5 (v := .ty "tuple") rfl T.z_tuple (by rfl) rfl) A1))))) (K7 (B6 (J5 (K := K) rfl hr.units) (B7 (C1 (K := K) rfl) (by rfl) T.z_len PySem.boot_len (A0 (A7 (A4 (K := K) rfl) (qpv 0) (qpv 2) (fun _ _ => rfl)) A1)) A2 (C2 _)) (K7 (B6 A48 (A7 (A4 (K := K) rfl) (A7 (A4 (K := K) rfl) (A7 (A4 (K := K) rfl) (qpv 0) (qpv 2) (fun _ _ => rfl)) A2 (fun _ _ => rfl)) A2 (fun _ _ => rfl)) A2 (C2 _)) (J3 (B6 A48 (A7 (A4 (K := K) rfl) (A7 (A4 (K := K) rfl) (A7 (A4 (K := K) rfl) (qpv 0) (qpv 2) (fun _ _ => rfl)) A2 (fun _ _ => rfl)) A2 (fun _ _ => rfl)) A2 (C2 _)))))))
          (B0 (B4 G2))
          C0)
        (A6 (D2 (B6 (B5y (K := K) rfl hr.units) G2 (F1 rfl (D4 (N' := ["_law_number"]) (cap := [none]) rfl rfl rfl rfl (by decide +kernel) rfl rfl) (D7 (K := K) rfl (B5 (B03 (K := K) rfl) (A7 (A4 (K := K) rfl) (A7 (A4 (K := K) rfl) (qpv 0) (qpv 2) (fun _ _ => rfl)) A2 (fun _ _ => rfl)) (A7 (A4 (K := K) rfl) (A7 (A4 (K := K) rfl) (qpv 0) (qpv 2) (fun _ _ => rfl)) A2 (fun _ _ => rfl)))) (fun _ _ _ => (B8 (i := 0) (show (["_law_number"] : List Str).Nodup from by decide +kernel) rfl (Or.inl rfl) (Or.inr rfl))) (fun _ _ _ => F0) (fun _ _ _ => (B7 (V6 (K := K) rfl) (by rfl) T.z_isinstance (by rfl) (A0 (qpv 0) (A0 (Z5 (v := .ty "bool") rfl T.z_bool (by rfl) rfl) A1))))) (by with_unfolding_all rfl))
          (B0 (B4 G2))
          C0)
        (B0 (D2 (B6 A0d (qpv 2) A2 (C2 _))
          (A6 (D2 (QW.pt (K7 (E7 (C9 (A5 (D9 (K := K) T) hr.mo rfl T.m_Lunder T.F_Lunder.kp (F6 T) .nil B1 (A0 (A7 (A4 (K := K) rfl) (A7 (A4 (K := K) rfl) (qpv 0) (B5 Q3 (qpv 2) A2) (fun _ _ => rfl)) A2 (fun _ _ => rfl)) (A0 (A7 (A4 (K := K) rfl) (A7 (A4 (K := K) rfl) (qpv 0) (qpv 2) (fun _ _ => rfl)) A2 (fun _ _ => rfl)) A1))))) (J3 (E7 (C9 (A5 (D9 (K := K) T) hr.mo rfl T.m_Lunder T.F_Lunder.kp (F6 T) .nil B1 (A0 (A7 (A4 (K := K) rfl) (A7 (A4 (K := K) rfl) (qpv 0) (qpv 2) (fun _ _ => rfl)) A2 (fun _ _ => rfl)) (A0 (A7 (A4 (K := K) rfl) (A7 (A4 (K := K) rfl) (qpv 0) (B5 Q3 (qpv 2) A2) (fun _ _ => rfl)) A2 (fun _ _ => rfl)) A1))))))))
            (B0 (B4 G2))
            C0)
          (A6 (B3 (i := 3) sc_Lisshape.nd rfl (Or.inl rfl) (A5 (A3t (K := K) T) hr.mo rfl T.m_Lfall T.F_Lfall.kp (B0c T) .nil B1 (A0 (A7 (A4 (K := K) rfl) (qpv 0) (B5 Q3 (qpv 2) A2) (fun _ _ => rfl)) (A0 (A7 (A4 (K := K) rfl) (qpv 0) (qpv 2) (fun _ _ => rfl)) A1))))
          (A6 (D2 (QW.pt (S3 (B6 B02 (qpv 1) M4 (C2 _)) (O2 (E7 (C9 (A5 (D9 (K := K) T) hr.mo rfl T.m_Lunder T.F_Lunder.kp (F6 T) .nil B1 (A0 (qpv 3) (A0 (qpv 1) A1))))))))
            (B0 (B4 G2))
            C0)
          (B0 (B3 (i := 1) sc_Lisshape.nd rfl (Or.inl rfl) (qpv 3))))))
          C0)))))
      (B0 (B4 G2)))))), ?_⟩
  refine Pu.E5 h ?_
  rintro as Qp ⟨cs, rfl, sh, fa, nn, k⟩
  have hl := sh.le
  have hne := sh.ne
  refine hd fun R hR => ?_
  trivial
  refine ⟨Y1 cs, B4a cs, ?_⟩
  rw [B9g hne]
  trivial
  subst hR
  refine hd fun R hR => ?_
  trivial
  subst hR
  refine hd fun R hR => ?_
  trivial
  refine ⟨⟨by omega, by omega⟩, A2n (fun i e => ∃ (x : PyData) (o2 o3 : Option SV), e = [some (.bor (cs.map dcn)), some (.d x), o2, o3] /\ (i <= 1 -> x = .none) /\ ∀ (j : Nat) c d, i = j + 2 -> cs[j]? = some c -> cs[j + 1]? = some d -> x = dq (fl c d)) ⟨_, _, _, rfl, fun _ => rfl, fun j c d h => absurd h (by omega)⟩ ?_ ?_⟩
  · rintro i e hi ⟨x, o2, o3, rfl, g1, g2⟩
    have hi : i < cs.length := by omega
    obtain ⟨c, hc⟩ : ∃ c, cs[i]? = some c := ⟨_, List.getElem?_eq_getElem hi⟩
    have sc := sh.sm c (List.mem_of_getElem? hc)
    have nc := nn c (List.mem_of_getElem? hc)
    refine hd fun R2 hR2 => ?_
    trivial
    refine B2 hc ?_
    trivial
    refine B2 hc ?_
    trivial
    rw [B56]
    trivial
    refine B2 hc ?_
    trivial
    rw [if_neg (B3k nc.1)]
    refine B2 hc ?_
    trivial
    rw [if_neg (B3k nc.2)]
    subst hR2
    refine hd fun R2 hR2 => ?_
    trivial
    refine B2 hc ?_
    trivial
    refine B2 hc ?_
    trivial
    rw [B9o]
    refine ⟨by decide, ?_⟩
    trivial
    refine ⟨by decide, ⟨fun i e ys => ∃ o : Option SV, e = [o] /\ ys = List.replicate i (.bool false), ⟨_, rfl, rfl⟩, ?_, ?_⟩⟩
    · rintro i x e ys hx ⟨o, rfl, rfl⟩
      obtain ⟨z, rfl⟩ : ∃ z, x = PyData.int z := by
        rcases i with _ | _ | _ | _ | i <;> simp at hx <;> exact ⟨_, hx.symm⟩
      trivial
      exact ⟨_, rfl, (List.replicate_succ' ..).symm⟩
    rintro e ys ⟨o, rfl, rfl⟩
    trivial
    refine ⟨rfl, ?_⟩
    rw [show (List.any [PyData.bool false, .bool false, .bool false, .bool false] fun z => z.eqv (.bool true)) = false from rfl]
    trivial
    subst hR2
    trivial
    refine ite2 (fun hp => ?_) (fun hp => ?_)
    · obtain ⟨j, rfl⟩ : ∃ j, i = j + 1 := ⟨i - 1, by omega⟩
      obtain ⟨b, hb⟩ : ∃ b, cs[j]? = some b := ⟨_, List.getElem?_eq_getElem (by omega)⟩
      have sb := sh.sm b (List.mem_of_getElem? hb)
      have bc := sh.ri j b c hb hc
      have ej : ((j + 1 : Nat) : Int) - 1 = ((j : Nat) : Int) := by omega
      rw [ej]
      refine B2 hb ?_
      trivial
      refine B2 hc ?_
      trivial
      refine ⟨_, _, rfl, sb.1.q (by decide) (by decide), sc.1.q (by decide) (by decide), ?_⟩
      trivial
      rw [if_pos bc.1]
      refine B2 hc ?_
      trivial
      (try rw [ej])
      refine B2 hb ?_
      trivial
      refine ⟨_, _, rfl, sc.2.q (by decide) (by decide), sb.2.q (by decide) (by decide), ?_⟩
      trivial
      rw [if_pos bc.2]
      (try rw [ej])
      refine B2 hb ?_
      trivial
      refine B2 hc ?_
      trivial
      refine ⟨_, _, rfl, bc.1, sb, sc, ?_⟩
      trivial
      have nx : ∀ (j' : Nat) c' d', j + 1 + 1 = j' + 2 -> cs[j']? = some c' -> cs[j' + 1]? = some d' -> dq (fl b c) = dq (fl c' d') := fun j' c' d' e h1 h2 => by
        have : j' = j := by omega
        subst this
        rw [hb] at h1; rw [hc] at h2; cases h1; cases h2; rfl
      rcases Nat.eq_zero_or_pos j with z | z
      · rw [g1 (by omega)]
        trivial
        exact ⟨_, _, _, rfl, fun h => h.elim, nx⟩
      · obtain ⟨l, rfl⟩ : ∃ l, j = l + 1 := ⟨j - 1, by omega⟩
        obtain ⟨a, ha⟩ : ∃ a, cs[l]? = some a := ⟨_, List.getElem?_eq_getElem (by omega)⟩
        have sa := sh.sm a (List.mem_of_getElem? ha)
        have ab := sh.ri l a b ha hb
        rw [g2 l a b rfl ha hb]
        have s1 : SmR 2800 2800 (fl a b) := ((sa.2.sub sb.2).div (sb.1.sub sa.1) (by grind)).mono (by decide) (by decide)
        have s2 : SmR 2800 2800 (fl b c) := ((sb.2.sub sc.2).div (sc.1.sub sb.1) (by grind)).mono (by decide) (by decide)
        trivial
        refine ⟨_, _, rfl, s2.q (by decide) (by decide), s1.q (by decide) (by decide), ?_⟩
        trivial
        rw [if_pos (fa l a b c ha hb hc)]
        exact ⟨_, _, _, rfl, fun h => h.elim, nx⟩
    · have : i = 0 := by omega
      subst this
      exact ⟨_, _, _, rfl, fun _ => g1 (by omega), fun j c d h => absurd h (by omega)⟩
  · rintro e ⟨x, o2, o3, rfl, g1, g2⟩
    subst hR
    trivial
    exact k
def A6a : Pu.PSp := fun as Q => ∃ ms : List Rat, as = [.bor (ms.map dq)] /\ ms.length <= 200 /\ (∀ m ∈ ms, On LL (2 ^ 56) m) /\ ∀ ws : List Rat, (∀ w ∈ ws, Wp w) -> Q (.own (ws.map dq))
theorem A04 (T : Txt K mg D) : FnOk P w K mg base CX0 3 D.a_Lspots D.d_Lspots ["_law_marks"] (Pu.spOf K [.vw] A6a) := by
  refine T.F_Lspots.ok sc_Lspots (Pu.spOf.len rfl) (fun cdv A outer s H vs Q E hr h => ?_)
  refine ⟨_, (QSs.out (A6 (B3 (i := 1) sc_Lspots.nd rfl (Or.inl rfl) (D8 A1))
      (A6 (J4 PassesOwn.never rfl (N0 rfl T.z_range (A0 (B7 (C1 (K := K) rfl) (by rfl) T.z_len PySem.boot_len (A0 (qpv 0) A1)) A1)) (B8 (i := 2) sc_Lspots.nd rfl (Or.inl rfl) (Or.inl rfl))
        (A6 (B3 (i := 1) sc_Lspots.nd rfl (Or.inl rfl) (B5 (P5 (K := K) rfl) (qpv 1) (D8 (A0 (A7 (A4 (K := K) rfl) (qpv 0) (qpv 2) (fun _ _ => rfl)) (A0 (A5 (I0 (K := K) T) hr.mo rfl T.m_Lplus T.F_Lplus.kp (L9 T) .nil B1 (A0 (A7 (A4 (K := K) rfl) (qpv 0) (qpv 2) (fun _ _ => rfl)) (A0 (D5 (A0 A2 (A0 A2 A1))) A1))) A1)))))
        (B0 (G8 (F4 (K := K) rfl PySem.F.plainAttrs_list PySem.F.slot_list_append PySem.F.type_list_append F5 (qpv 1) (A0 (A5 (K8 (K := K) T) hr.mo rfl T.m_Ltimes T.F_Ltimes.kp (N4 T) .nil B1 (A0 (A5 (I0 (K := K) T) hr.mo rfl T.m_Lplus T.F_Lplus.kp (L9 T) .nil B1 (A0 (A7 (A4 (K := K) rfl) (qpv 0) (qpv 2) (fun _ _ => rfl)) (A0 (A7 (A4 (K := K) rfl) (qpv 0) (B5 Q3 (qpv 2) A2) (fun _ _ => rfl)) A1))) (A0 (D5 (A0 A2 (A0 A2 A1))) A1))) A1))))))
      (B0 (B4 (qpv 1)))))), ?_⟩
  refine Pu.E5 h ?_
  rintro as Qp ⟨ms, rfl, hl, hm, k⟩
  refine hd fun R hR => ?_
  trivial
  subst hR
  refine hd fun R hR => ?_
  trivial
  refine ⟨⟨by omega, by omega⟩, A2n (fun i e => ∃ (ws : List Rat) (o : Option SV), e = [some (.bor (ms.map dq)), some (.own (ws.map dq)), o] /\ ws.length = 3 * i /\ ∀ w ∈ ws, Wp w) ⟨[], _, rfl, rfl, fun w z => (nomatch z)⟩ ?_ ?_⟩
  · rintro i e hi ⟨ws, o, rfl, hwl, hw⟩
    have hi : i < ms.length := by omega
    obtain ⟨m, hc⟩ : ∃ c, ms[i]? = some c := ⟨_, List.getElem?_eq_getElem hi⟩
    obtain ⟨m', hm', ep⟩ := B43 hi
    have om := hm m (List.mem_of_getElem? hc)
    have om' := hm m' hm'
    have sm : SmR 160 95 m := (O1 om (by decide)).sm
    have sm' : SmR 160 95 m' := (O1 om' (by decide)).sm
    refine hd fun R2 hR2 => ?_
    trivial
    refine B2 hc ?_
    trivial
    refine B2 hc ?_
    rw [B0k]
    trivial
    refine ⟨_, _, rfl, sm.q (by decide) (by decide), (SmR.low (n := 2) (d := 3) (by unfold Sm; decide) (by unfold Sm; decide) (by decide)).q (by decide) (by decide), ?_⟩
    trivial
    refine ⟨by omega, ?_⟩
    have e1 : ws.map dq ++ [dq m, dq (m + Rat.divInt 1 3)] = (ws ++ [m, m + Rat.divInt 1 3]).map dq := by rw [List.map_append]; rfl
    rw [e1]
    subst hR2
    trivial
    refine B2 hc ?_
    trivial
    refine P4 ep ?_
    trivial
    refine ⟨_, _, rfl, sm.q (by decide) (by decide), sm'.q (by decide) (by decide), ?_⟩
    trivial
    refine ⟨_, _, rfl, (sm.add sm').q (by decide) (by decide), sm_half.q (by decide) (by decide), ?_⟩
    trivial
    refine ⟨by simp; omega, ws ++ [m, m + Rat.divInt 1 3] ++ [(m + m') * Rat.divInt 1 2], _, by rw [List.map_append (l₁ := ws ++ _)]; rfl, by simp; omega, fun w h => ?_⟩
    rcases List.mem_append.mp h with z | z
    · rcases List.mem_append.mp z with z | z
      · exact hw w z
      · rcases List.mem_cons.mp z with rfl | z
        · exact B9z om (by decide)
        · cases List.mem_singleton.mp z; exact B0g om
    · cases List.mem_singleton.mp z; exact B4c om om'
  · rintro e ⟨ws, o, rfl, hwl, hw⟩
    subst hR
    trivial
    exact k ws hw
def T1 : Pu.PSp := fun as Q => ∃ (c1 c2 : Rat × Rat) (ps qs : List (Rat × Rat)) (vs : List Rat), as = [.bor ((bnd c1 ps).map dcn), .bor ((bnd c2 qs).map dcn), .bor ((bsL c1 c2 ps qs vs).map dcn)] /\ Sh c1 ps /\ Sh c2 qs /\ Bs c1 c2 ps qs (fst2 c1 c2) vs /\ vs.length <= 26 /\ Q (.d (.bool true))
theorem U2 (T : Txt K mg D) : FnOk P w K mg base CX0 5 D.a_Lbesideright D.d_Lbesideright ["_law_one", "_law_other", "_law_told"] (Pu.spOf K [.vw, .vw, .vw] T1) := by
  refine T.F_Lbesideright.ok sc_Lbesideright (Pu.spOf.len rfl) (fun cdv A outer s H vs Q E hr h => ?_)
  refine ⟨_, (QSs.out (A6 (B3 (i := 3) sc_Lbesideright.nd rfl (Or.inl rfl) (A7 (A4 (K := K) rfl) (A7 (A4 (K := K) rfl) (qpv 0) A2 (fun _ _ => rfl)) A2 (fun _ _ => rfl)))
      (A6 (D2 (C9 (A5 (D9 (K := K) T) hr.mo rfl T.m_Lunder T.F_Lunder.kp (F6 T) .nil B1 (A0 (qpv 3) (A0 (A7 (A4 (K := K) rfl) (A7 (A4 (K := K) rfl) (qpv 1) A2 (fun _ _ => rfl)) A2 (fun _ _ => rfl)) A1))))
        (B0 (B3 (i := 3) sc_Lbesideright.nd rfl (Or.inl rfl) (A7 (A4 (K := K) rfl) (A7 (A4 (K := K) rfl) (qpv 1) A2 (fun _ _ => rfl)) A2 (fun _ _ => rfl))))
        C0)
      (A6 (D2 (QW.pt (K7 (E7 (C9 (A5 (U1 (K := K) T) hr.mo rfl T.m_Lisshape T.F_Lisshape.kp (Y4 T) .nil B1 (A0 (qpv 2) A1)))) (J3 (B6 (J5 (K := K) rfl hr.units) (A7 (A4 (K := K) rfl) (A7 (A4 (K := K) rfl) (qpv 2) A2 (fun _ _ => rfl)) A2 (fun _ _ => rfl)) (qpv 3) (C2 _)))))
        (B0 (B4 G2))
        C0)
      (A6 (J4 PassesOwn.never rfl (D7 (K := K) rfl (A5 (A04 (K := K) T) hr.mo rfl T.m_Lspots T.F_Lspots.kp (A4r T) .nil B1 (A0 (F1 rfl (D4 (N' := ["_law_bend"]) (cap := [none]) rfl rfl rfl rfl (by decide +kernel) rfl rfl) (D7 (K := K) rfl (B5 (P5 (K := K) rfl) (B5 (P5 (K := K) rfl) (qpv 0) (qpv 1)) (qpv 2))) (fun _ _ _ => (B8 (i := 0) (show (["_law_bend"] : List Str).Nodup from by decide +kernel) rfl (Or.inl rfl) (Or.inr rfl))) (fun _ _ _ => F0) (fun _ _ _ => (A7 (A4 (K := K) rfl) (qpv 0) A2 (fun _ _ => rfl)))) A1))) (B8 (i := 4) sc_Lbesideright.nd rfl (Or.inl rfl) (Or.inl rfl))
        (B0 (D2 (E7 (C9 (A5 (D9 (K := K) T) hr.mo rfl T.m_Lunder T.F_Lunder.kp (F6 T) .nil B1 (A0 (qpv 4) (A0 (qpv 3) A1)))))
          (B0 (D2 (B6 (J5 (K := K) rfl hr.units) (A5 (K9 (K := K) T) hr.mo rfl T.m_Lprice T.F_Lprice.kp (N5 T) .nil B1 (A0 (qpv 2) (A0 (qpv 4) A1))) (A5 (I0 (K := K) T) hr.mo rfl T.m_Lplus T.F_Lplus.kp (L9 T) .nil B1 (A0 (A5 (K9 (K := K) T) hr.mo rfl T.m_Lprice T.F_Lprice.kp (N5 T) .nil B1 (A0 (qpv 0) (A0 (qpv 4) A1))) (A0 (A5 (K9 (K := K) T) hr.mo rfl T.m_Lprice T.F_Lprice.kp (N5 T) .nil B1 (A0 (qpv 1) (A0 (qpv 4) A1))) A1))) (C2 _))
            (B0 (B4 G2))
            C0))
          C0)))
      (B0 (B4 G2))))))), ?_⟩
  refine Pu.E5 h ?_
  rintro as Qp ⟨c1, c2, ps, qs, vs, rfl, h1, h2, B, hl, k⟩
  obtain ⟨G, N⟩ := B.gs h1 h2 hl
  have l1 := h1.le
  have l2 := h2.le
  have o1 := (h1.on c1 (E6 _ _)).1
  have o2 := (h2.on c2 (E6 _ _)).1
  have q1 : SmQ 3900 c1.1 := (O1 o1 (by decide)).q
  have q2 : SmQ 3900 c2.1 := (O1 o2 (by decide)).q
  have f12 := B6d c1 c2
  have qf : SmQ 3900 (fst2 c1 c2) := by unfold fst2; split <;> assumption
  have b0 : (bsL c1 c2 ps qs vs)[0]? = some (fst2 c1 c2, bsE c1 c2 ps qs (fst2 c1 c2)) := by unfold bsL; rw [List.getElem?_map, B.h0]; rfl
  refine hd fun R hR => ?_
  trivial
  refine B2 (n := 0) (C5 _ _) ?_
  trivial
  subst hR
  refine N8 (fun e => e = [some (.bor ((bnd c1 ps).map dcn)), some (.bor ((bnd c2 qs).map dcn)), some (.bor ((bsL c1 c2 ps qs vs).map dcn)), some (.d (dq (fst2 c1 c2))), none]) (fun R hR => ?_) ?_
  · trivial
    refine B2 (n := 0) (C5 _ _) ?_
    trivial
    refine ⟨_, _, rfl, q1, q2, ?_⟩
    trivial
    refine ite2 (fun h => ?_) (fun h => ?_)
    · refine B2 (n := 0) (C5 _ _) ?_
      trivial
      refine hR _ ?_
      unfold fst2; rw [if_pos h]
    · refine hR _ ?_
      unfold fst2; rw [if_neg h]
  rintro e rfl
  refine hd fun R hR => ?_
  trivial
  refine ⟨_, rfl, G, B.fall, N, ?_⟩
  trivial
  refine B2 (n := 0) b0 ?_
  trivial
  subst hR
  refine hd fun R hR => ?_
  trivial
  refine ⟨by rw [C4, C4]; omega, ?_⟩
  rw [<- List.map_append]
  refine ⟨by simp only [List.length_map, List.length_append, C4, bsL]; omega, ?_⟩
  rw [<- List.map_append]
  trivial
  have big : (bnd c1 ps ++ bnd c2 qs ++ bsL c1 c2 ps qs vs).length <= 52 := by rw [List.length_append, List.length_append, C4, C4]; unfold bsL; rw [List.length_map]; omega
  refine ⟨by omega, G1 (fun i e ys => ∃ o : Option SV, e = [o] /\ ys = (((bnd c1 ps ++ bnd c2 qs ++ bsL c1 c2 ps qs vs).take i).map (·.1)).map dq) ⟨_, rfl, rfl⟩ ?_ ?_⟩
  · rintro i c e ys hc ⟨o, rfl, rfl⟩
    trivial
    exact ⟨_, rfl, by rw [List.take_succ, hc]; simp⟩
  rintro e ys ⟨o, rfl, rfl⟩
  rw [List.take_length]
  trivial
  refine ⟨_, rfl, by rw [List.length_map]; omega, fun m hm => ?_, fun ws hws => ?_⟩
  · obtain ⟨d, hd, rfl⟩ := List.mem_map.mp hm
    rcases List.mem_append.mp hd with z | z
    · rcases List.mem_append.mp z with z | z
      · exact (h1.on d z).1.p2 (by decide)
      · exact (h2.on d z).1.p2 (by decide)
    · obtain ⟨v, hv, rfl⟩ := List.mem_map.mp z
      exact (B.wh h1 h2 hv).p2 (by decide)
  trivial
  refine U9 (fun i e => ∃ o : Option SV, e = [some (.bor ((bnd c1 ps).map dcn)), some (.bor ((bnd c2 qs).map dcn)), some (.bor ((bsL c1 c2 ps qs vs).map dcn)), some (.d (dq (fst2 c1 c2))), o]) ⟨_, rfl⟩ ?_ ?_
  · rintro i w e hw ⟨o, rfl⟩
    have W := (hws w (List.mem_of_getElem? hw)).h
    trivial
    refine ⟨_, _, rfl, W.q, qf, ?_⟩
    trivial
    refine ite2 (fun h => ⟨_, rfl⟩) (fun h => ?_)
    have g1 : c1.1 <= w := by grind
    have g2 : c2.1 <= w := by grind
    refine ⟨_, _, rfl, G, W.p, ?_⟩
    have ed : evD (bsL c1 c2 ps qs vs) w = dq (ev (bnd c1 ps) w + ev (bnd c2 qs) w) := by
      unfold evD
      rw [R6 b0, if_neg h, B.ev (by grind)]; rfl
    rw [ed]
    trivial
    refine ⟨_, _, rfl, h1.gs, W.p, ?_⟩
    rw [V2 g1]
    trivial
    refine ⟨_, _, rfl, h2.gs, W.p, ?_⟩
    rw [V2 g2]
    trivial
    refine ⟨_, _, rfl, (h1.sm W g1).q (by decide) (by decide), (h2.sm W g2).q (by decide) (by decide), ?_⟩
    trivial
    exact ⟨_, rfl⟩
  · rintro e ⟨o, rfl⟩
    subst hR
    trivial
    exact k
def T0 : Pu.PSp := fun as Q => ∃ (c1 c2 : Rat × Rat) (ps qs ms : List (Rat × Rat)) (r : Rat), as = [.bor ((bnd c1 ps).map dcn), .bor ((bnd c2 qs).map dcn), .d (dq r)] /\ Sh c1 ps /\ Sh c2 qs /\ Mg ps qs ms /\ On (LL * 6) (2 ^ 62) r /\ c1.1 + c2.1 <= r /\ Q (.d (dq (c1.2 + c2.2 - Dw ms (r - c1.1 - c2.1))))
theorem T9 (T : Txt K mg D) : FnOk P w K mg base CX0 5 D.a_Lpartedprice D.d_Lpartedprice ["_law_one", "_law_other", "_law_room"] (Pu.spOf K [.vw, .vw, .dat] T0) := by
  refine T.F_Lpartedprice.ok sc_Lpartedprice (Pu.spOf.len rfl) (fun cdv A outer s H vs Q E hr h => ?_)
  refine ⟨_, (QSs.out (A6 (B3 (i := 3) sc_Lpartedprice.nd rfl (Or.inl rfl) M4)
      (A6 (J4 PassesOwn.never rfl (D7 (K := K) rfl (B5 (P5 (K := K) rfl) (F1 rfl (D4 (N' := ["_law_bend"]) (cap := [none]) rfl rfl rfl rfl (by decide +kernel) rfl rfl) (D7 (K := K) rfl (qpv 0)) (fun _ _ _ => (B8 (i := 0) (show (["_law_bend"] : List Str).Nodup from by decide +kernel) rfl (Or.inl rfl) (Or.inr rfl))) (fun _ _ _ => F0) (fun _ _ _ => (A7 (A4 (K := K) rfl) (qpv 0) A2 (fun _ _ => rfl)))) (F1 rfl (D4 (N' := ["_law_room", "_law_bend"]) (cap := [some 2, none]) rfl rfl rfl rfl (by decide +kernel) rfl rfl) (D7 (K := K) rfl (qpv 1)) (fun _ _ _ => (B8 (i := 1) (show (["_law_room", "_law_bend"] : List Str).Nodup from by decide +kernel) rfl (Or.inl rfl) (Or.inr rfl))) (fun _ _ _ => F0) (fun _ _ _ => (A5 (G4 (K := K) T) hr.mo rfl T.m_Lminus T.F_Lminus.kp (K2 T) .nil B1 (A0 (qpv 0) (A0 (A7 (A4 (K := K) rfl) (qpv 1) A2 (fun _ _ => rfl)) A1))))))) (B8 (i := 4) sc_Lpartedprice.nd rfl (Or.inl rfl) (Or.inl rfl))
        (A6 (B3 (i := 5) sc_Lpartedprice.nd rfl (Or.inl rfl) (A5 (G4 (K := K) T) hr.mo rfl T.m_Lminus T.F_Lminus.kp (K2 T) .nil B1 (A0 (qpv 2) (A0 (qpv 4) A1))))
        (B0 (D2 (QW.pt (S3 (E7 (C9 (A5 (D9 (K := K) T) hr.mo rfl T.m_Lunder T.F_Lunder.kp (F6 T) .nil B1 (A0 (qpv 4) (A0 (A7 (A4 (K := K) rfl) (A7 (A4 (K := K) rfl) (qpv 0) A2 (fun _ _ => rfl)) A2 (fun _ _ => rfl)) A1))))) (O2 (E7 (C9 (A5 (D9 (K := K) T) hr.mo rfl T.m_Lunder T.F_Lunder.kp (F6 T) .nil B1 (A0 (qpv 5) (A0 (A7 (A4 (K := K) rfl) (A7 (A4 (K := K) rfl) (qpv 1) A2 (fun _ _ => rfl)) A2 (fun _ _ => rfl)) A1))))))))
          (A6 (B3 (i := 6) sc_Lpartedprice.nd rfl (Or.inl rfl) (A5 (I0 (K := K) T) hr.mo rfl T.m_Lplus T.F_Lplus.kp (L9 T) .nil B1 (A0 (A5 (K9 (K := K) T) hr.mo rfl T.m_Lprice T.F_Lprice.kp (N5 T) .nil B1 (A0 (qpv 0) (A0 (qpv 4) A1))) (A0 (A5 (K9 (K := K) T) hr.mo rfl T.m_Lprice T.F_Lprice.kp (N5 T) .nil B1 (A0 (qpv 1) (A0 (qpv 5) A1))) A1))))
          (B0 (D2 (QW.pt (K7 (B6 A7g (qpv 3) M4 (C2 _)) (J3 (C9 (A5 (D9 (K := K) T) hr.mo rfl T.m_Lunder T.F_Lunder.kp (F6 T) .nil B1 (A0 (qpv 6) (A0 (qpv 3) A1)))))))
            (B0 (B3 (i := 3) sc_Lpartedprice.nd rfl (Or.inl rfl) (qpv 6)))
            C0)))
          C0))))
      (B0 (B4 (qpv 3)))))), ?_⟩
  refine Pu.E5 h ?_
  rintro as Qp ⟨c1, c2, ps, qs, ms, r, rfl, h1, h2, M, or, hr, k⟩
  have C := M.cv h1.srt h2.srt
  have l1 := h1.le
  have l2 := h2.le
  have wr : Wh r := or.p2 (by decide)
  have o1 := (h1.on c1 (E6 _ _)).1
  have o2 := (h2.on c2 (E6 _ _)).1
  have q1 : SmQ 3900 c1.1 := (O1 o1 (by decide)).q
  have q2 : SmQ 3900 c2.1 := (O1 o2 (by decide)).q
  obtain ⟨m0, v1, v2, v3, v4⟩ := C.hit hr
  obtain ⟨i0, hi0⟩ := List.mem_iff_getElem?.mp v4
  generalize hT : c1.2 + c2.2 - Dw ms (r - c1.1 - c2.1) = T at k v3
  have low : ∀ m, c1.1 <= m -> c2.1 <= r - m -> T <= ev (bnd c1 ps) m + ev (bnd c2 qs) (r - m) := fun m a b => by rw [<- hT]; exact C.low a b
  refine hd fun R hR => ?_
  trivial
  subst hR
  refine hd fun R hR => ?_
  trivial
  refine ⟨by rw [C4]; omega, G1 (fun i e ys => ∃ o : Option SV, e = [o] /\ ys = (((bnd c1 ps).take i).map (·.1)).map dq) ⟨_, rfl, rfl⟩ ?_ ?_⟩
  · rintro i c e ys hc ⟨o, rfl, rfl⟩
    trivial
    exact ⟨_, rfl, by rw [List.take_succ, hc]; simp⟩
  rintro e ys ⟨o, rfl, rfl⟩
  rw [List.take_length]
  trivial
  refine ⟨by rw [C4]; omega, G1 (fun i e ys => ∃ o : Option SV, e = [some (.d (dq r)), o] /\ ys = (((bnd c2 qs).take i).map fun d => r - d.1).map dq) ⟨_, rfl, rfl⟩ ?_ ?_⟩
  · rintro i c e ys hc ⟨o, rfl, rfl⟩
    trivial
    refine ⟨_, _, rfl, wr.q, (O1 (h2.on c (List.mem_of_getElem? hc)).1 (by decide)).q, ?_⟩
    trivial
    exact ⟨_, rfl, by rw [List.take_succ, hc]; simp⟩
  rintro e ys ⟨o, rfl, rfl⟩
  rw [List.take_length]
  trivial
  refine ⟨by rw [C4, C4]; omega, ?_⟩
  rw [<- List.map_append]
  generalize hL : (bnd c1 ps).map (·.1) ++ (bnd c2 qs).map (fun d => r - d.1) = L at hi0
  have onL' : ∀ m ∈ L, On (LL * 6) (2 ^ 63) m := fun m hm => by
    rw [<- hL] at hm
    rcases List.mem_append.mp hm with z | z <;> obtain ⟨d, hd, rfl⟩ := List.mem_map.mp z
    · exact (T3 (h1.on d hd).1).p2 (by decide)
    · exact On.sub2 V8 or ((T3 (h2.on d hd).1).p2 (by decide)) (Nat.le_refl _)
  trivial
  refine U9 (fun i e => ∃ (x : PyData) (o4 o5 o6 : Option SV), e = [some (.bor ((bnd c1 ps).map dcn)), some (.bor ((bnd c2 qs).map dcn)), some (.d (dq r)), some (.d x), o4, o5, o6] /\ (x = .none \/ ∃ v, x = dq v /\ T <= v /\ SmQ 3900 v) /\ (i0 < i -> x = dq T)) ⟨_, _, _, _, rfl, .inl rfl, fun h => absurd h (by omega)⟩ ?_ ?_
  · rintro i m e hm ⟨x, o4, o5, o6, rfl, g1, g2⟩
    have om := onL' m (List.mem_of_getElem? hm)
    have wm : Wh m := om.p2 (by decide)
    have wy : Wh (r - m) := On.sub2 V8 (or.p2 (by decide)) om (Nat.le_refl _)
    have keep : (m < c1.1 \/ r - m < c2.1) -> i0 < i + 1 -> x = dq T := fun h hi => by
      rcases Nat.lt_or_ge i0 i with z | z
      · exact g2 z
      · exfalso
        have : i0 = i := by omega
        subst this
        rw [hi0] at hm
        have := Option.some.inj hm
        grind
    refine hd fun R2 hR2 => ?_
    trivial
    refine ⟨_, _, rfl, wr.q, wm.q, ?_⟩
    trivial
    subst hR2
    trivial
    refine B2 (n := 0) (C5 _ _) ?_
    trivial
    refine ⟨_, _, rfl, wm.q, q1, ?_⟩
    trivial
    refine ite2 (fun h => ?_) (fun h => ?_)
    · exact ⟨_, _, _, _, rfl, g1, keep (.inl h)⟩
    refine B2 (n := 0) (C5 _ _) ?_
    trivial
    refine ⟨_, _, rfl, wy.q, q2, ?_⟩
    trivial
    refine ite2 (fun h' => ?_) (fun h' => ?_)
    · exact ⟨_, _, _, _, rfl, g1, keep (.inr h')⟩
    have a1 : c1.1 <= m := by grind
    have a2 : c2.1 <= r - m := by grind
    refine ⟨_, _, rfl, h1.gs, wm.p, ?_⟩
    rw [V2 a1]
    trivial
    refine ⟨_, _, rfl, h2.gs, wy.p, ?_⟩
    rw [V2 a2]
    trivial
    refine ⟨_, _, rfl, (h1.sm wm a1).q (by decide) (by decide), (h2.sm wy a2).q (by decide) (by decide), ?_⟩
    have lo := low m a1 a2
    have sv : SmQ 3900 (ev (bnd c1 ps) m + ev (bnd c2 qs) (r - m)) := ((h1.sm wm a1).add (h2.sm wy a2)).q (by decide) (by decide)
    have hit : i0 = i -> ev (bnd c1 ps) m + ev (bnd c2 qs) (r - m) = T := fun z => by
      subst z
      rw [hi0] at hm
      have := Option.some.inj hm
      rw [<- this]; exact v3
    trivial
    generalize ev (bnd c1 ps) m + ev (bnd c2 qs) (r - m) = V at lo sv hit
    rcases g1 with rfl | ⟨v, rfl, tv, sq⟩
    · trivial
      exact ⟨_, _, _, _, rfl, .inr ⟨V, rfl, lo, sv⟩, fun hi => by
        rcases Nat.lt_or_ge i0 i with z | z
        · have := g2 z; cases this
        · rw [hit (by omega)]⟩
    · trivial
      refine ⟨_, _, rfl, sv, sq, ?_⟩
      trivial
      refine ite2 (fun lt => ?_) (fun lt => ?_)
      · exact ⟨_, _, _, _, rfl, .inr ⟨V, rfl, lo, sv⟩, fun hi => by
          rcases Nat.lt_or_ge i0 i with z | z
          · have e : v = T := by
              have := g2 z
              have h3 : PyData.eqv (dq v) (dq T) = true := by rw [this, A4i]; simp
              rw [A4i] at h3; simpa using h3
            exfalso; grind
          · rw [hit (by omega)]⟩
      · exact ⟨_, _, _, _, rfl, .inr ⟨v, rfl, tv, sq⟩, fun hi => by
          rcases Nat.lt_or_ge i0 i with z | z
          · exact g2 z
          · have := hit (by omega)
            rw [show v = T by grind]⟩
  · rintro e ⟨x, o4, o5, o6, rfl, g1, g2⟩
    subst hR
    trivial
    rw [g2 (List.getElem?_eq_some_iff.mp hi0).1]
    exact k
def T2 : Pu.PSp := fun as Q => ∃ (c1 c2 : Rat × Rat) (ps qs ms : List (Rat × Rat)) (w : Rat), as = [.bor ((bnd c1 ps).map dcn), .bor ((bnd c2 qs).map dcn), .d (dq w), .bor ((bnd (jc c1 c2 w) ms).map dcn)] /\ Sh c1 ps /\ Sh c2 qs /\ Mg ps qs ms /\ ms.length <= 24 /\ 0 <= w /\ On LL (2 ^ 41) w /\ (∀ d ∈ bnd (jc c1 c2 w) ms, On LL (2 ^ 56) d.1 /\ On (LL * LL) (2 ^ 100) d.2) /\ Q (.d (.bool true))
theorem U3 (T : Txt K mg D) : FnOk P w K mg base CX0 6 D.a_Lbehindright D.d_Lbehindright ["_law_one", "_law_other", "_law_wait", "_law_told"] (Pu.spOf K [.vw, .vw, .dat, .vw] T2) := by
  refine T.F_Lbehindright.ok sc_Lbehindright (Pu.spOf.len rfl) (fun cdv A outer s H vs Q E hr h => ?_)
  refine ⟨_, (QSs.out (A6 (B3 (i := 4) sc_Lbehindright.nd rfl (Or.inl rfl) (A5 (I0 (K := K) T) hr.mo rfl T.m_Lplus T.F_Lplus.kp (L9 T) .nil B1 (A0 (A5 (I0 (K := K) T) hr.mo rfl T.m_Lplus T.F_Lplus.kp (L9 T) .nil B1 (A0 (A7 (A4 (K := K) rfl) (A7 (A4 (K := K) rfl) (qpv 0) A2 (fun _ _ => rfl)) A2 (fun _ _ => rfl)) (A0 (A7 (A4 (K := K) rfl) (A7 (A4 (K := K) rfl) (qpv 1) A2 (fun _ _ => rfl)) A2 (fun _ _ => rfl)) A1))) (A0 (qpv 2) A1))))
      (A6 (D2 (QW.pt (K7 (E7 (C9 (A5 (U1 (K := K) T) hr.mo rfl T.m_Lisshape T.F_Lisshape.kp (Y4 T) .nil B1 (A0 (qpv 3) A1)))) (J3 (B6 (J5 (K := K) rfl hr.units) (A7 (A4 (K := K) rfl) (A7 (A4 (K := K) rfl) (qpv 3) A2 (fun _ _ => rfl)) A2 (fun _ _ => rfl)) (qpv 4) (C2 _)))))
        (B0 (B4 G2))
        C0)
      (A6 (J4 PassesOwn.never rfl (D7 (K := K) rfl (A5 (A04 (K := K) T) hr.mo rfl T.m_Lspots T.F_Lspots.kp (A4r T) .nil B1 (A0 (F1 rfl (D4 (N' := ["_law_bend"]) (cap := [none]) rfl rfl rfl rfl (by decide +kernel) rfl rfl) (D7 (K := K) rfl (qpv 3)) (fun _ _ _ => (B8 (i := 0) (show (["_law_bend"] : List Str).Nodup from by decide +kernel) rfl (Or.inl rfl) (Or.inr rfl))) (fun _ _ _ => F0) (fun _ _ _ => (A7 (A4 (K := K) rfl) (qpv 0) A2 (fun _ _ => rfl)))) A1))) (B8 (i := 5) sc_Lbehindright.nd rfl (Or.inl rfl) (Or.inl rfl))
        (B0 (D2 (E7 (C9 (A5 (D9 (K := K) T) hr.mo rfl T.m_Lunder T.F_Lunder.kp (F6 T) .nil B1 (A0 (qpv 5) (A0 (qpv 4) A1)))))
          (B0 (D2 (B6 (J5 (K := K) rfl hr.units) (A5 (K9 (K := K) T) hr.mo rfl T.m_Lprice T.F_Lprice.kp (N5 T) .nil B1 (A0 (qpv 3) (A0 (qpv 5) A1))) (A5 (T9 (K := K) T) hr.mo rfl T.m_Lpartedprice T.F_Lpartedprice.kp (W6 T) .nil B1 (A0 (qpv 0) (A0 (qpv 1) (A0 (A5 (G4 (K := K) T) hr.mo rfl T.m_Lminus T.F_Lminus.kp (K2 T) .nil B1 (A0 (qpv 5) (A0 (qpv 2) A1))) A1)))) (C2 _))
            (B0 (B4 G2))
            C0))
          C0)))
      (B0 (B4 G2)))))), ?_⟩
  refine Pu.E5 h ?_
  rintro as Qp ⟨c1, c2, ps, qs, ms, w, rfl, h1, h2, M, hl, w0, ow, hon, k⟩
  have s := M.srt h1.srt h2.srt
  have N := M.nn h1 h2 w0
  have G : Gs (bnd (jc c1 c2 w) ms) := ⟨by rw [C4]; omega, by rw [C4]; omega, K0 s, fun d hd => ⟨on_w (hon d hd).1 (by decide), (on_p (hon d hd).2 (by decide)).mono (by decide) (by decide)⟩⟩
  have o1 := (h1.on c1 (E6 _ _)).1
  have o2 := (h2.on c2 (E6 _ _)).1
  have q1 : SmQ 3900 c1.1 := (O1 o1 (by decide)).q
  have q2 : SmQ 3900 c2.1 := (O1 o2 (by decide)).q
  have q12 : SmQ 3900 (c1.1 + c2.1) := (O1 (On.add2 F3 o1 o2 (Nat.le_refl _)) (by decide)).q
  have qw : SmQ 3900 w := (O1 ow (by decide)).q
  have qj : SmQ 3900 (jc c1 c2 w).1 := (O1 (hon _ (E6 _ _)).1 (by decide)).q
  have j1 : (jc c1 c2 w).1 = c1.1 + c2.1 + w := rfl
  have j2 : (jc c1 c2 w).2 = c1.2 + c2.2 := rfl
  refine hd fun R hR => ?_
  trivial
  refine B2 (n := 0) (C5 _ _) ?_
  trivial
  refine B2 (n := 0) (C5 _ _) ?_
  trivial
  refine ⟨_, _, rfl, q1, q2, ?_⟩
  trivial
  refine ⟨_, _, rfl, q12, qw, ?_⟩
  trivial
  rw [<- j1]
  subst hR
  refine hd fun R hR => ?_
  trivial
  refine ⟨_, rfl, G, A4q s, N, ?_⟩
  trivial
  refine B2 (n := 0) (C5 _ _) ?_
  trivial
  subst hR
  refine hd fun R hR => ?_
  trivial
  refine ⟨by rw [C4]; omega, G1 (fun i e ys => ∃ o : Option SV, e = [o] /\ ys = (((bnd (jc c1 c2 w) ms).take i).map (·.1)).map dq) ⟨_, rfl, rfl⟩ ?_ ?_⟩
  · rintro i c e ys hc ⟨o, rfl, rfl⟩
    trivial
    exact ⟨_, rfl, by rw [List.take_succ, hc]; simp⟩
  rintro e ys ⟨o, rfl, rfl⟩
  rw [List.take_length]
  trivial
  refine ⟨_, rfl, by rw [List.length_map, C4]; omega, fun m hm => ?_, fun ws hws => ?_⟩
  · obtain ⟨d, hd, rfl⟩ := List.mem_map.mp hm
    exact (hon d hd).1.p2 (by decide)
  trivial
  refine U9 (fun i e => ∃ o : Option SV, e = [some (.bor ((bnd c1 ps).map dcn)), some (.bor ((bnd c2 qs).map dcn)), some (.d (dq w)), some (.bor ((bnd (jc c1 c2 w) ms).map dcn)), some (.d (dq (jc c1 c2 w).1)), o]) ⟨_, rfl⟩ ?_ ?_
  · rintro i x e hx ⟨o, rfl⟩
    have Wx := hws x (List.mem_of_getElem? hx)
    have W := Wx.h
    trivial
    refine ⟨_, _, rfl, W.q, qj, ?_⟩
    trivial
    refine ite2 (fun h => ⟨_, rfl⟩) (fun h => ?_)
    have g : (jc c1 c2 w).1 <= x := by grind
    refine ⟨_, _, rfl, G, W.p, ?_⟩
    rw [V2 g]
    trivial
    refine ⟨_, _, rfl, W.q, qw, ?_⟩
    trivial
    refine ⟨_, _, _, _, ms, _, rfl, h1, h2, M, ?_, by grind, ?_⟩
    · exact (On.sub2 V8 Wx ((T3 ow).p2 (by decide)) (Nat.le_refl _)).p2 (by decide)
    rw [show c1.2 + c2.2 - Dw ms (x - w - c1.1 - c2.1) = ev (bnd (jc c1 c2 w) ms) x by
      rw [E9, j1, j2, show x - (c1.1 + c2.1 + w) = x - w - c1.1 - c2.1 by grind]]
    trivial
    exact ⟨_, rfl⟩
  · rintro e ⟨o, rfl⟩
    subst hR
    trivial
    exact k
def A18 : Pu.PSp := fun as Q => ∃ (c1 c2 : Rat × Rat) (ps qs : List (Rat × Rat)) (w s t : Rat), as = [.bor ((bnd c1 ps).map dcn), .bor ((bnd c2 qs).map dcn), .d (dq w), .d (dq s), .d (dq t)] /\ Sh c1 ps /\ Sh c2 qs /\ On LL (2 ^ 41) w /\ SmR 41 6 s /\ SmR 41 6 t /\ ∀ vs ms a a1 a2 a3, Bs c1 c2 ps qs (fst2 c1 c2) vs -> vs.length <= 26 -> Mg ps qs ms -> ms.length <= 24 -> (∀ d ∈ bnd (jc c1 c2 w) ms, On LL (2 ^ 56) d.1 /\ On (LL * LL) (2 ^ 100) d.2) -> Q (.tr (t3 a a1 a2 a3 ((bsL c1 c2 ps qs vs).map dcn) ((bnd (jc c1 c2 w) ms).map dcn) ((scl s t (bnd c1 ps)).map dcn)))
theorem U4 (T : Txt K mg D) : FnOk P w K mg base CX0 7 D.a_Lalltold D.d_Lalltold ["_law_one", "_law_other", "_law_wait", "_law_span", "_law_cost"] (Pu.spOf K [.vw, .vw, .dat, .dat, .dat] A18) := by
  refine T.F_Lalltold.ok sc_Lalltold (Pu.spOf.len rfl) (fun cdv A outer s H vs Q E hr h => ?_)
  refine ⟨_, (QSs.out (B0 (B4 (B97 (D8 (A0 (A5 (T5 (K := K) T) hr.mo rfl T.m_shapesbeside T.F_shapesbeside.kp (W3 T) .nil B1 (A0 (qpv 0) (A0 (qpv 1) A1))) (A0 (A5 (T6 (K := K) T) hr.mo rfl T.m_shapesbehind T.F_shapesbehind.kp (W4 T) .nil B1 (A0 (qpv 0) (A0 (qpv 1) (A0 (qpv 2) A1)))) (A0 (A5 (W1 (K := K) T) hr.mo rfl T.m_shapescaled T.F_shapescaled.kp (A0j T) .nil B1 (A0 (qpv 0) (A0 (qpv 3) (A0 (qpv 4) A1)))) A1)))))))), ?_⟩
  refine Pu.E5 h ?_
  rintro as Qp ⟨c1, c2, ps, qs, w, s, t, rfl, h1, h2, ow, hs, ht, k⟩
  trivial
  refine ⟨_, _, _, _, rfl, h1, h2, fun vs B hl => ?_⟩
  trivial
  refine fun a1 => ⟨_, _, _, _, _, rfl, h1, h2, ow, fun ms M hm hon => ?_⟩
  trivial
  refine fun a2 => ⟨_, _, _, _, rfl, h1, hs, ht, ?_⟩
  trivial
  exact fun a3 _ _ _ => ⟨Nat.le_of_ble_eq_true rfl, fun a _ => k vs ms a a1 a2 a3 B hl M hm hon⟩
theorem B8p (T : Txt K mg D) : FnOk P w K mg base CX0 8 D.a_law D.d_law ["_law_script"] (B4n K) := by
  refine FnOk.imp (sp := Pu.spOf K [.vw] Pu.pLaw) ?_ Pu.B83
  refine T.F_law.ok sc_law (Pu.spOf.len rfl) (fun cdv A outer s H vs Q E hr h => ?_)
  refine ⟨_, (QSs.out (A6 (J4 PassesOwn.never rfl (A41 rfl T.z_range (A0 A2 (A0 (B7 (A93 rfl) (by rfl) T.z_max (by rfl) (A0 A2 (A0 (B7 (A91 rfl) (by rfl) T.z_min (by rfl) (A0 (B7 (C1 (K := K) rfl) (by rfl) T.z_len PySem.boot_len (A0 (qpv 0) A1)) (A0 A2 A1))) A1))) (A0 A2 A1)))) (B8 (i := 1) sc_law.nd rfl (Or.inl rfl) (Or.inl rfl))
        (A6 (B3 (i := 2) sc_law.nd rfl (Or.inl rfl) (A5 (A06 (K := K) T) hr.mo rfl T.m_Lbegun T.F_Lbegun.kp (A4t T) .nil B1 (A0 (qpv 0) (A0 (qpv 1) A1))))
        (A6 (B3 (i := 3) sc_law.nd rfl (Or.inl rfl) (B4t (O6 (K4 (K := K) rfl hr.units) (qpv 1) A2 (C2 _)) (A51 (O6 (K4 (K := K) rfl hr.units) (A5 (G0 (K := K) T) hr.mo rfl T.m_Ltake T.F_Ltake.kp (K5 T) .nil B1 (A0 (qpv 2) (A0 A2 A1))) A2 (C2 _)))))
        (A6 (B3 (i := 4) sc_law.nd rfl (Or.inl rfl) (B68 (qpv 3) (A51 (O6 (K4 (K := K) rfl hr.units) (A5 (G0 (K := K) T) hr.mo rfl T.m_Ltake T.F_Ltake.kp (K5 T) .nil B1 (A0 (qpv 2) (A0 A2 A1))) A2 (C2 _)))))
        (A6 (B3 (i := 5) sc_law.nd rfl (Or.inl rfl) (A5 (A05 (K := K) T) hr.mo rfl T.m_Lshape T.F_Lshape.kp (A4s T) .nil B1 (A0 (qpv 2) (A0 (A7 (A4 (K := K) rfl) (D8 (A0 A2 (A0 A2 A1))) (J0 A1l (by rfl) T.z_int (by rfl) (A0 (qpv 3) A1)) (fun _ _ => rfl)) (A0 (qpv 4) A1)))))
        (A6 (B3 (i := 6) sc_law.nd rfl (Or.inl rfl) (A5 (A05 (K := K) T) hr.mo rfl T.m_Lshape T.F_Lshape.kp (A4s T) .nil B1 (A0 (A5 (A06 (K := K) T) hr.mo rfl T.m_Lbegun T.F_Lbegun.kp (A4t T) .nil B1 (A0 (qpv 0) (A0 (B5 G3 (qpv 1) A2) A1))) (A0 (A7 (A4 (K := K) rfl) (D8 (A0 A2 (A0 A2 A1))) (J0 A1l (by rfl) T.z_int (by rfl) (A0 (qpv 3) A1)) (fun _ _ => rfl)) (A0 (qpv 4) A1)))))
        (A6 (D2 (B6 (K4 (K := K) rfl hr.units) (A5 (G0 (K := K) T) hr.mo rfl T.m_Ltake T.F_Ltake.kp (K5 T) .nil B1 (A0 (qpv 2) (A0 A2 A1))) A2 (C2 _))
          (B0 (B3 (i := 6) sc_law.nd rfl (Or.inl rfl) (A0t (A24 (K := K) rfl) (qpv 5) (A29 (A5 (G0 (K := K) T) hr.mo rfl T.m_Ltake T.F_Ltake.kp (K5 T) .nil B1 (A0 (qpv 2) (A0 (B7 (C1 (K := K) rfl) (by rfl) T.z_len PySem.boot_len (A0 (qpv 5) A1)) A1)))) A3a)))
          C0)
        (A6 (B3 (i := 7) sc_law.nd rfl (Or.inl rfl) (A7 (A4 (K := K) rfl) (D8 (A0 (D5 (A0 A2 (A0 A2 A1))) (A0 (A5 (F7 (K := K) T) hr.mo rfl T.m_Lamount T.F_Lamount.kp (J7 T) .nil B1 (A0 (qpv 2) (A0 (qpv 4) (A0 A2 A1)))) A1))) (A5 (G0 (K := K) T) hr.mo rfl T.m_Ltake T.F_Ltake.kp (K5 T) .nil B1 (A0 (qpv 2) (A0 A2 A1))) (fun _ _ => rfl)))
        (A6 (B3 (i := 8) sc_law.nd rfl (Or.inr rfl) (A5 (F7 (K := K) T) hr.mo rfl T.m_Lamount T.F_Lamount.kp (J7 T) .nil B1 (A0 (qpv 2) (A0 (qpv 4) (A0 A2 A1)))))
        (A6 (B3 (i := 9) sc_law.nd rfl (Or.inr rfl) (A5 (F7 (K := K) T) hr.mo rfl T.m_Lamount T.F_Lamount.kp (J7 T) .nil B1 (A0 (qpv 2) (A0 (qpv 4) (A0 A2 A1)))))
        (A6 (B3 (i := 10) sc_law.nd rfl (Or.inl rfl) (D8 (A0 (J0 (O7 (K := K) rfl) (by rfl) T.z_list (by rfl) (A0 (qpv 5) A1)) (A0 (J0 (O7 (K := K) rfl) (by rfl) T.z_list (by rfl) (A0 (qpv 6) A1)) A1))))
        (A6 (B3 (i := 11) sc_law.nd rfl (Or.inl rfl) (A5 (U4 (K := K) T) hr.mo rfl T.m_Lalltold T.F_Lalltold.kp (Y5 T) .nil B1 (A0 (qpv 5) (A0 (qpv 6) (A0 (qpv 7) (A0 (qpv 8) (A0 (qpv 9) A1)))))))
        (A6 (D2 (QW.pt (K7 (E7 (C9 (A5 (U2 (K := K) T) hr.mo rfl T.m_Lbesideright T.F_Lbesideright.kp (W7 T) .nil B1 (A0 (qpv 5) (A0 (qpv 6) (A0 (qPo (A7 (A4 (K := K) rfl) (qpv 11) A2 (fun _ _ => rfl))) A1)))))) (J3 (E7 (C9 (A5 (U3 (K := K) T) hr.mo rfl T.m_Lbehindright T.F_Lbehindright.kp (W8 T) .nil B1 (A0 (qpv 5) (A0 (qpv 6) (A0 (qpv 7) (A0 (qPo (A7 (A4 (K := K) rfl) (qpv 11) A2 (fun _ _ => rfl))) A1))))))))))
          (B0 (B4 G2))
          C0)
        (A6 (D2 (B6 (J5 (K := K) rfl hr.units) (qPo (A7 (A4 (K := K) rfl) (qpv 11) A2 (fun _ _ => rfl))) (F1 rfl (D4 (N' := ["_law_span", "_law_cost", "_law_whole", "_law_price_here"]) (cap := [some 8, some 9, none, none]) rfl rfl rfl rfl (by decide +kernel) rfl rfl) (D7 (K := K) rfl (qpv 5)) (fun _ _ _ => (O5 (K := K) (n := 2) rfl rfl (E8 (B8 (i := 2) (show (["_law_span", "_law_cost", "_law_whole", "_law_price_here"] : List Str).Nodup from by decide +kernel) rfl (Or.inl rfl) (Or.inr rfl)) (E8 (B8 (i := 3) (show (["_law_span", "_law_cost", "_law_whole", "_law_price_here"] : List Str).Nodup from by decide +kernel) rfl (Or.inl rfl) (Or.inr rfl)) O4)) rfl rfl)) (fun _ _ _ => F0) (fun _ _ _ => (D5 (A0 (A5 (K8 (K := K) T) hr.mo rfl T.m_Ltimes T.F_Ltimes.kp (N4 T) .nil B1 (A0 (qpv 0) (A0 (qpv 2) A1))) (A0 (A5 (K8 (K := K) T) hr.mo rfl T.m_Ltimes T.F_Ltimes.kp (N4 T) .nil B1 (A0 (qpv 1) (A0 (qpv 3) A1))) A1))))) (C2 _))
          (B0 (B4 G2))
          C0)
        (A6 (B3 (i := 12) sc_law.nd rfl (Or.inl rfl) (B10 (K := K) (B7 (V5 (K := K) rfl hr.gd hr.units) (by rfl) T.z_repr (by rfl) (A0 (qpv 11) A1))))
        (A6 (J4 PassesOwn.never rfl (D7 (K := K) rfl (qpv 11)) (B8 (i := 13) sc_law.nd rfl (Or.inl rfl) (Or.inl rfl))
          (B0 (G8 (B0q (K := K) rfl PySem.F.plainAttrs_list PySem.F.slot_list_clear PySem.F.type_list_clear B08 (qpv 13)))))
        (B0 (D2 (QW.pt (K7 (B6 (J5 (K := K) rfl hr.units) (B10 (K := K) (B7 (V5 (K := K) rfl hr.gd hr.units) (by rfl) T.z_repr (by rfl) (A0 (A5 (U4 (K := K) T) hr.mo rfl T.m_Lalltold T.F_Lalltold.kp (Y5 T) .nil B1 (A0 (qpv 5) (A0 (qpv 6) (A0 (qpv 7) (A0 (qpv 8) (A0 (qpv 9) A1)))))) A1))) (qpv 12) (C2 _)) (J3 (B6 (J5 (K := K) rfl hr.units) (D8 (A0 (qpv 5) (A0 (qpv 6) A1))) (qpv 10) (C2 _)))))
          (B0 (B4 G2))
          C0))))))))))))))))))
      (B0 (B4 G2)))), ?_⟩
  refine Pu.E5 h ?_
  rintro as Qp ⟨ns, rfl, hns, k⟩
  refine hd fun R hR => ?_
  trivial
  generalize hj : (if (if (6 : Int) < (ns.length : Int) then (6 : Int) else (ns.length : Int)) > 2 then (if (6 : Int) < (ns.length : Int) then (6 : Int) else (ns.length : Int)) else 2) = j
  have hb : 0 <= j /\ j <= 63 := by rw [<- hj]; split <;> (try split) <;> omega
  clear hj
  refine ⟨⟨⟨by decide, by decide⟩, ⟨hb.1, by omega⟩, by decide, by decide⟩, B6e (fun i e => ∃ o1 o2 o3 o4 o5 o6 o7 o8 o9 o10 o11 o12 o13 : Option SV, e = [some (.bor (ns.map .int)), o1, o2, o3, o4, o5, o6, o7, o8, o9, o10, o11, o12, o13]) ⟨_, _, _, _, _, _, _, _, _, _, _, _, _, rfl⟩ ?_ ?_⟩
  · rintro i e hi ⟨o1, o2, o3, o4, o5, o6, o7, o8, o9, o10, o11, o12, o13, rfl⟩
    have hi : i < 32 := Nat.lt_of_lt_of_le hi (B4m hb.2)
    have hi2 : 0 + (i : Int) * 2 + 1 <= 63 := by omega
    generalize hk : (0 + (i : Nat) * 2 : Int) = kk at hi2
    have kk0 : 0 <= kk := by omega
    refine hd fun R hR => ?_
    trivial
    refine ⟨ns, _, rfl, kk0, by omega, ?_⟩
    trivial
    subst hR
    refine N8 (fun e => ∃ wd : Bool, e = [some (.bor (ns.map .int)), some (.d (.int kk)), some .st, some (.d (.bool wd)), o4, o5, o6, o7, o8, o9, o10, o11, o12, o13]) (fun R hR => ?_) ?_
    · trivial
      refine ite2 (fun h0 => ⟨4, rfl, by decide, sm4 4, fun d d0 d4 => ?_⟩) (fun h0 => hR _ ⟨_, rfl⟩)
      trivial
      exact hR _ ⟨_, rfl⟩
    rintro e ⟨wd, rfl⟩
    refine N8 (fun e => ∃ pl : Bool, e = [some (.bor (ns.map .int)), some (.d (.int kk)), some .st, some (.d (.bool wd)), some (.d (.bool pl)), o5, o6, o7, o8, o9, o10, o11, o12, o13]) (fun R hR => ?_) ?_
    · trivial
      cases wd with
      | true =>
        trivial
        exact hR _ ⟨_, rfl⟩
      | false =>
        trivial
        refine ⟨2, rfl, by decide, sm4 2, fun d d0 d4 => ?_⟩
        trivial
        exact hR _ ⟨_, rfl⟩
    rintro e ⟨pl, rfl⟩
    refine N8 (fun e => ∃ (c1 : Rat × Rat) (ps : List (Rat × Rat)), e = [some (.bor (ns.map .int)), some (.d (.int kk)), some .st, some (.d (.bool wd)), some (.d (.bool pl)), some (.own ((bnd c1 ps).map dcn)), o6, o7, o8, o9, o10, o11, o12, o13] /\ Sh c1 ps) (fun R hR => ?_) ?_
    · trivial
      cases wd with
      | true =>
        trivial
        exact ⟨_, _, rfl, by decide, by decide, fun c ps h => hR _ ⟨c, ps, rfl, h⟩⟩
      | false =>
        trivial
        exact ⟨_, _, rfl, by decide, by decide, fun c ps h => hR _ ⟨c, ps, rfl, h⟩⟩
    rintro e ⟨c1, ps, rfl, h1⟩
    refine N8 (fun e => ∃ (c2 : Rat × Rat) (qs : List (Rat × Rat)), e = [some (.bor (ns.map .int)), some (.d (.int kk)), some .st, some (.d (.bool wd)), some (.d (.bool pl)), some (.own ((bnd c1 ps).map dcn)), some (.own ((bnd c2 qs).map dcn)), o7, o8, o9, o10, o11, o12, o13] /\ Sh c2 qs) (fun R hR => ?_) ?_
    · trivial
      refine ⟨ns, _, rfl, by omega, by omega, ?_⟩
      trivial
      cases wd with
      | true =>
        trivial
        exact ⟨_, _, rfl, by decide, by decide, fun c ps h => hR _ ⟨c, ps, rfl, h⟩⟩
      | false =>
        trivial
        exact ⟨_, _, rfl, by decide, by decide, fun c ps h => hR _ ⟨c, ps, rfl, h⟩⟩
    rintro e ⟨c2, qs, rfl, h2⟩
    refine N8 (fun e => ∃ (c2 : Rat × Rat) (qs : List (Rat × Rat)), e = [some (.bor (ns.map .int)), some (.d (.int kk)), some .st, some (.d (.bool wd)), some (.d (.bool pl)), some (.own ((bnd c1 ps).map dcn)), some (.own ((bnd c2 qs).map dcn)), o7, o8, o9, o10, o11, o12, o13] /\ Sh c2 qs) (fun R hR => ?_) ?_
    · trivial
      refine ⟨3, rfl, by decide, sm4 3, fun d d0 d4 => ?_⟩
      trivial
      refine ite2 (fun h0 => ?_) (fun h0 => hR _ ⟨c2, qs, rfl, h2⟩)
      have hl := h1.gs.le
      have hn := h1.gs.ne
      refine ⟨_, rfl, by omega, A0n (by omega) (by omega), fun n n0 n1 => ?_⟩
      obtain ⟨m, rfl⟩ := Int.eq_ofNat_of_zero_le n0
      have hm : m < (bnd c1 ps).length := by omega
      obtain ⟨c', qs', e, h'⟩ := h1.drop hm
      trivial
      rw [B9n (Nat.le_of_lt hm), e]
      exact hR _ ⟨c', qs', rfl, h'⟩
    clear h2
    rintro e ⟨c2, qs, rfl, h2⟩
    refine N8 (fun e => ∃ w : Rat, e = [some (.bor (ns.map .int)), some (.d (.int kk)), some .st, some (.d (.bool wd)), some (.d (.bool pl)), some (.own ((bnd c1 ps).map dcn)), some (.own ((bnd c2 qs).map dcn)), some (.d (dq w)), o8, o9, o10, o11, o12, o13] /\ 0 <= w /\ On LL (2 ^ 41) w) (fun R hR => ?_) ?_
    · trivial
      refine ⟨pl, 0, rfl, .inl rfl, fun q q0 _ s1 _ => ?_⟩
      trivial
      refine ⟨2, rfl, by decide, sm4 2, fun d d0 d4 => ?_⟩
      have hd2 : d = 0 \/ d = 1 := by omega
      rcases hd2 with rfl | rfl
      · trivial
        exact hR _ ⟨0, rfl, Rat.le_refl, On.zero.mono (Nat.zero_le _)⟩
      · trivial
        exact hR _ ⟨q, rfl, q0, A03 s1⟩
    rintro e ⟨w, rfl, w0, ow⟩
    refine hd fun R hR => ?_
    trivial
    refine ⟨pl, 1, rfl, .inr rfl, fun sp _ _ ss _ => ?_⟩
    trivial
    subst hR
    refine hd fun R hR => ?_
    trivial
    refine ⟨pl, 1, rfl, .inr rfl, fun co _ _ st _ => ?_⟩
    trivial
    subst hR
    refine hd fun R hR => ?_
    trivial
    subst hR
    refine hd fun R hR => ?_
    trivial
    refine ⟨c1, c2, ps, qs, w, sp, co, rfl, h1, h2, ow, ss, st, fun vs ms a a1 a2 a3 B lv M lm hon => ?_⟩
    trivial
    subst hR
    refine hd fun R hR => ?_
    trivial
    refine ⟨_, rfl, B6o ?_⟩
    trivial
    refine ⟨_, _, _, _, vs, rfl, h1, h2, B, lv, ?_⟩
    trivial
    refine ⟨_, rfl, B6o ?_⟩
    trivial
    refine ⟨_, _, _, _, ms, _, rfl, h1, h2, M, lm, w0, ow, hon, ?_⟩
    trivial
    subst hR
    refine hd fun R hR => ?_
    trivial
    refine ⟨_, rfl, _, by show [PyData.list (B9 _).dat] = _; rw [F8], ?_⟩
    trivial
    have l1 := h1.le
    refine ⟨by rw [C4]; omega, G1 (fun i e ys => ∃ x1 x2 : Option SV, e = [some (.d (dq sp)), some (.d (dq co)), x1, x2] /\ ys = (scl sp co ((bnd c1 ps).take i)).map dcn) ⟨_, _, rfl, rfl⟩ ?_ ?_⟩
    · rintro i d e ys hd ⟨x1, x2, rfl, rfl⟩
      have sd := h1.gs.sm d (List.mem_of_getElem? hd)
      trivial
      refine ⟨_, _, rfl, ss.q (by decide) (by decide), sd.1.q (by decide) (by decide), ?_⟩
      trivial
      refine ⟨_, _, rfl, st.q (by decide) (by decide), sd.2.q (by decide) (by decide), ?_⟩
      trivial
      refine ⟨_, _, rfl, ?_⟩
      unfold scl
      rw [List.take_succ, hd, List.map_append, List.map_append]; rfl
    rintro e ys ⟨x1, x2, rfl, rfl⟩
    rw [List.take_length]
    trivial
    refine ⟨Y1 _, Y1 _, B4a _, ?_⟩
    rw [B9h]
    trivial
    subst hR
    refine hd fun R hR => ?_
    trivial
    have lb : (bsL c1 c2 ps qs vs).length <= 30 := by unfold bsL; rw [List.length_map]; omega
    have lm' : (bnd (jc c1 c2 w) ms).length <= 30 := by rw [C4]; omega
    have lc : (scl sp co (bnd c1 ps)).length <= 30 := by unfold scl; rw [List.length_map, C4]; omega
    obtain ⟨sE, sO⟩ := B94 (A := bsL c1 c2 ps qs vs) (B := bnd (jc c1 c2 w) ms) (C := scl sp co (bnd c1 ps)) (fun c hc => by
      have := (B.gs h1 h2 lv).1.sm c hc
      exact ⟨this.1.mono (by decide) (by decide), this.2.mono (by decide) (by decide)⟩) (fun c hc => ⟨(on_w (hon c hc).1 (by decide)).mono (by decide) (by decide), (on_p (hon c hc).2 (by decide)).mono (by decide) (by decide)⟩) (fun c hc => by
      obtain ⟨d, hd, rfl⟩ := List.mem_map.mp hc
      have := h1.gs.sm d hd
      exact ⟨(ss.mul this.1).mono (by decide) (by decide), (st.mul this.2).mono (by decide) (by decide)⟩) lb lm' lc
    refine ⟨_, B1t, sE, ?_⟩
    subst hR
    refine hd fun R hR => ?_
    trivial
    refine ⟨by decide, by decide, a, _, rfl, rfl, ?_⟩
    subst hR
    trivial
    refine ⟨c1, c2, ps, qs, w, sp, co, rfl, h1, h2, ow, ss, st, fun vs' ms' b b1 b2 b3 B' lv' M' lm' hon' => ?_⟩
    have e1 := B'.uniq B
    have e2 := M'.uniq M
    subst e1 e2
    trivial
    refine ⟨_, B1t, sE, ?_⟩
    trivial
    refine ⟨sO, sO, A1z _ _, A1z _ _, B4e _ _, ?_⟩
    rw [PySem.SeqAt.eqv_refl _ (A1z _ _), if_neg (by decide)]
    exact ⟨_, _, _, _, _, _, _, _, _, _, _, _, _, rfl⟩
  · rintro e ⟨o1, o2, o3, o4, o5, o6, o7, o8, o9, o10, o11, o12, o13, rfl⟩
    subst hR
    trivial
    exact k
end
theorem all_mk {l : PySem.W.OpenLaw} {w : World} {K : PySem.W.Frag} {h : Heap} {mg : Str -> Option Value} {fa : Addr} (X : K.In h) (G : h.Ns mainGlobals mg) (hfa : mg "law" = some (.ref fa))
    {od_commonpart an_commonpart : Option Addr} {sl_commonpart : Array (Option Value)} {oc_commonpart kV_commonpart dc_commonpart pm_commonpart cd_commonpart ct_commonpart : Value} {a_commonpart : Addr}
    {od_plus an_plus : Option Addr} {sl_plus : Array (Option Value)} {oc_plus kV_plus dc_plus pm_plus cd_plus ct_plus : Value} {a_plus : Addr}
    {od_minus an_minus : Option Addr} {sl_minus : Array (Option Value)} {oc_minus kV_minus dc_minus pm_minus cd_minus ct_minus : Value} {a_minus : Addr}
    {od_product an_product : Option Addr} {sl_product : Array (Option Value)} {oc_product kV_product dc_product pm_product cd_product ct_product : Value} {a_product : Addr}
    {od_parted an_parted : Option Addr} {sl_parted : Array (Option Value)} {oc_parted kV_parted dc_parted pm_parted cd_parted ct_parted : Value} {a_parted : Addr}
    {od_isless an_isless : Option Addr} {sl_isless : Array (Option Value)} {oc_isless kV_isless dc_isless pm_isless cd_isless ct_isless : Value} {a_isless : Addr}
    {od_larger an_larger : Option Addr} {sl_larger : Array (Option Value)} {oc_larger kV_larger dc_larger pm_larger cd_larger ct_larger : Value} {a_larger : Addr}
    {od_between an_between : Option Addr} {sl_between : Array (Option Value)} {oc_between kV_between dc_between pm_between cd_between ct_between : Value} {a_between : Addr}
    {od_sharebetween an_sharebetween : Option Addr} {sl_sharebetween : Array (Option Value)} {oc_sharebetween kV_sharebetween dc_sharebetween pm_sharebetween cd_sharebetween ct_sharebetween : Value} {a_sharebetween : Addr}
    {od_pieceat an_pieceat : Option Addr} {sl_pieceat : Array (Option Value)} {oc_pieceat kV_pieceat dc_pieceat pm_pieceat cd_pieceat ct_pieceat : Value} {a_pieceat : Addr}
    {od_priceat an_priceat : Option Addr} {sl_priceat : Array (Option Value)} {oc_priceat kV_priceat dc_priceat pm_priceat cd_priceat ct_priceat : Value} {a_priceat : Addr}
    {od_mergedwholes an_mergedwholes : Option Addr} {sl_mergedwholes : Array (Option Value)} {oc_mergedwholes kV_mergedwholes dc_mergedwholes pm_mergedwholes cd_mergedwholes ct_mergedwholes : Value} {a_mergedwholes : Addr}
    {od_shapesbeside an_shapesbeside : Option Addr} {sl_shapesbeside : Array (Option Value)} {oc_shapesbeside kV_shapesbeside dc_shapesbeside pm_shapesbeside cd_shapesbeside ct_shapesbeside : Value} {a_shapesbeside : Addr}
    {od_piecesof an_piecesof : Option Addr} {sl_piecesof : Array (Option Value)} {oc_piecesof kV_piecesof dc_piecesof pm_piecesof cd_piecesof ct_piecesof : Value} {a_piecesof : Addr}
    {od_issteeper an_issteeper : Option Addr} {sl_issteeper : Array (Option Value)} {oc_issteeper kV_issteeper dc_issteeper pm_issteeper cd_issteeper ct_issteeper : Value} {a_issteeper : Addr}
    {od_byfallingrates an_byfallingrates : Option Addr} {sl_byfallingrates : Array (Option Value)} {oc_byfallingrates kV_byfallingrates dc_byfallingrates pm_byfallingrates cd_byfallingrates ct_byfallingrates : Value} {a_byfallingrates : Addr}
    {od_shapesbehind an_shapesbehind : Option Addr} {sl_shapesbehind : Array (Option Value)} {oc_shapesbehind kV_shapesbehind dc_shapesbehind pm_shapesbehind cd_shapesbehind ct_shapesbehind : Value} {a_shapesbehind : Addr}
    {od_shapescaled an_shapescaled : Option Addr} {sl_shapescaled : Array (Option Value)} {oc_shapescaled kV_shapescaled dc_shapescaled pm_shapescaled cd_shapescaled ct_shapescaled : Value} {a_shapescaled : Addr}
    {od_Lbegun an_Lbegun : Option Addr} {sl_Lbegun : Array (Option Value)} {oc_Lbegun kV_Lbegun dc_Lbegun pm_Lbegun cd_Lbegun ct_Lbegun : Value} {a_Lbegun : Addr}
    {od_Ltake an_Ltake : Option Addr} {sl_Ltake : Array (Option Value)} {oc_Ltake kV_Ltake dc_Ltake pm_Ltake cd_Ltake ct_Ltake : Value} {a_Ltake : Addr}
    {od_Llow an_Llow : Option Addr} {sl_Llow : Array (Option Value)} {oc_Llow kV_Llow dc_Llow pm_Llow cd_Llow ct_Llow : Value} {a_Llow : Addr}
    {od_Lplus an_Lplus : Option Addr} {sl_Lplus : Array (Option Value)} {oc_Lplus kV_Lplus dc_Lplus pm_Lplus cd_Lplus ct_Lplus : Value} {a_Lplus : Addr}
    {od_Lminus an_Lminus : Option Addr} {sl_Lminus : Array (Option Value)} {oc_Lminus kV_Lminus dc_Lminus pm_Lminus cd_Lminus ct_Lminus : Value} {a_Lminus : Addr}
    {od_Ltimes an_Ltimes : Option Addr} {sl_Ltimes : Array (Option Value)} {oc_Ltimes kV_Ltimes dc_Ltimes pm_Ltimes cd_Ltimes ct_Ltimes : Value} {a_Ltimes : Addr}
    {od_Lunder an_Lunder : Option Addr} {sl_Lunder : Array (Option Value)} {oc_Lunder kV_Lunder dc_Lunder pm_Lunder cd_Lunder ct_Lunder : Value} {a_Lunder : Addr}
    {od_Lamount an_Lamount : Option Addr} {sl_Lamount : Array (Option Value)} {oc_Lamount kV_Lamount dc_Lamount pm_Lamount cd_Lamount ct_Lamount : Value} {a_Lamount : Addr}
    {od_Lshape an_Lshape : Option Addr} {sl_Lshape : Array (Option Value)} {oc_Lshape kV_Lshape dc_Lshape pm_Lshape cd_Lshape ct_Lshape : Value} {a_Lshape : Addr}
    {od_Lparted an_Lparted : Option Addr} {sl_Lparted : Array (Option Value)} {oc_Lparted kV_Lparted dc_Lparted pm_Lparted cd_Lparted ct_Lparted : Value} {a_Lparted : Addr}
    {od_Lfall an_Lfall : Option Addr} {sl_Lfall : Array (Option Value)} {oc_Lfall kV_Lfall dc_Lfall pm_Lfall cd_Lfall ct_Lfall : Value} {a_Lfall : Addr}
    {od_Lprice an_Lprice : Option Addr} {sl_Lprice : Array (Option Value)} {oc_Lprice kV_Lprice dc_Lprice pm_Lprice cd_Lprice ct_Lprice : Value} {a_Lprice : Addr}
    {od_Lisshape an_Lisshape : Option Addr} {sl_Lisshape : Array (Option Value)} {oc_Lisshape kV_Lisshape dc_Lisshape pm_Lisshape cd_Lisshape ct_Lisshape : Value} {a_Lisshape : Addr}
    {od_Lspots an_Lspots : Option Addr} {sl_Lspots : Array (Option Value)} {oc_Lspots kV_Lspots dc_Lspots pm_Lspots cd_Lspots ct_Lspots : Value} {a_Lspots : Addr}
    {od_Lbesideright an_Lbesideright : Option Addr} {sl_Lbesideright : Array (Option Value)} {oc_Lbesideright kV_Lbesideright dc_Lbesideright pm_Lbesideright cd_Lbesideright ct_Lbesideright : Value} {a_Lbesideright : Addr}
    {od_Lpartedprice an_Lpartedprice : Option Addr} {sl_Lpartedprice : Array (Option Value)} {oc_Lpartedprice kV_Lpartedprice dc_Lpartedprice pm_Lpartedprice cd_Lpartedprice ct_Lpartedprice : Value} {a_Lpartedprice : Addr}
    {od_Lbehindright an_Lbehindright : Option Addr} {sl_Lbehindright : Array (Option Value)} {oc_Lbehindright kV_Lbehindright dc_Lbehindright pm_Lbehindright cd_Lbehindright ct_Lbehindright : Value} {a_Lbehindright : Addr}
    {od_Lalltold an_Lalltold : Option Addr} {sl_Lalltold : Array (Option Value)} {oc_Lalltold kV_Lalltold dc_Lalltold pm_Lalltold cd_Lalltold ct_Lalltold : Value} {a_Lalltold : Addr}
    {od_law an_law : Option Addr} {sl_law : Array (Option Value)} {oc_law kV_law dc_law pm_law cd_law ct_law : Value} {a_law : Addr}
    (g_commonpart : PySem.W.nsIn K mainGlobals "common_part" = some (some (.ref a_commonpart)))
    (l_commonpart : K.lookup a_commonpart = some ⟨oc_commonpart, od_commonpart, .func (PySem.W.fnOf "common_part" "common_part" (A9 s_commonpart) (A8 s_commonpart) (A3 s_commonpart) .none kV_commonpart dc_commonpart pm_commonpart an_commonpart cd_commonpart ct_commonpart), sl_commonpart⟩)
    (c_commonpart : PySem.W.codeIn K cd_commonpart "common_part" = true)
    (k_commonpart : PySem.W.keepIn K (.ref a_commonpart) = true)
    (g_plus : PySem.W.nsIn K mainGlobals "plus" = some (some (.ref a_plus)))
    (l_plus : K.lookup a_plus = some ⟨oc_plus, od_plus, .func (PySem.W.fnOf "plus" "plus" (A9 s_plus) (A8 s_plus) (A3 s_plus) .none kV_plus dc_plus pm_plus an_plus cd_plus ct_plus), sl_plus⟩)
    (c_plus : PySem.W.codeIn K cd_plus "plus" = true)
    (k_plus : PySem.W.keepIn K (.ref a_plus) = true)
    (g_minus : PySem.W.nsIn K mainGlobals "minus" = some (some (.ref a_minus)))
    (l_minus : K.lookup a_minus = some ⟨oc_minus, od_minus, .func (PySem.W.fnOf "minus" "minus" (A9 s_minus) (A8 s_minus) (A3 s_minus) .none kV_minus dc_minus pm_minus an_minus cd_minus ct_minus), sl_minus⟩)
    (c_minus : PySem.W.codeIn K cd_minus "minus" = true)
    (k_minus : PySem.W.keepIn K (.ref a_minus) = true)
    (g_product : PySem.W.nsIn K mainGlobals "product" = some (some (.ref a_product)))
    (l_product : K.lookup a_product = some ⟨oc_product, od_product, .func (PySem.W.fnOf "product" "product" (A9 s_product) (A8 s_product) (A3 s_product) .none kV_product dc_product pm_product an_product cd_product ct_product), sl_product⟩)
    (c_product : PySem.W.codeIn K cd_product "product" = true)
    (k_product : PySem.W.keepIn K (.ref a_product) = true)
    (g_parted : PySem.W.nsIn K mainGlobals "parted" = some (some (.ref a_parted)))
    (l_parted : K.lookup a_parted = some ⟨oc_parted, od_parted, .func (PySem.W.fnOf "parted" "parted" (A9 s_parted) (A8 s_parted) (A3 s_parted) .none kV_parted dc_parted pm_parted an_parted cd_parted ct_parted), sl_parted⟩)
    (c_parted : PySem.W.codeIn K cd_parted "parted" = true)
    (k_parted : PySem.W.keepIn K (.ref a_parted) = true)
    (g_isless : PySem.W.nsIn K mainGlobals "is_less" = some (some (.ref a_isless)))
    (l_isless : K.lookup a_isless = some ⟨oc_isless, od_isless, .func (PySem.W.fnOf "is_less" "is_less" (A9 s_isless) (A8 s_isless) (A3 s_isless) .none kV_isless dc_isless pm_isless an_isless cd_isless ct_isless), sl_isless⟩)
    (c_isless : PySem.W.codeIn K cd_isless "is_less" = true)
    (k_isless : PySem.W.keepIn K (.ref a_isless) = true)
    (g_larger : PySem.W.nsIn K mainGlobals "larger" = some (some (.ref a_larger)))
    (l_larger : K.lookup a_larger = some ⟨oc_larger, od_larger, .func (PySem.W.fnOf "larger" "larger" (A9 s_larger) (A8 s_larger) (A3 s_larger) .none kV_larger dc_larger pm_larger an_larger cd_larger ct_larger), sl_larger⟩)
    (c_larger : PySem.W.codeIn K cd_larger "larger" = true)
    (k_larger : PySem.W.keepIn K (.ref a_larger) = true)
    (g_between : PySem.W.nsIn K mainGlobals "between" = some (some (.ref a_between)))
    (l_between : K.lookup a_between = some ⟨oc_between, od_between, .func (PySem.W.fnOf "between" "between" (A9 s_between) (A8 s_between) (A3 s_between) .none kV_between dc_between pm_between an_between cd_between ct_between), sl_between⟩)
    (c_between : PySem.W.codeIn K cd_between "between" = true)
    (k_between : PySem.W.keepIn K (.ref a_between) = true)
    (g_sharebetween : PySem.W.nsIn K mainGlobals "share_between" = some (some (.ref a_sharebetween)))
    (l_sharebetween : K.lookup a_sharebetween = some ⟨oc_sharebetween, od_sharebetween, .func (PySem.W.fnOf "share_between" "share_between" (A9 s_sharebetween) (A8 s_sharebetween) (A3 s_sharebetween) .none kV_sharebetween dc_sharebetween pm_sharebetween an_sharebetween cd_sharebetween ct_sharebetween), sl_sharebetween⟩)
    (c_sharebetween : PySem.W.codeIn K cd_sharebetween "share_between" = true)
    (k_sharebetween : PySem.W.keepIn K (.ref a_sharebetween) = true)
    (g_pieceat : PySem.W.nsIn K mainGlobals "piece_at" = some (some (.ref a_pieceat)))
    (l_pieceat : K.lookup a_pieceat = some ⟨oc_pieceat, od_pieceat, .func (PySem.W.fnOf "piece_at" "piece_at" (A9 s_pieceat) (A8 s_pieceat) (A3 s_pieceat) .none kV_pieceat dc_pieceat pm_pieceat an_pieceat cd_pieceat ct_pieceat), sl_pieceat⟩)
    (c_pieceat : PySem.W.codeIn K cd_pieceat "piece_at" = true)
    (k_pieceat : PySem.W.keepIn K (.ref a_pieceat) = true)
    (g_priceat : PySem.W.nsIn K mainGlobals "price_at" = some (some (.ref a_priceat)))
    (l_priceat : K.lookup a_priceat = some ⟨oc_priceat, od_priceat, .func (PySem.W.fnOf "price_at" "price_at" (A9 s_priceat) (A8 s_priceat) (A3 s_priceat) .none kV_priceat dc_priceat pm_priceat an_priceat cd_priceat ct_priceat), sl_priceat⟩)
    (c_priceat : PySem.W.codeIn K cd_priceat "price_at" = true)
    (k_priceat : PySem.W.keepIn K (.ref a_priceat) = true)
    (g_mergedwholes : PySem.W.nsIn K mainGlobals "merged_wholes" = some (some (.ref a_mergedwholes)))
    (l_mergedwholes : K.lookup a_mergedwholes = some ⟨oc_mergedwholes, od_mergedwholes, .func (PySem.W.fnOf "merged_wholes" "merged_wholes" (A9 s_mergedwholes) (A8 s_mergedwholes) (A3 s_mergedwholes) .none kV_mergedwholes dc_mergedwholes pm_mergedwholes an_mergedwholes cd_mergedwholes ct_mergedwholes), sl_mergedwholes⟩)
    (c_mergedwholes : PySem.W.codeIn K cd_mergedwholes "merged_wholes" = true)
    (k_mergedwholes : PySem.W.keepIn K (.ref a_mergedwholes) = true)
    (g_shapesbeside : PySem.W.nsIn K mainGlobals "shapes_beside" = some (some (.ref a_shapesbeside)))
    (l_shapesbeside : K.lookup a_shapesbeside = some ⟨oc_shapesbeside, od_shapesbeside, .func (PySem.W.fnOf "shapes_beside" "shapes_beside" (A9 s_shapesbeside) (A8 s_shapesbeside) (A3 s_shapesbeside) .none kV_shapesbeside dc_shapesbeside pm_shapesbeside an_shapesbeside cd_shapesbeside ct_shapesbeside), sl_shapesbeside⟩)
    (c_shapesbeside : PySem.W.codeIn K cd_shapesbeside "shapes_beside" = true)
    (k_shapesbeside : PySem.W.keepIn K (.ref a_shapesbeside) = true)
    (g_piecesof : PySem.W.nsIn K mainGlobals "pieces_of" = some (some (.ref a_piecesof)))
    (l_piecesof : K.lookup a_piecesof = some ⟨oc_piecesof, od_piecesof, .func (PySem.W.fnOf "pieces_of" "pieces_of" (A9 s_piecesof) (A8 s_piecesof) (A3 s_piecesof) .none kV_piecesof dc_piecesof pm_piecesof an_piecesof cd_piecesof ct_piecesof), sl_piecesof⟩)
    (c_piecesof : PySem.W.codeIn K cd_piecesof "pieces_of" = true)
    (k_piecesof : PySem.W.keepIn K (.ref a_piecesof) = true)
    (g_issteeper : PySem.W.nsIn K mainGlobals "is_steeper" = some (some (.ref a_issteeper)))
    (l_issteeper : K.lookup a_issteeper = some ⟨oc_issteeper, od_issteeper, .func (PySem.W.fnOf "is_steeper" "is_steeper" (A9 s_issteeper) (A8 s_issteeper) (A3 s_issteeper) .none kV_issteeper dc_issteeper pm_issteeper an_issteeper cd_issteeper ct_issteeper), sl_issteeper⟩)
    (c_issteeper : PySem.W.codeIn K cd_issteeper "is_steeper" = true)
    (k_issteeper : PySem.W.keepIn K (.ref a_issteeper) = true)
    (g_byfallingrates : PySem.W.nsIn K mainGlobals "by_falling_rates" = some (some (.ref a_byfallingrates)))
    (l_byfallingrates : K.lookup a_byfallingrates = some ⟨oc_byfallingrates, od_byfallingrates, .func (PySem.W.fnOf "by_falling_rates" "by_falling_rates" (A9 s_byfallingrates) (A8 s_byfallingrates) (A3 s_byfallingrates) .none kV_byfallingrates dc_byfallingrates pm_byfallingrates an_byfallingrates cd_byfallingrates ct_byfallingrates), sl_byfallingrates⟩)
    (c_byfallingrates : PySem.W.codeIn K cd_byfallingrates "by_falling_rates" = true)
    (k_byfallingrates : PySem.W.keepIn K (.ref a_byfallingrates) = true)
    (g_shapesbehind : PySem.W.nsIn K mainGlobals "shapes_behind" = some (some (.ref a_shapesbehind)))
    (l_shapesbehind : K.lookup a_shapesbehind = some ⟨oc_shapesbehind, od_shapesbehind, .func (PySem.W.fnOf "shapes_behind" "shapes_behind" (A9 s_shapesbehind) (A8 s_shapesbehind) (A3 s_shapesbehind) .none kV_shapesbehind dc_shapesbehind pm_shapesbehind an_shapesbehind cd_shapesbehind ct_shapesbehind), sl_shapesbehind⟩)
    (c_shapesbehind : PySem.W.codeIn K cd_shapesbehind "shapes_behind" = true)
    (k_shapesbehind : PySem.W.keepIn K (.ref a_shapesbehind) = true)
    (g_shapescaled : PySem.W.nsIn K mainGlobals "shape_scaled" = some (some (.ref a_shapescaled)))
    (l_shapescaled : K.lookup a_shapescaled = some ⟨oc_shapescaled, od_shapescaled, .func (PySem.W.fnOf "shape_scaled" "shape_scaled" (A9 s_shapescaled) (A8 s_shapescaled) (A3 s_shapescaled) .none kV_shapescaled dc_shapescaled pm_shapescaled an_shapescaled cd_shapescaled ct_shapescaled), sl_shapescaled⟩)
    (c_shapescaled : PySem.W.codeIn K cd_shapescaled "shape_scaled" = true)
    (k_shapescaled : PySem.W.keepIn K (.ref a_shapescaled) = true)
    (g_Lbegun : PySem.W.nsIn K mainGlobals "_law_begun" = some (some (.ref a_Lbegun)))
    (l_Lbegun : K.lookup a_Lbegun = some ⟨oc_Lbegun, od_Lbegun, .func (PySem.W.fnOf "_law_begun" "_law_begun" (A9 s_Lbegun) (A8 s_Lbegun) (A3 s_Lbegun) .none kV_Lbegun dc_Lbegun pm_Lbegun an_Lbegun cd_Lbegun ct_Lbegun), sl_Lbegun⟩)
    (c_Lbegun : PySem.W.codeIn K cd_Lbegun "_law_begun" = true)
    (k_Lbegun : PySem.W.keepIn K (.ref a_Lbegun) = true)
    (g_Ltake : PySem.W.nsIn K mainGlobals "_law_take" = some (some (.ref a_Ltake)))
    (l_Ltake : K.lookup a_Ltake = some ⟨oc_Ltake, od_Ltake, .func (PySem.W.fnOf "_law_take" "_law_take" (A9 s_Ltake) (A8 s_Ltake) (A3 s_Ltake) .none kV_Ltake dc_Ltake pm_Ltake an_Ltake cd_Ltake ct_Ltake), sl_Ltake⟩)
    (c_Ltake : PySem.W.codeIn K cd_Ltake "_law_take" = true)
    (k_Ltake : PySem.W.keepIn K (.ref a_Ltake) = true)
    (g_Llow : PySem.W.nsIn K mainGlobals "_law_low" = some (some (.ref a_Llow)))
    (l_Llow : K.lookup a_Llow = some ⟨oc_Llow, od_Llow, .func (PySem.W.fnOf "_law_low" "_law_low" (A9 s_Llow) (A8 s_Llow) (A3 s_Llow) .none kV_Llow dc_Llow pm_Llow an_Llow cd_Llow ct_Llow), sl_Llow⟩)
    (c_Llow : PySem.W.codeIn K cd_Llow "_law_low" = true)
    (k_Llow : PySem.W.keepIn K (.ref a_Llow) = true)
    (g_Lplus : PySem.W.nsIn K mainGlobals "_law_plus" = some (some (.ref a_Lplus)))
    (l_Lplus : K.lookup a_Lplus = some ⟨oc_Lplus, od_Lplus, .func (PySem.W.fnOf "_law_plus" "_law_plus" (A9 s_Lplus) (A8 s_Lplus) (A3 s_Lplus) .none kV_Lplus dc_Lplus pm_Lplus an_Lplus cd_Lplus ct_Lplus), sl_Lplus⟩)
    (c_Lplus : PySem.W.codeIn K cd_Lplus "_law_plus" = true)
    (k_Lplus : PySem.W.keepIn K (.ref a_Lplus) = true)
    (g_Lminus : PySem.W.nsIn K mainGlobals "_law_minus" = some (some (.ref a_Lminus)))
    (l_Lminus : K.lookup a_Lminus = some ⟨oc_Lminus, od_Lminus, .func (PySem.W.fnOf "_law_minus" "_law_minus" (A9 s_Lminus) (A8 s_Lminus) (A3 s_Lminus) .none kV_Lminus dc_Lminus pm_Lminus an_Lminus cd_Lminus ct_Lminus), sl_Lminus⟩)
    (c_Lminus : PySem.W.codeIn K cd_Lminus "_law_minus" = true)
    (k_Lminus : PySem.W.keepIn K (.ref a_Lminus) = true)
    (g_Ltimes : PySem.W.nsIn K mainGlobals "_law_times" = some (some (.ref a_Ltimes)))
    (l_Ltimes : K.lookup a_Ltimes = some ⟨oc_Ltimes, od_Ltimes, .func (PySem.W.fnOf "_law_times" "_law_times" (A9 s_Ltimes) (A8 s_Ltimes) (A3 s_Ltimes) .none kV_Ltimes dc_Ltimes pm_Ltimes an_Ltimes cd_Ltimes ct_Ltimes), sl_Ltimes⟩)
    (c_Ltimes : PySem.W.codeIn K cd_Ltimes "_law_times" = true)
    (k_Ltimes : PySem.W.keepIn K (.ref a_Ltimes) = true)
    (g_Lunder : PySem.W.nsIn K mainGlobals "_law_under" = some (some (.ref a_Lunder)))
    (l_Lunder : K.lookup a_Lunder = some ⟨oc_Lunder, od_Lunder, .func (PySem.W.fnOf "_law_under" "_law_under" (A9 s_Lunder) (A8 s_Lunder) (A3 s_Lunder) .none kV_Lunder dc_Lunder pm_Lunder an_Lunder cd_Lunder ct_Lunder), sl_Lunder⟩)
    (c_Lunder : PySem.W.codeIn K cd_Lunder "_law_under" = true)
    (k_Lunder : PySem.W.keepIn K (.ref a_Lunder) = true)
    (g_Lamount : PySem.W.nsIn K mainGlobals "_law_amount" = some (some (.ref a_Lamount)))
    (l_Lamount : K.lookup a_Lamount = some ⟨oc_Lamount, od_Lamount, .func (PySem.W.fnOf "_law_amount" "_law_amount" (A9 s_Lamount) (A8 s_Lamount) (A3 s_Lamount) .none kV_Lamount dc_Lamount pm_Lamount an_Lamount cd_Lamount ct_Lamount), sl_Lamount⟩)
    (c_Lamount : PySem.W.codeIn K cd_Lamount "_law_amount" = true)
    (k_Lamount : PySem.W.keepIn K (.ref a_Lamount) = true)
    (g_Lshape : PySem.W.nsIn K mainGlobals "_law_shape" = some (some (.ref a_Lshape)))
    (l_Lshape : K.lookup a_Lshape = some ⟨oc_Lshape, od_Lshape, .func (PySem.W.fnOf "_law_shape" "_law_shape" (A9 s_Lshape) (A8 s_Lshape) (A3 s_Lshape) .none kV_Lshape dc_Lshape pm_Lshape an_Lshape cd_Lshape ct_Lshape), sl_Lshape⟩)
    (c_Lshape : PySem.W.codeIn K cd_Lshape "_law_shape" = true)
    (k_Lshape : PySem.W.keepIn K (.ref a_Lshape) = true)
    (g_Lparted : PySem.W.nsIn K mainGlobals "_law_parted" = some (some (.ref a_Lparted)))
    (l_Lparted : K.lookup a_Lparted = some ⟨oc_Lparted, od_Lparted, .func (PySem.W.fnOf "_law_parted" "_law_parted" (A9 s_Lparted) (A8 s_Lparted) (A3 s_Lparted) .none kV_Lparted dc_Lparted pm_Lparted an_Lparted cd_Lparted ct_Lparted), sl_Lparted⟩)
    (c_Lparted : PySem.W.codeIn K cd_Lparted "_law_parted" = true)
    (k_Lparted : PySem.W.keepIn K (.ref a_Lparted) = true)
    (g_Lfall : PySem.W.nsIn K mainGlobals "_law_fall" = some (some (.ref a_Lfall)))
    (l_Lfall : K.lookup a_Lfall = some ⟨oc_Lfall, od_Lfall, .func (PySem.W.fnOf "_law_fall" "_law_fall" (A9 s_Lfall) (A8 s_Lfall) (A3 s_Lfall) .none kV_Lfall dc_Lfall pm_Lfall an_Lfall cd_Lfall ct_Lfall), sl_Lfall⟩)
    (c_Lfall : PySem.W.codeIn K cd_Lfall "_law_fall" = true)
    (k_Lfall : PySem.W.keepIn K (.ref a_Lfall) = true)
    (g_Lprice : PySem.W.nsIn K mainGlobals "_law_price" = some (some (.ref a_Lprice)))
    (l_Lprice : K.lookup a_Lprice = some ⟨oc_Lprice, od_Lprice, .func (PySem.W.fnOf "_law_price" "_law_price" (A9 s_Lprice) (A8 s_Lprice) (A3 s_Lprice) .none kV_Lprice dc_Lprice pm_Lprice an_Lprice cd_Lprice ct_Lprice), sl_Lprice⟩)
    (c_Lprice : PySem.W.codeIn K cd_Lprice "_law_price" = true)
    (k_Lprice : PySem.W.keepIn K (.ref a_Lprice) = true)
    (g_Lisshape : PySem.W.nsIn K mainGlobals "_law_is_shape" = some (some (.ref a_Lisshape)))
    (l_Lisshape : K.lookup a_Lisshape = some ⟨oc_Lisshape, od_Lisshape, .func (PySem.W.fnOf "_law_is_shape" "_law_is_shape" (A9 s_Lisshape) (A8 s_Lisshape) (A3 s_Lisshape) .none kV_Lisshape dc_Lisshape pm_Lisshape an_Lisshape cd_Lisshape ct_Lisshape), sl_Lisshape⟩)
    (c_Lisshape : PySem.W.codeIn K cd_Lisshape "_law_is_shape" = true)
    (k_Lisshape : PySem.W.keepIn K (.ref a_Lisshape) = true)
    (g_Lspots : PySem.W.nsIn K mainGlobals "_law_spots" = some (some (.ref a_Lspots)))
    (l_Lspots : K.lookup a_Lspots = some ⟨oc_Lspots, od_Lspots, .func (PySem.W.fnOf "_law_spots" "_law_spots" (A9 s_Lspots) (A8 s_Lspots) (A3 s_Lspots) .none kV_Lspots dc_Lspots pm_Lspots an_Lspots cd_Lspots ct_Lspots), sl_Lspots⟩)
    (c_Lspots : PySem.W.codeIn K cd_Lspots "_law_spots" = true)
    (k_Lspots : PySem.W.keepIn K (.ref a_Lspots) = true)
    (g_Lbesideright : PySem.W.nsIn K mainGlobals "_law_beside_right" = some (some (.ref a_Lbesideright)))
    (l_Lbesideright : K.lookup a_Lbesideright = some ⟨oc_Lbesideright, od_Lbesideright, .func (PySem.W.fnOf "_law_beside_right" "_law_beside_right" (A9 s_Lbesideright) (A8 s_Lbesideright) (A3 s_Lbesideright) .none kV_Lbesideright dc_Lbesideright pm_Lbesideright an_Lbesideright cd_Lbesideright ct_Lbesideright), sl_Lbesideright⟩)
    (c_Lbesideright : PySem.W.codeIn K cd_Lbesideright "_law_beside_right" = true)
    (k_Lbesideright : PySem.W.keepIn K (.ref a_Lbesideright) = true)
    (g_Lpartedprice : PySem.W.nsIn K mainGlobals "_law_parted_price" = some (some (.ref a_Lpartedprice)))
    (l_Lpartedprice : K.lookup a_Lpartedprice = some ⟨oc_Lpartedprice, od_Lpartedprice, .func (PySem.W.fnOf "_law_parted_price" "_law_parted_price" (A9 s_Lpartedprice) (A8 s_Lpartedprice) (A3 s_Lpartedprice) .none kV_Lpartedprice dc_Lpartedprice pm_Lpartedprice an_Lpartedprice cd_Lpartedprice ct_Lpartedprice), sl_Lpartedprice⟩)
    (c_Lpartedprice : PySem.W.codeIn K cd_Lpartedprice "_law_parted_price" = true)
    (k_Lpartedprice : PySem.W.keepIn K (.ref a_Lpartedprice) = true)
    (g_Lbehindright : PySem.W.nsIn K mainGlobals "_law_behind_right" = some (some (.ref a_Lbehindright)))
    (l_Lbehindright : K.lookup a_Lbehindright = some ⟨oc_Lbehindright, od_Lbehindright, .func (PySem.W.fnOf "_law_behind_right" "_law_behind_right" (A9 s_Lbehindright) (A8 s_Lbehindright) (A3 s_Lbehindright) .none kV_Lbehindright dc_Lbehindright pm_Lbehindright an_Lbehindright cd_Lbehindright ct_Lbehindright), sl_Lbehindright⟩)
    (c_Lbehindright : PySem.W.codeIn K cd_Lbehindright "_law_behind_right" = true)
    (k_Lbehindright : PySem.W.keepIn K (.ref a_Lbehindright) = true)
    (g_Lalltold : PySem.W.nsIn K mainGlobals "_law_all_told" = some (some (.ref a_Lalltold)))
    (l_Lalltold : K.lookup a_Lalltold = some ⟨oc_Lalltold, od_Lalltold, .func (PySem.W.fnOf "_law_all_told" "_law_all_told" (A9 s_Lalltold) (A8 s_Lalltold) (A3 s_Lalltold) .none kV_Lalltold dc_Lalltold pm_Lalltold an_Lalltold cd_Lalltold ct_Lalltold), sl_Lalltold⟩)
    (c_Lalltold : PySem.W.codeIn K cd_Lalltold "_law_all_told" = true)
    (k_Lalltold : PySem.W.keepIn K (.ref a_Lalltold) = true)
    (g_law : PySem.W.nsIn K mainGlobals "law" = some (some (.ref a_law)))
    (l_law : K.lookup a_law = some ⟨oc_law, od_law, .func (PySem.W.fnOf "law" "law" (A9 s_law) (A8 s_law) (A3 s_law) .none kV_law dc_law pm_law an_law cd_law ct_law), sl_law⟩)
    (c_law : PySem.W.codeIn K cd_law "law" = true)
    (k_law : PySem.W.keepIn K (.ref a_law) = true)
    (z_abs : PySem.W.nsIn K mainGlobals "abs" = some none)
    (z_bool : PySem.W.nsIn K mainGlobals "bool" = some none)
    (z_int : PySem.W.nsIn K mainGlobals "int" = some none)
    (z_isinstance : PySem.W.nsIn K mainGlobals "isinstance" = some none)
    (z_len : PySem.W.nsIn K mainGlobals "len" = some none)
    (z_list : PySem.W.nsIn K mainGlobals "list" = some none)
    (z_max : PySem.W.nsIn K mainGlobals "max" = some none)
    (z_min : PySem.W.nsIn K mainGlobals "min" = some none)
    (z_range : PySem.W.nsIn K mainGlobals "range" = some none)
    (z_repr : PySem.W.nsIn K mainGlobals "repr" = some none)
    (z_tuple : PySem.W.nsIn K mainGlobals "tuple" = some none)
    (z_zip : PySem.W.nsIn K mainGlobals "zip" = some none)
    : ∃ fd : FuncData, (∀ (s : Shared) (v : Value), BindsTo s fd ⟨[v], []⟩ [("_law_script", v)]) /\ ∀ base : Heap, K.In base -> base.Ns mainGlobals mg -> FnOk l.prog w K mg base CX0 8 fa fd ["_law_script"] (sp_law K) := by
  have e := hfa.symm.trans (PySem.W.mg_of X G g_law)
  cases e
  have T : Txt K mg ⟨a_commonpart, PySem.W.fnOf "common_part" "common_part" (A9 s_commonpart) (A8 s_commonpart) (A3 s_commonpart) .none kV_commonpart dc_commonpart pm_commonpart an_commonpart cd_commonpart ct_commonpart, a_plus, PySem.W.fnOf "plus" "plus" (A9 s_plus) (A8 s_plus) (A3 s_plus) .none kV_plus dc_plus pm_plus an_plus cd_plus ct_plus, a_minus, PySem.W.fnOf "minus" "minus" (A9 s_minus) (A8 s_minus) (A3 s_minus) .none kV_minus dc_minus pm_minus an_minus cd_minus ct_minus, a_product, PySem.W.fnOf "product" "product" (A9 s_product) (A8 s_product) (A3 s_product) .none kV_product dc_product pm_product an_product cd_product ct_product, a_parted, PySem.W.fnOf "parted" "parted" (A9 s_parted) (A8 s_parted) (A3 s_parted) .none kV_parted dc_parted pm_parted an_parted cd_parted ct_parted, a_isless, PySem.W.fnOf "is_less" "is_less" (A9 s_isless) (A8 s_isless) (A3 s_isless) .none kV_isless dc_isless pm_isless an_isless cd_isless ct_isless, a_larger, PySem.W.fnOf "larger" "larger" (A9 s_larger) (A8 s_larger) (A3 s_larger) .none kV_larger dc_larger pm_larger an_larger cd_larger ct_larger, a_between, PySem.W.fnOf "between" "between" (A9 s_between) (A8 s_between) (A3 s_between) .none kV_between dc_between pm_between an_between cd_between ct_between, a_sharebetween, PySem.W.fnOf "share_between" "share_between" (A9 s_sharebetween) (A8 s_sharebetween) (A3 s_sharebetween) .none kV_sharebetween dc_sharebetween pm_sharebetween an_sharebetween cd_sharebetween ct_sharebetween, a_pieceat, PySem.W.fnOf "piece_at" "piece_at" (A9 s_pieceat) (A8 s_pieceat) (A3 s_pieceat) .none kV_pieceat dc_pieceat pm_pieceat an_pieceat cd_pieceat ct_pieceat, a_priceat, PySem.W.fnOf "price_at" "price_at" (A9 s_priceat) (A8 s_priceat) (A3 s_priceat) .none kV_priceat dc_priceat pm_priceat an_priceat cd_priceat ct_priceat, a_mergedwholes, PySem.W.fnOf "merged_wholes" "merged_wholes" (A9 s_mergedwholes) (A8 s_mergedwholes) (A3 s_mergedwholes) .none kV_mergedwholes dc_mergedwholes pm_mergedwholes an_mergedwholes cd_mergedwholes ct_mergedwholes, a_shapesbeside, PySem.W.fnOf "shapes_beside" "shapes_beside" (A9 s_shapesbeside) (A8 s_shapesbeside) (A3 s_shapesbeside) .none kV_shapesbeside dc_shapesbeside pm_shapesbeside an_shapesbeside cd_shapesbeside ct_shapesbeside, a_piecesof, PySem.W.fnOf "pieces_of" "pieces_of" (A9 s_piecesof) (A8 s_piecesof) (A3 s_piecesof) .none kV_piecesof dc_piecesof pm_piecesof an_piecesof cd_piecesof ct_piecesof, a_issteeper, PySem.W.fnOf "is_steeper" "is_steeper" (A9 s_issteeper) (A8 s_issteeper) (A3 s_issteeper) .none kV_issteeper dc_issteeper pm_issteeper an_issteeper cd_issteeper ct_issteeper, a_byfallingrates, PySem.W.fnOf "by_falling_rates" "by_falling_rates" (A9 s_byfallingrates) (A8 s_byfallingrates) (A3 s_byfallingrates) .none kV_byfallingrates dc_byfallingrates pm_byfallingrates an_byfallingrates cd_byfallingrates ct_byfallingrates, a_shapesbehind, PySem.W.fnOf "shapes_behind" "shapes_behind" (A9 s_shapesbehind) (A8 s_shapesbehind) (A3 s_shapesbehind) .none kV_shapesbehind dc_shapesbehind pm_shapesbehind an_shapesbehind cd_shapesbehind ct_shapesbehind, a_shapescaled, PySem.W.fnOf "shape_scaled" "shape_scaled" (A9 s_shapescaled) (A8 s_shapescaled) (A3 s_shapescaled) .none kV_shapescaled dc_shapescaled pm_shapescaled an_shapescaled cd_shapescaled ct_shapescaled, a_Lbegun, PySem.W.fnOf "_law_begun" "_law_begun" (A9 s_Lbegun) (A8 s_Lbegun) (A3 s_Lbegun) .none kV_Lbegun dc_Lbegun pm_Lbegun an_Lbegun cd_Lbegun ct_Lbegun, a_Ltake, PySem.W.fnOf "_law_take" "_law_take" (A9 s_Ltake) (A8 s_Ltake) (A3 s_Ltake) .none kV_Ltake dc_Ltake pm_Ltake an_Ltake cd_Ltake ct_Ltake, a_Llow, PySem.W.fnOf "_law_low" "_law_low" (A9 s_Llow) (A8 s_Llow) (A3 s_Llow) .none kV_Llow dc_Llow pm_Llow an_Llow cd_Llow ct_Llow, a_Lplus, PySem.W.fnOf "_law_plus" "_law_plus" (A9 s_Lplus) (A8 s_Lplus) (A3 s_Lplus) .none kV_Lplus dc_Lplus pm_Lplus an_Lplus cd_Lplus ct_Lplus, a_Lminus, PySem.W.fnOf "_law_minus" "_law_minus" (A9 s_Lminus) (A8 s_Lminus) (A3 s_Lminus) .none kV_Lminus dc_Lminus pm_Lminus an_Lminus cd_Lminus ct_Lminus, a_Ltimes, PySem.W.fnOf "_law_times" "_law_times" (A9 s_Ltimes) (A8 s_Ltimes) (A3 s_Ltimes) .none kV_Ltimes dc_Ltimes pm_Ltimes an_Ltimes cd_Ltimes ct_Ltimes, a_Lunder, PySem.W.fnOf "_law_under" "_law_under" (A9 s_Lunder) (A8 s_Lunder) (A3 s_Lunder) .none kV_Lunder dc_Lunder pm_Lunder an_Lunder cd_Lunder ct_Lunder, a_Lamount, PySem.W.fnOf "_law_amount" "_law_amount" (A9 s_Lamount) (A8 s_Lamount) (A3 s_Lamount) .none kV_Lamount dc_Lamount pm_Lamount an_Lamount cd_Lamount ct_Lamount, a_Lshape, PySem.W.fnOf "_law_shape" "_law_shape" (A9 s_Lshape) (A8 s_Lshape) (A3 s_Lshape) .none kV_Lshape dc_Lshape pm_Lshape an_Lshape cd_Lshape ct_Lshape, a_Lparted, PySem.W.fnOf "_law_parted" "_law_parted" (A9 s_Lparted) (A8 s_Lparted) (A3 s_Lparted) .none kV_Lparted dc_Lparted pm_Lparted an_Lparted cd_Lparted ct_Lparted, a_Lfall, PySem.W.fnOf "_law_fall" "_law_fall" (A9 s_Lfall) (A8 s_Lfall) (A3 s_Lfall) .none kV_Lfall dc_Lfall pm_Lfall an_Lfall cd_Lfall ct_Lfall, a_Lprice, PySem.W.fnOf "_law_price" "_law_price" (A9 s_Lprice) (A8 s_Lprice) (A3 s_Lprice) .none kV_Lprice dc_Lprice pm_Lprice an_Lprice cd_Lprice ct_Lprice, a_Lisshape, PySem.W.fnOf "_law_is_shape" "_law_is_shape" (A9 s_Lisshape) (A8 s_Lisshape) (A3 s_Lisshape) .none kV_Lisshape dc_Lisshape pm_Lisshape an_Lisshape cd_Lisshape ct_Lisshape, a_Lspots, PySem.W.fnOf "_law_spots" "_law_spots" (A9 s_Lspots) (A8 s_Lspots) (A3 s_Lspots) .none kV_Lspots dc_Lspots pm_Lspots an_Lspots cd_Lspots ct_Lspots, a_Lbesideright, PySem.W.fnOf "_law_beside_right" "_law_beside_right" (A9 s_Lbesideright) (A8 s_Lbesideright) (A3 s_Lbesideright) .none kV_Lbesideright dc_Lbesideright pm_Lbesideright an_Lbesideright cd_Lbesideright ct_Lbesideright, a_Lpartedprice, PySem.W.fnOf "_law_parted_price" "_law_parted_price" (A9 s_Lpartedprice) (A8 s_Lpartedprice) (A3 s_Lpartedprice) .none kV_Lpartedprice dc_Lpartedprice pm_Lpartedprice an_Lpartedprice cd_Lpartedprice ct_Lpartedprice, a_Lbehindright, PySem.W.fnOf "_law_behind_right" "_law_behind_right" (A9 s_Lbehindright) (A8 s_Lbehindright) (A3 s_Lbehindright) .none kV_Lbehindright dc_Lbehindright pm_Lbehindright an_Lbehindright cd_Lbehindright ct_Lbehindright, a_Lalltold, PySem.W.fnOf "_law_all_told" "_law_all_told" (A9 s_Lalltold) (A8 s_Lalltold) (A3 s_Lalltold) .none kV_Lalltold dc_Lalltold pm_Lalltold an_Lalltold cd_Lalltold ct_Lalltold, fa, PySem.W.fnOf "law" "law" (A9 s_law) (A8 s_law) (A3 s_law) .none kV_law dc_law pm_law an_law cd_law ct_law⟩ := ⟨C6 (st := s_commonpart) l_commonpart c_commonpart k_commonpart, PySem.W.mg_of X G g_commonpart, C6 (st := s_plus) l_plus c_plus k_plus, PySem.W.mg_of X G g_plus, C6 (st := s_minus) l_minus c_minus k_minus, PySem.W.mg_of X G g_minus, C6 (st := s_product) l_product c_product k_product, PySem.W.mg_of X G g_product, C6 (st := s_parted) l_parted c_parted k_parted, PySem.W.mg_of X G g_parted, C6 (st := s_isless) l_isless c_isless k_isless, PySem.W.mg_of X G g_isless, C6 (st := s_larger) l_larger c_larger k_larger, PySem.W.mg_of X G g_larger, C6 (st := s_between) l_between c_between k_between, PySem.W.mg_of X G g_between, C6 (st := s_sharebetween) l_sharebetween c_sharebetween k_sharebetween, PySem.W.mg_of X G g_sharebetween, C6 (st := s_pieceat) l_pieceat c_pieceat k_pieceat, PySem.W.mg_of X G g_pieceat, C6 (st := s_priceat) l_priceat c_priceat k_priceat, PySem.W.mg_of X G g_priceat, C6 (st := s_mergedwholes) l_mergedwholes c_mergedwholes k_mergedwholes, PySem.W.mg_of X G g_mergedwholes, C6 (st := s_shapesbeside) l_shapesbeside c_shapesbeside k_shapesbeside, PySem.W.mg_of X G g_shapesbeside, C6 (st := s_piecesof) l_piecesof c_piecesof k_piecesof, PySem.W.mg_of X G g_piecesof, C6 (st := s_issteeper) l_issteeper c_issteeper k_issteeper, PySem.W.mg_of X G g_issteeper, C6 (st := s_byfallingrates) l_byfallingrates c_byfallingrates k_byfallingrates, PySem.W.mg_of X G g_byfallingrates, C6 (st := s_shapesbehind) l_shapesbehind c_shapesbehind k_shapesbehind, PySem.W.mg_of X G g_shapesbehind, C6 (st := s_shapescaled) l_shapescaled c_shapescaled k_shapescaled, PySem.W.mg_of X G g_shapescaled, C6 (st := s_Lbegun) l_Lbegun c_Lbegun k_Lbegun, PySem.W.mg_of X G g_Lbegun, C6 (st := s_Ltake) l_Ltake c_Ltake k_Ltake, PySem.W.mg_of X G g_Ltake, C6 (st := s_Llow) l_Llow c_Llow k_Llow, PySem.W.mg_of X G g_Llow, C6 (st := s_Lplus) l_Lplus c_Lplus k_Lplus, PySem.W.mg_of X G g_Lplus, C6 (st := s_Lminus) l_Lminus c_Lminus k_Lminus, PySem.W.mg_of X G g_Lminus, C6 (st := s_Ltimes) l_Ltimes c_Ltimes k_Ltimes, PySem.W.mg_of X G g_Ltimes, C6 (st := s_Lunder) l_Lunder c_Lunder k_Lunder, PySem.W.mg_of X G g_Lunder, C6 (st := s_Lamount) l_Lamount c_Lamount k_Lamount, PySem.W.mg_of X G g_Lamount, C6 (st := s_Lshape) l_Lshape c_Lshape k_Lshape, PySem.W.mg_of X G g_Lshape, C6 (st := s_Lparted) l_Lparted c_Lparted k_Lparted, PySem.W.mg_of X G g_Lparted, C6 (st := s_Lfall) l_Lfall c_Lfall k_Lfall, PySem.W.mg_of X G g_Lfall, C6 (st := s_Lprice) l_Lprice c_Lprice k_Lprice, PySem.W.mg_of X G g_Lprice, C6 (st := s_Lisshape) l_Lisshape c_Lisshape k_Lisshape, PySem.W.mg_of X G g_Lisshape, C6 (st := s_Lspots) l_Lspots c_Lspots k_Lspots, PySem.W.mg_of X G g_Lspots, C6 (st := s_Lbesideright) l_Lbesideright c_Lbesideright k_Lbesideright, PySem.W.mg_of X G g_Lbesideright, C6 (st := s_Lpartedprice) l_Lpartedprice c_Lpartedprice k_Lpartedprice, PySem.W.mg_of X G g_Lpartedprice, C6 (st := s_Lbehindright) l_Lbehindright c_Lbehindright k_Lbehindright, PySem.W.mg_of X G g_Lbehindright, C6 (st := s_Lalltold) l_Lalltold c_Lalltold k_Lalltold, PySem.W.mg_of X G g_Lalltold, C6 (st := s_law) l_law c_law k_law, PySem.W.mg_of X G g_law, PySem.W.mg_none_of X G z_abs, PySem.W.mg_none_of X G z_bool, PySem.W.mg_none_of X G z_int, PySem.W.mg_none_of X G z_isinstance, PySem.W.mg_none_of X G z_len, PySem.W.mg_none_of X G z_list, PySem.W.mg_none_of X G z_max, PySem.W.mg_none_of X G z_min, PySem.W.mg_none_of X G z_range, PySem.W.mg_none_of X G z_repr, PySem.W.mg_none_of X G z_tuple, PySem.W.mg_none_of X G z_zip⟩
  exact ⟨PySem.W.fnOf "law" "law" (A9 s_law) (A8 s_law) (A3 s_law) .none kV_law dc_law pm_law an_law cd_law ct_law, fun s v => .of_eq rfl, fun base _ _ => B8p T⟩
theorem walk {l : PySem.W.OpenLaw} {q : Program} {loose : List Str} {XP : (Str -> Option Value) -> Heap -> Prop} {YP : World -> Heap -> Prop} {d : DefRec} {K : Params -> PySem.W.Frag} (hn : l.most = some 63) (hdf : d.params.defaults = [])
    (hY : ∀ (w : World) (h : Heap), YP w h -> (K w.params).In h)
    (F : ∀ (w : World) (mg : Str -> Option Value) (fa : Addr) (h : Heap), (K w.params).In h -> h.Ns mainGlobals mg -> mg d.name = some (.ref fa) ->
      ∃ fd : FuncData, (∀ (s : Shared) (u : Value), BindsTo s fd ⟨[u], []⟩ [("_law_script", u)]) /\ ∀ base : Heap, (K w.params).In base -> base.Ns mainGlobals mg -> FnOk l.prog w (K w.params) mg base CX0 8 fa fd ["_law_script"] (sp_law (K w.params))) :
    PySem.W.WalkO q loose XP YP l.row.toRowW d [] (fun f vs => PySem.call f vs) :=
  L2.B4d (n := 63) (k := 8) (x := "_law_script") (CX := fun _ => CX0) (sp := fun w => sp_law (K w.params)) hn (by decide) hdf ⟨rfl, rfl, by decide, by decide⟩ hY F (fun _ _ a ns hl _ hS => ⟨a, ns, rfl, hS, hl, fun _ => rfl⟩) fun _ _ _ _ _ z => z
end Prf
open PySem PySem.W PyProof.Rows
set_option maxRecDepth 100000 in
set_option maxHeartbeats 0 in
theorem PySem.Challenge.cw_hurryprice_k55_shapes_joined_holds : PySem.Challenge.rw_hurryprice_k55_shapes_joined.Holds := by
  refine holds_law Prf.said fun ws => ?_
  refine holds_open (q := Prf.qq) (loose := []) (Xt := Prf.xt) (XP := XL Prf.qq []) (Yf := Prf.hh.obs)
    (Ya := Prf.hh.val) (YP := Prf.hh.says) (N := 3260) Prf.left Prf.hh.of Prf.hh.keeps
    (fun s e => xl_of s (Bool.and_eq_true_iff.mp e).1) XL.keeps
    (by rfl) (by rfl) (by rfl) (fun s e => recFacts_of (Bool.and_eq_true_iff.mp e).2)
    (by rfl) ws (by decide +kernel)
    ⟨rfl, rfl, rfl, rfl, rfl, by decide +kernel⟩ ?hw ?hc
  case hw => w_witness2
  refine Prf.walk (l := PySem.Challenge.rw_hurryprice_k55_shapes_joined) (K := Prf.kk) rfl rfl (fun w h Y => PySem.W.kIn_of Y) ?F
  case F =>
    intro w mg fa h KX G hmg
    k_fill
    refine' Prf.all_mk KX G hmg ?g_commonpart ?l_commonpart ?c_commonpart ?k_commonpart ?g_plus ?l_plus ?c_plus ?k_plus ?g_minus ?l_minus ?c_minus ?k_minus ?g_product ?l_product ?c_product ?k_product ?g_parted ?l_parted ?c_parted ?k_parted ?g_isless ?l_isless ?c_isless ?k_isless ?g_larger ?l_larger ?c_larger ?k_larger ?g_between ?l_between ?c_between ?k_between ?g_sharebetween ?l_sharebetween ?c_sharebetween ?k_sharebetween ?g_pieceat ?l_pieceat ?c_pieceat ?k_pieceat ?g_priceat ?l_priceat ?c_priceat ?k_priceat ?g_mergedwholes ?l_mergedwholes ?c_mergedwholes ?k_mergedwholes ?g_shapesbeside ?l_shapesbeside ?c_shapesbeside ?k_shapesbeside ?g_piecesof ?l_piecesof ?c_piecesof ?k_piecesof ?g_issteeper ?l_issteeper ?c_issteeper ?k_issteeper ?g_byfallingrates ?l_byfallingrates ?c_byfallingrates ?k_byfallingrates ?g_shapesbehind ?l_shapesbehind ?c_shapesbehind ?k_shapesbehind ?g_shapescaled ?l_shapescaled ?c_shapescaled ?k_shapescaled ?g_Lbegun ?l_Lbegun ?c_Lbegun ?k_Lbegun ?g_Ltake ?l_Ltake ?c_Ltake ?k_Ltake ?g_Llow ?l_Llow ?c_Llow ?k_Llow ?g_Lplus ?l_Lplus ?c_Lplus ?k_Lplus ?g_Lminus ?l_Lminus ?c_Lminus ?k_Lminus ?g_Ltimes ?l_Ltimes ?c_Ltimes ?k_Ltimes ?g_Lunder ?l_Lunder ?c_Lunder ?k_Lunder ?g_Lamount ?l_Lamount ?c_Lamount ?k_Lamount ?g_Lshape ?l_Lshape ?c_Lshape ?k_Lshape ?g_Lparted ?l_Lparted ?c_Lparted ?k_Lparted ?g_Lfall ?l_Lfall ?c_Lfall ?k_Lfall ?g_Lprice ?l_Lprice ?c_Lprice ?k_Lprice ?g_Lisshape ?l_Lisshape ?c_Lisshape ?k_Lisshape ?g_Lspots ?l_Lspots ?c_Lspots ?k_Lspots ?g_Lbesideright ?l_Lbesideright ?c_Lbesideright ?k_Lbesideright ?g_Lpartedprice ?l_Lpartedprice ?c_Lpartedprice ?k_Lpartedprice ?g_Lbehindright ?l_Lbehindright ?c_Lbehindright ?k_Lbehindright ?g_Lalltold ?l_Lalltold ?c_Lalltold ?k_Lalltold ?g_law ?l_law ?c_law ?k_law ?z_abs ?z_bool ?z_int ?z_isinstance ?z_len ?z_list ?z_max ?z_min ?z_range ?z_repr ?z_tuple ?z_zip
    (case g_commonpart => k_is)
    (case l_commonpart => k_is)
    (case c_commonpart => k_is)
    (case k_commonpart => k_is)
    (case g_plus => k_is)
    (case l_plus => k_is)
    (case c_plus => k_is)
    (case k_plus => k_is)
    (case g_minus => k_is)
    (case l_minus => k_is)
    (case c_minus => k_is)
    (case k_minus => k_is)
    (case g_product => k_is)
    (case l_product => k_is)
    (case c_product => k_is)
    (case k_product => k_is)
    (case g_parted => k_is)
    (case l_parted => k_is)
    (case c_parted => k_is)
    (case k_parted => k_is)
    (case g_isless => k_is)
    (case l_isless => k_is)
    (case c_isless => k_is)
    (case k_isless => k_is)
    (case g_larger => k_is)
    (case l_larger => k_is)
    (case c_larger => k_is)
    (case k_larger => k_is)
    (case g_between => k_is)
    (case l_between => k_is)
    (case c_between => k_is)
    (case k_between => k_is)
    (case g_sharebetween => k_is)
    (case l_sharebetween => k_is)
    (case c_sharebetween => k_is)
    (case k_sharebetween => k_is)
    (case g_pieceat => k_is)
    (case l_pieceat => k_is)
    (case c_pieceat => k_is)
    (case k_pieceat => k_is)
    (case g_priceat => k_is)
    (case l_priceat => k_is)
    (case c_priceat => k_is)
    (case k_priceat => k_is)
    (case g_mergedwholes => k_is)
    (case l_mergedwholes => k_is)
    (case c_mergedwholes => k_is)
    (case k_mergedwholes => k_is)
    (case g_shapesbeside => k_is)
    (case l_shapesbeside => k_is)
    (case c_shapesbeside => k_is)
    (case k_shapesbeside => k_is)
    (case g_piecesof => k_is)
    (case l_piecesof => k_is)
    (case c_piecesof => k_is)
    (case k_piecesof => k_is)
    (case g_issteeper => k_is)
    (case l_issteeper => k_is)
    (case c_issteeper => k_is)
    (case k_issteeper => k_is)
    (case g_byfallingrates => k_is)
    (case l_byfallingrates => k_is)
    (case c_byfallingrates => k_is)
    (case k_byfallingrates => k_is)
    (case g_shapesbehind => k_is)
    (case l_shapesbehind => k_is)
    (case c_shapesbehind => k_is)
    (case k_shapesbehind => k_is)
    (case g_shapescaled => k_is)
    (case l_shapescaled => k_is)
    (case c_shapescaled => k_is)
    (case k_shapescaled => k_is)
    (case g_Lbegun => k_is)
    (case l_Lbegun => k_is)
    (case c_Lbegun => k_is)
    (case k_Lbegun => k_is)
    (case g_Ltake => k_is)
    (case l_Ltake => k_is)
    (case c_Ltake => k_is)
    (case k_Ltake => k_is)
    (case g_Llow => k_is)
    (case l_Llow => k_is)
    (case c_Llow => k_is)
    (case k_Llow => k_is)
    (case g_Lplus => k_is)
    (case l_Lplus => k_is)
    (case c_Lplus => k_is)
    (case k_Lplus => k_is)
    (case g_Lminus => k_is)
    (case l_Lminus => k_is)
    (case c_Lminus => k_is)
    (case k_Lminus => k_is)
    (case g_Ltimes => k_is)
    (case l_Ltimes => k_is)
    (case c_Ltimes => k_is)
    (case k_Ltimes => k_is)
    (case g_Lunder => k_is)
    (case l_Lunder => k_is)
    (case c_Lunder => k_is)
    (case k_Lunder => k_is)
    (case g_Lamount => k_is)
    (case l_Lamount => k_is)
    (case c_Lamount => k_is)
    (case k_Lamount => k_is)
    (case g_Lshape => k_is)
    (case l_Lshape => k_is)
    (case c_Lshape => k_is)
    (case k_Lshape => k_is)
    (case g_Lparted => k_is)
    (case l_Lparted => k_is)
    (case c_Lparted => k_is)
    (case k_Lparted => k_is)
    (case g_Lfall => k_is)
    (case l_Lfall => k_is)
    (case c_Lfall => k_is)
    (case k_Lfall => k_is)
    (case g_Lprice => k_is)
    (case l_Lprice => k_is)
    (case c_Lprice => k_is)
    (case k_Lprice => k_is)
    (case g_Lisshape => k_is)
    (case l_Lisshape => k_is)
    (case c_Lisshape => k_is)
    (case k_Lisshape => k_is)
    (case g_Lspots => k_is)
    (case l_Lspots => k_is)
    (case c_Lspots => k_is)
    (case k_Lspots => k_is)
    (case g_Lbesideright => k_is)
    (case l_Lbesideright => k_is)
    (case c_Lbesideright => k_is)
    (case k_Lbesideright => k_is)
    (case g_Lpartedprice => k_is)
    (case l_Lpartedprice => k_is)
    (case c_Lpartedprice => k_is)
    (case k_Lpartedprice => k_is)
    (case g_Lbehindright => k_is)
    (case l_Lbehindright => k_is)
    (case c_Lbehindright => k_is)
    (case k_Lbehindright => k_is)
    (case g_Lalltold => k_is)
    (case l_Lalltold => k_is)
    (case c_Lalltold => k_is)
    (case k_Lalltold => k_is)
    (case g_law => k_is)
    (case l_law => k_is)
    (case c_law => k_is)
    (case k_law => k_is)
    (case z_abs => k_is)
    (case z_bool => k_is)
    (case z_int => k_is)
    (case z_isinstance => k_is)
    (case z_len => k_is)
    (case z_list => k_is)
    (case z_max => k_is)
    (case z_min => k_is)
    (case z_range => k_is)
    (case z_repr => k_is)
    (case z_tuple => k_is)
    (case z_zip => k_is)
