import PyProof.Rows.All
import Wide.All
import OpenK.AllK
import Wide.FinOn
import Lean
import PyProof.EqAt
import PyProof.EqKinds
import PyProof.TupleCall
import PySem.Challenge.RW_hurryprice_k13_prices_of_plans
set_option Elab.async false
set_option linter.all false
set_option maxRecDepth 100000
set_option maxHeartbeats 4000000
namespace L2
open PySem PySem.Spec PyProof.Rows
def B0 (s : Stmt) : Arguments := match s with
  | .FunctionDef _ a _ _ _ _ _ _ _ _ => a
  | _ => { posonlyargs := [], args := [], vararg := none, kwonlyargs := [], kw_defaults := [], kwarg := none, defaults := [] }
def A9 (s : Stmt) : List Stmt := match s with
  | .FunctionDef _ _ b _ _ _ _ _ _ _ => b
  | _ => []
def A5 (s : Stmt) : Scope := match s with
  | .FunctionDef _ _ _ _ _ _ sc _ _ _ => sc
  | _ => { kind := .function, names := [], isGenerator := false, isCoroutine := false }
end L2
namespace L2
open PySem PySem.W PySem.Spec PyProof.Rows
def O6 (tb : String -> Option Builtin) (p : Program) (w : World) (m : Nat) (ann : Option Value) : Nat -> SharedT -> Thread -> Option SharedT
  | 0, _, _ => none
  | n + 1, s, t => match through t with
    | true => some s
    | false => match stepOk m ann t with
      | false => none
      | true => match stepT (denote tb) p w s t with
        | some x => O6 tb p w m ann n x.1 x.2
        | none => none
theorem T7 {tb : String -> Option Builtin} {p : Program} {w : World} {m : Nat} {ann : Option Value} : ∀ (n : Nat) (s r : SharedT) (t : Thread), O6 tb p w m ann n s t = some r -> topRun tb p w m ann n s.abs t = some r.abs
  | 0, _, _, _, h => by cases h
  | n + 1, s, r, t, h => by
    unfold O6 at h
    unfold topRun
    cases a : through t with
    | true => rw [a] at h; cases h; rfl
    | false =>
      rw [a] at h
      cases b : stepOk m ann t with
      | false => rw [b] at h; cases h
      | true =>
        rw [b] at h
        cases c : stepT (denote tb) p w s t with
        | none => rw [c] at h; cases h
        | some x =>
          rw [c] at h
          rw [stepT_spec (s' := x.1) (t' := x.2) c]
          exact T7 n x.1 r x.2 h
def mkT (os : List Obj) : Nat -> Nat -> Nat -> BT
  | 0, _, _ => .nil
  | k + 1, a, b => match os[b]? with
    | some o => .node o (mkT os k (2 * a) (a + b)) (mkT os k (2 * a) (2 * a + b))
    | none => .nil
noncomputable def A4v (w : World) (os : OsState) : Shared := ⟨boot_heap w.params, Array.mk [], boot_drawn, boot_toks, os⟩
noncomputable def B2d (w : World) (os : OsState) : SharedT := ⟨mkT (boot_heap w.params).objs.toList 12 1 0, (boot_heap w.params).objs.size, (boot_heap w.params).life, Array.mk [], boot_drawn, boot_toks, os⟩
theorem B2c (w : World) (os : OsState) : (B2d w os).abs = A4v w os := by kernel_rfl
theorem B7m (w : World) (os : OsState) : ((A4v w os).heap.isNs mainGlobals && (A4v w os).gens.size == 0) = true := by kernel_rfl
theorem C1w {p q : Program} {loose : List Str} {Xt : Shared -> Bool} {α : Type} {Yf : Shared -> α} {Ya : World -> α} {N : Nat} (ho : opening p = plainProg p.main.scope.names) (hN : Nat.ble 600 N = true) (hf : ∀ s, fenceModules? p s = some s)
    (run : ∀ (w : World) (os : OsState), (O6 treeTable p w (boot_heap w.params).objs.size ((boot_heap w.params).nsMap mainGlobals "__annotations__") N (B2d w os) (topStub p)).map
      (fun x => (staticsOk (importedModules p.main.body) (boot_heap w.params) x.abs.heap && namesBound p x.abs.heap && gensDone x.abs && laidKept (boot_heap w.params) x.abs.heap, openSeen q loose (importedModules p.main.body) Xt true x.abs, Yf x.abs)) = some (true, openGood q loose, Ya w)) :
    LeftO p q loose Xt Yf Ya N := fun w => by
  obtain ⟨⟨h, gs, d, k, os⟩, e, z⟩ := Option.map_eq_some_iff.mp (boot_open ho hN hf w)
  obtain ⟨rfl, rfl, rfl, rfl⟩ : h = boot_heap w.params /\ gs = Array.mk [] /\ d = boot_drawn /\ k = boot_toks := by simpa using z
  obtain ⟨x, r, v⟩ := Option.map_eq_some_iff.mp (run w os)
  have r := T7 _ _ _ _ r
  rw [B2c] at r
  obtain ⟨v1, v2⟩ := Prod.mk.inj v
  obtain ⟨v2, v3⟩ := Prod.mk.inj v2
  show ((fencedOpening treeTable p w N).bind (topFrom treeTable p w N)).map _ = _
  rw [e]
  show (topFrom treeTable p w N (A4v w os)).map _ = _
  have t : topFrom treeTable p w N (A4v w os) = some x.abs := by
    unfold topFrom
    rw [B7m]
    show (topRun treeTable p w (boot_heap w.params).objs.size ((boot_heap w.params).nsMap mainGlobals "__annotations__") N (A4v w os) (topStub p)).bind _ = _
    rw [r]
    show (match staticsOk (importedModules p.main.body) (boot_heap w.params) x.abs.heap && namesBound p x.abs.heap && gensDone x.abs && laidKept (boot_heap w.params) x.abs.heap with | true => some x.abs | false => none) = _
    rw [v1]
  rw [t]
  show some (openSeen q loose (importedModules p.main.body) Xt true x.abs, Yf x.abs) = _
  rw [v2, v3]
noncomputable abbrev ranT (p : Program) (N : Nat) (w : World) (os : OsState) : Option SharedT := O6 treeTable p w (boot_heap w.params).objs.size ((boot_heap w.params).nsMap mainGlobals "__annotations__") N (B2d w os) (topStub p)
theorem B91 {p q : Program} {loose : List Str} {Xt : Shared -> Bool} {α : Type} {Yf : Shared -> α} {Ya : World -> α} {N : Nat} (ho : opening p = plainProg p.main.scope.names) (hN : Nat.ble 600 N = true) (hf : ∀ s, fenceModules? p s = some s)
    (a : ∀ (w : World) (os : OsState), (ranT p N w os).map (fun x => staticsOk (importedModules p.main.body) (boot_heap w.params) x.abs.heap && namesBound p x.abs.heap && gensDone x.abs && laidKept (boot_heap w.params) x.abs.heap) = some true)
    (b : ∀ (w : World) (os : OsState), (ranT p N w os).map (fun x => openSeen q loose (importedModules p.main.body) Xt true x.abs) = some (openGood q loose))
    (c : ∀ (w : World) (os : OsState), (ranT p N w os).map (fun x => Yf x.abs) = some (Ya w)) : LeftO p q loose Xt Yf Ya N :=
  C1w ho hN hf fun w os => by
    obtain ⟨x, r, e⟩ := Option.map_eq_some_iff.mp (a w os)
    have r' : O6 treeTable p w (boot_heap w.params).objs.size ((boot_heap w.params).nsMap mainGlobals "__annotations__") N (B2d w os) (topStub p) = some x := r
    have f : openSeen q loose (importedModules p.main.body) Xt true x.abs = openGood q loose := by have z := b w os; rw [r] at z; exact Option.some.inj z
    have g : Yf x.abs = Ya w := by have z := c w os; rw [r] at z; exact Option.some.inj z
    rw [r']
    show some (_, _, _) = _
    rw [e, f, g]
theorem B90 {p q : Program} {loose : List Str} {Xt : Shared -> Bool} {α : Type} {Yf : Shared -> α} {Ya : World -> α} {N : Nat} (ho : opening p = plainProg p.main.scope.names) (hN : Nat.ble 600 N = true) (hf : ∀ s, fenceModules? p s = some s)
    (a : ∀ (w : World) (os : OsState), (ranT p N w os).map (fun x => staticsOk (importedModules p.main.body) (boot_heap w.params) x.abs.heap && namesBound p x.abs.heap && gensDone x.abs && laidKept (boot_heap w.params) x.abs.heap) = some true)
    (b : ∀ (w : World) (os : OsState), (ranT p N w os).map (fun x => (openSeen q loose (importedModules p.main.body) Xt true x.abs).1) = some (openGood q loose).1)
    (b' : ∀ (w : World) (os : OsState), (ranT p N w os).map (fun x => (openSeen q loose (importedModules p.main.body) Xt true x.abs).2) = some (openGood q loose).2)
    (c : ∀ (w : World) (os : OsState), (ranT p N w os).map (fun x => Yf x.abs) = some (Ya w)) : LeftO p q loose Xt Yf Ya N :=
  B91 ho hN hf a (fun w os => by
    obtain ⟨x, r, e⟩ := Option.map_eq_some_iff.mp (b w os)
    have z := b' w os
    rw [r] at z ⊢
    exact congrArg some (Prod.ext e (Option.some.inj z))) c
end L2
namespace Prf
open PySem L2
def top (i : Nat) : Stmt := PySem.Challenge.pw_hurryprice_k13_prices_of_plans.main.body.getD i (.Pass ⟨0, 0, 0, 0⟩)
abbrev s_commonpart : Stmt := top 1
abbrev s_plus : Stmt := top 22
abbrev s_minus : Stmt := top 23
abbrev s_product : Stmt := top 24
abbrev s_parted : Stmt := top 25
abbrev s_isless : Stmt := top 26
abbrev s_larger : Stmt := top 27
abbrev s_sumof : Stmt := top 28
abbrev s_ratebetween : Stmt := top 30
abbrev s_isoffered : Stmt := top 31
abbrev s_cornersabove : Stmt := top 32
abbrev s_priceoftime : Stmt := top 33
abbrev s_endof : Stmt := top 35
abbrev s_priceof : Stmt := top 36
abbrev s_wholeof : Stmt := top 37
abbrev s_Lbegun : Stmt := top 39
abbrev s_Ltake : Stmt := top 40
abbrev s_Llow : Stmt := top 41
abbrev s_Lplus : Stmt := top 42
abbrev s_Lminus : Stmt := top 43
abbrev s_Ltimes : Stmt := top 44
abbrev s_Lunder : Stmt := top 45
abbrev s_Lamount : Stmt := top 46
abbrev s_Loffer : Stmt := top 47
abbrev s_Lnames : Stmt := top 48
abbrev s_Lorder : Stmt := top 49
abbrev s_Llag : Stmt := top 50
abbrev s_Lwaits : Stmt := top 51
abbrev s_Lholds : Stmt := top 52
abbrev s_Lgroups : Stmt := top 53
abbrev s_Lnet : Stmt := top 54
abbrev s_Lalike : Stmt := top 55
abbrev s_Lcopy : Stmt := top 56
abbrev s_Ltime : Stmt := top 57
abbrev s_Lprice : Stmt := top 58
abbrev s_Lplan : Stmt := top 59
abbrev s_Lnotime : Stmt := top 60
abbrev s_Llatest : Stmt := top 61
abbrev s_law : Stmt := top 62
abbrev nE (P : Params) (x : Str) (t : Tok) (v : Value) : DictEntry := ⟨PyData.keyHash P x, .str x t, v⟩
noncomputable def kk : Params -> PySem.W.Frag := fun P =>
  (nat_lit 3, ⟨(.type "dict"), none, (.dict #[nE P "__name__" 165 (.str "law_hurryprice_k13_prices_of_plans" 648), nE P "__doc__" 166 .none, nE P "__package__" 167 .none, nE P "__loader__" 168 (.builtin "__main__.__loader__#opaque"), nE P "__spec__" 169 .none, nE P "__annotations__" 170 (.ref 6), nE P "__builtins__" 171 (.ref 4), nE P "__file__" 173 (.str "/claim/cut.py" 172), nE P "__cached__" 174 .none, nE P "common_part" 196 (.ref 21), nE P "HurryError" 216 (.ref 31), nE P "NoNumber" 232 (.ref 44), nE P "NoTime" 248 (.ref 56), nE P "NoNet" 275 (.ref 75), nE P "NoPaper" 300 (.ref 94), nE P "Unbalanced" 325 (.ref 113), nE P "NotStraight" 341 (.ref 125), nE P "NoJoin" 357 (.ref 137), nE P "NoTree" 382 (.ref 156), nE P "TooMany" 398 (.ref 168), nE P "NotSteps" 414 (.ref 180), nE P "NoChange" 430 (.ref 192), nE P "NoText" 455 (.ref 211), nE P "NoDiary" 471 (.ref 223), nE P "NoDeed" 487 (.ref 235), nE P "NoRow" 503 (.ref 247), nE P "NoName" 519 (.ref 259), nE P "NOUGHT" 524 (.ref 262), nE P "plus" 537 (.ref 269), nE P "minus" 545 (.ref 276), nE P "product" 555 (.ref 283), nE P "parted" 565 (.ref 290), nE P "is_less" 573 (.ref 297), nE P "larger" 581 (.ref 304), nE P "sum_of" 590 (.ref 311), nE P "rate_between" 600 (.ref 318), nE P "is_offered" 606 (.ref 323), nE P "corners_above" 612 (.ref 328), nE P "price_of_time" 623 (.ref 335), nE P "end_of" 632 (.ref 342), nE P "price_of" 638 (.ref 347), nE P "whole_of" 647 (.ref 354), nE P "_law_begun" 658 (.ref 361), nE P "_law_take" 669 (.ref 368), nE P "_law_low" 679 (.ref 375), nE P "_law_plus" 687 (.ref 382), nE P "_law_minus" 695 (.ref 389), nE P "_law_times" 703 (.ref 396), nE P "_law_under" 711 (.ref 403), nE P "_law_amount" 722 (.ref 410), nE P "_law_offer" 728 (.ref 415), nE P "_law_names" 734 (.ref 420), nE P "_law_order" 744 (.ref 427), nE P "_law_lag" 753 (.ref 434), nE P "_law_waits" 768 (.ref 441), nE P "_law_holds" 782 (.ref 448), nE P "_law_groups" 788 (.ref 453), nE P "_law_net" 809 (.ref 460), nE P "_law_alike" 815 (.ref 465), nE P "_law_copy" 821 (.ref 470), nE P "_law_time" 833 (.ref 477), nE P "_law_price" 849 (.ref 484), nE P "_law_plan" 864 (.ref 491), nE P "_law_no_time" 873 (.ref 498), nE P "_law_latest" 884 (.ref 505), nE P "law" 890 (.ref 510)] 66), #[]⟩) ::
  (nat_lit 20, ⟨(.type "code"), none, (.fields #[(.str "common_part" 189), (.str "common_part" 190), (.str "/claim/cut.py" 191), (.int 2 0), (.int 2 0), (.int 0 0), (.int 0 0), (.int 3 0), (.ref 15), (.bool true), (.int 181 0), (.ref 16), .none, (.ref 17), (.ref 18), (.ref 19), (.int 194 0), (.int 2 0), (.str "/claim/cut.py" 195)]), #[]⟩) ::
  (nat_lit 21, ⟨(.type "function"), none, (.func (PySem.W.fnOf "common_part" "common_part" (B0 s_commonpart) (A9 s_commonpart) (A5 s_commonpart) .none .none .none (.str "hurryprice.names" 187) none (.ref 20) .none)), #[]⟩) ::
  (nat_lit 30, ⟨(.type "dict"), none, (.dict #[nE P "__module__" 206 (.str "hurryprice.errors" 197), nE P "__firstlineno__" 210 (.int 8 209), nE P "__static_attributes__" 211 (.ref 29), nE P "__weakref__" 213 (.ref 32), nE P "__doc__" 214 .none] 3), #[]⟩) ::
  (nat_lit 31, ⟨(.type "type"), none, (.cls ⟨"HurryError", [(.type "ValueError")], [(.ref 31), (.type "ValueError"), (.type "Exception"), (.type "BaseException"), (.type "object")], 30, "HurryError", true, [], [(.ref 44), (.ref 56), (.ref 75), (.ref 94), (.ref 113), (.ref 125), (.ref 137), (.ref 156), (.ref 168), (.ref 180), (.ref 192), (.ref 211), (.ref 223), (.ref 235), (.ref 247), (.ref 259)], false, none, false⟩), #[(some (.ref 22)), none, (some (.str "HurryError" 199)), (some (.str "HurryError" 207)), (some (.builtin "ValueError.__new__")), (some (.bool true))]⟩) ::
  (nat_lit 43, ⟨(.type "dict"), none, (.dict #[nE P "__module__" 224 (.str "hurryprice.errors" 197), nE P "__firstlineno__" 228 (.int 10 227), nE P "__static_attributes__" 229 (.ref 42), nE P "__doc__" 230 .none] 2), #[]⟩) ::
  (nat_lit 44, ⟨(.type "type"), none, (.cls ⟨"NoNumber", [(.ref 31)], [(.ref 44), (.ref 31), (.type "ValueError"), (.type "Exception"), (.type "BaseException"), (.type "object")], 43, "NoNumber", true, [], [], false, none, false⟩), #[(some (.ref 35)), none, (some (.str "NoNumber" 217)), (some (.str "NoNumber" 225)), (some (.builtin "ValueError.__new__")), (some (.bool true))]⟩) ::
  (nat_lit 55, ⟨(.type "dict"), none, (.dict #[nE P "__module__" 240 (.str "hurryprice.errors" 197), nE P "__firstlineno__" 244 (.int 12 243), nE P "__static_attributes__" 245 (.ref 54), nE P "__doc__" 246 .none] 2), #[]⟩) ::
  (nat_lit 56, ⟨(.type "type"), none, (.cls ⟨"NoTime", [(.ref 31)], [(.ref 56), (.ref 31), (.type "ValueError"), (.type "Exception"), (.type "BaseException"), (.type "object")], 55, "NoTime", true, [], [], false, none, false⟩), #[(some (.ref 47)), none, (some (.str "NoTime" 233)), (some (.str "NoTime" 241)), (some (.builtin "ValueError.__new__")), (some (.bool true))]⟩) ::
  (nat_lit 74, ⟨(.type "dict"), none, (.dict #[nE P "__module__" 256 (.str "hurryprice.errors" 197), nE P "__firstlineno__" 260 (.int 14 259), nE P "__init__" 269 (.ref 72), nE P "__static_attributes__" 272 (.ref 73), nE P "__doc__" 273 .none] 2), #[]⟩) ::
  (nat_lit 75, ⟨(.type "type"), none, (.cls ⟨"NoNet", [(.ref 31)], [(.ref 75), (.ref 31), (.type "ValueError"), (.type "Exception"), (.type "BaseException"), (.type "object")], 74, "NoNet", true, [], [], false, none, false⟩), #[(some (.ref 59)), none, (some (.str "NoNet" 249)), (some (.str "NoNet" 257)), (some (.builtin "ValueError.__new__")), (some (.bool true))]⟩) ::
  (nat_lit 93, ⟨(.type "dict"), none, (.dict #[nE P "__module__" 283 (.str "hurryprice.errors" 197), nE P "__firstlineno__" 287 (.int 19 286), nE P "__init__" 295 (.ref 91), nE P "__static_attributes__" 297 (.ref 92), nE P "__doc__" 298 .none] 2), #[]⟩) ::
  (nat_lit 94, ⟨(.type "type"), none, (.cls ⟨"NoPaper", [(.ref 31)], [(.ref 94), (.ref 31), (.type "ValueError"), (.type "Exception"), (.type "BaseException"), (.type "object")], 93, "NoPaper", true, [], [], false, none, false⟩), #[(some (.ref 78)), none, (some (.str "NoPaper" 276)), (some (.str "NoPaper" 284)), (some (.builtin "ValueError.__new__")), (some (.bool true))]⟩) ::
  (nat_lit 112, ⟨(.type "dict"), none, (.dict #[nE P "__module__" 308 (.str "hurryprice.errors" 197), nE P "__firstlineno__" 312 (.int 23 311), nE P "__init__" 320 (.ref 110), nE P "__static_attributes__" 322 (.ref 111), nE P "__doc__" 323 .none] 2), #[]⟩) ::
  (nat_lit 113, ⟨(.type "type"), none, (.cls ⟨"Unbalanced", [(.ref 31)], [(.ref 113), (.ref 31), (.type "ValueError"), (.type "Exception"), (.type "BaseException"), (.type "object")], 112, "Unbalanced", true, [], [], false, none, false⟩), #[(some (.ref 97)), none, (some (.str "Unbalanced" 301)), (some (.str "Unbalanced" 309)), (some (.builtin "ValueError.__new__")), (some (.bool true))]⟩) ::
  (nat_lit 124, ⟨(.type "dict"), none, (.dict #[nE P "__module__" 333 (.str "hurryprice.errors" 197), nE P "__firstlineno__" 337 (.int 27 336), nE P "__static_attributes__" 338 (.ref 123), nE P "__doc__" 339 .none] 2), #[]⟩) ::
  (nat_lit 125, ⟨(.type "type"), none, (.cls ⟨"NotStraight", [(.ref 31)], [(.ref 125), (.ref 31), (.type "ValueError"), (.type "Exception"), (.type "BaseException"), (.type "object")], 124, "NotStraight", true, [], [], false, none, false⟩), #[(some (.ref 116)), none, (some (.str "NotStraight" 326)), (some (.str "NotStraight" 334)), (some (.builtin "ValueError.__new__")), (some (.bool true))]⟩) ::
  (nat_lit 136, ⟨(.type "dict"), none, (.dict #[nE P "__module__" 349 (.str "hurryprice.errors" 197), nE P "__firstlineno__" 353 (.int 29 352), nE P "__static_attributes__" 354 (.ref 135), nE P "__doc__" 355 .none] 2), #[]⟩) ::
  (nat_lit 137, ⟨(.type "type"), none, (.cls ⟨"NoJoin", [(.ref 31)], [(.ref 137), (.ref 31), (.type "ValueError"), (.type "Exception"), (.type "BaseException"), (.type "object")], 136, "NoJoin", true, [], [], false, none, false⟩), #[(some (.ref 128)), none, (some (.str "NoJoin" 342)), (some (.str "NoJoin" 350)), (some (.builtin "ValueError.__new__")), (some (.bool true))]⟩) ::
  (nat_lit 155, ⟨(.type "dict"), none, (.dict #[nE P "__module__" 365 (.str "hurryprice.errors" 197), nE P "__firstlineno__" 369 (.int 31 368), nE P "__init__" 377 (.ref 153), nE P "__static_attributes__" 379 (.ref 154), nE P "__doc__" 380 .none] 2), #[]⟩) ::
  (nat_lit 156, ⟨(.type "type"), none, (.cls ⟨"NoTree", [(.ref 31)], [(.ref 156), (.ref 31), (.type "ValueError"), (.type "Exception"), (.type "BaseException"), (.type "object")], 155, "NoTree", true, [], [], false, none, false⟩), #[(some (.ref 140)), none, (some (.str "NoTree" 358)), (some (.str "NoTree" 366)), (some (.builtin "ValueError.__new__")), (some (.bool true))]⟩) ::
  (nat_lit 167, ⟨(.type "dict"), none, (.dict #[nE P "__module__" 390 (.str "hurryprice.errors" 197), nE P "__firstlineno__" 394 (.int 35 393), nE P "__static_attributes__" 395 (.ref 166), nE P "__doc__" 396 .none] 2), #[]⟩) ::
  (nat_lit 168, ⟨(.type "type"), none, (.cls ⟨"TooMany", [(.ref 31)], [(.ref 168), (.ref 31), (.type "ValueError"), (.type "Exception"), (.type "BaseException"), (.type "object")], 167, "TooMany", true, [], [], false, none, false⟩), #[(some (.ref 159)), none, (some (.str "TooMany" 383)), (some (.str "TooMany" 391)), (some (.builtin "ValueError.__new__")), (some (.bool true))]⟩) ::
  (nat_lit 179, ⟨(.type "dict"), none, (.dict #[nE P "__module__" 406 (.str "hurryprice.errors" 197), nE P "__firstlineno__" 410 (.int 37 409), nE P "__static_attributes__" 411 (.ref 178), nE P "__doc__" 412 .none] 2), #[]⟩) ::
  (nat_lit 180, ⟨(.type "type"), none, (.cls ⟨"NotSteps", [(.ref 31)], [(.ref 180), (.ref 31), (.type "ValueError"), (.type "Exception"), (.type "BaseException"), (.type "object")], 179, "NotSteps", true, [], [], false, none, false⟩), #[(some (.ref 171)), none, (some (.str "NotSteps" 399)), (some (.str "NotSteps" 407)), (some (.builtin "ValueError.__new__")), (some (.bool true))]⟩) ::
  (nat_lit 191, ⟨(.type "dict"), none, (.dict #[nE P "__module__" 422 (.str "hurryprice.errors" 197), nE P "__firstlineno__" 426 (.int 39 425), nE P "__static_attributes__" 427 (.ref 190), nE P "__doc__" 428 .none] 2), #[]⟩) ::
  (nat_lit 192, ⟨(.type "type"), none, (.cls ⟨"NoChange", [(.ref 31)], [(.ref 192), (.ref 31), (.type "ValueError"), (.type "Exception"), (.type "BaseException"), (.type "object")], 191, "NoChange", true, [], [], false, none, false⟩), #[(some (.ref 183)), none, (some (.str "NoChange" 415)), (some (.str "NoChange" 423)), (some (.builtin "ValueError.__new__")), (some (.bool true))]⟩) ::
  (nat_lit 210, ⟨(.type "dict"), none, (.dict #[nE P "__module__" 438 (.str "hurryprice.errors" 197), nE P "__firstlineno__" 442 (.int 41 441), nE P "__init__" 450 (.ref 208), nE P "__static_attributes__" 452 (.ref 209), nE P "__doc__" 453 .none] 2), #[]⟩) ::
  (nat_lit 211, ⟨(.type "type"), none, (.cls ⟨"NoText", [(.ref 31)], [(.ref 211), (.ref 31), (.type "ValueError"), (.type "Exception"), (.type "BaseException"), (.type "object")], 210, "NoText", true, [], [], false, none, false⟩), #[(some (.ref 195)), none, (some (.str "NoText" 431)), (some (.str "NoText" 439)), (some (.builtin "ValueError.__new__")), (some (.bool true))]⟩) ::
  (nat_lit 222, ⟨(.type "dict"), none, (.dict #[nE P "__module__" 463 (.str "hurryprice.errors" 197), nE P "__firstlineno__" 467 (.int 45 466), nE P "__static_attributes__" 468 (.ref 221), nE P "__doc__" 469 .none] 2), #[]⟩) ::
  (nat_lit 223, ⟨(.type "type"), none, (.cls ⟨"NoDiary", [(.ref 31)], [(.ref 223), (.ref 31), (.type "ValueError"), (.type "Exception"), (.type "BaseException"), (.type "object")], 222, "NoDiary", true, [], [], false, none, false⟩), #[(some (.ref 214)), none, (some (.str "NoDiary" 456)), (some (.str "NoDiary" 464)), (some (.builtin "ValueError.__new__")), (some (.bool true))]⟩) ::
  (nat_lit 234, ⟨(.type "dict"), none, (.dict #[nE P "__module__" 479 (.str "hurryprice.errors" 197), nE P "__firstlineno__" 483 (.int 47 482), nE P "__static_attributes__" 484 (.ref 233), nE P "__doc__" 485 .none] 2), #[]⟩) ::
  (nat_lit 235, ⟨(.type "type"), none, (.cls ⟨"NoDeed", [(.ref 31)], [(.ref 235), (.ref 31), (.type "ValueError"), (.type "Exception"), (.type "BaseException"), (.type "object")], 234, "NoDeed", true, [], [], false, none, false⟩), #[(some (.ref 226)), none, (some (.str "NoDeed" 472)), (some (.str "NoDeed" 480)), (some (.builtin "ValueError.__new__")), (some (.bool true))]⟩) ::
  (nat_lit 246, ⟨(.type "dict"), none, (.dict #[nE P "__module__" 495 (.str "hurryprice.errors" 197), nE P "__firstlineno__" 499 (.int 49 498), nE P "__static_attributes__" 500 (.ref 245), nE P "__doc__" 501 .none] 2), #[]⟩) ::
  (nat_lit 247, ⟨(.type "type"), none, (.cls ⟨"NoRow", [(.ref 31)], [(.ref 247), (.ref 31), (.type "ValueError"), (.type "Exception"), (.type "BaseException"), (.type "object")], 246, "NoRow", true, [], [], false, none, false⟩), #[(some (.ref 238)), none, (some (.str "NoRow" 488)), (some (.str "NoRow" 496)), (some (.builtin "ValueError.__new__")), (some (.bool true))]⟩) ::
  (nat_lit 258, ⟨(.type "dict"), none, (.dict #[nE P "__module__" 511 (.str "hurryprice.errors" 197), nE P "__firstlineno__" 515 (.int 51 514), nE P "__static_attributes__" 516 (.ref 257), nE P "__doc__" 517 .none] 2), #[]⟩) ::
  (nat_lit 259, ⟨(.type "type"), none, (.cls ⟨"NoName", [(.ref 31)], [(.ref 259), (.ref 31), (.type "ValueError"), (.type "Exception"), (.type "BaseException"), (.type "object")], 258, "NoName", true, [], [], false, none, false⟩), #[(some (.ref 250)), none, (some (.str "NoName" 504)), (some (.str "NoName" 512)), (some (.builtin "ValueError.__new__")), (some (.bool true))]⟩) ::
  (nat_lit 262, ⟨(.type "tuple"), none, (.seq #[(.int 0 522), (.int 1 523)] 0), #[]⟩) ::
  (nat_lit 268, ⟨(.type "code"), none, (.fields #[(.str "plus" 525), (.str "plus" 526), (.str "/claim/cut.py" 527), (.int 55 0), (.int 2 0), (.int 0 0), (.int 0 0), (.int 3 0), (.ref 263), (.bool true), (.int 181 0), (.ref 264), .none, (.ref 265), (.ref 266), (.ref 267), (.int 535 0), (.int 55 0), (.str "/claim/cut.py" 536)]), #[]⟩) ::
  (nat_lit 269, ⟨(.type "function"), none, (.func (PySem.W.fnOf "plus" "plus" (B0 s_plus) (A9 s_plus) (A5 s_plus) .none .none .none (.str "hurryprice.ratios" 520) none (.ref 268) .none)), #[]⟩) ::
  (nat_lit 275, ⟨(.type "code"), none, (.fields #[(.str "minus" 538), (.str "minus" 539), (.str "/claim/cut.py" 540), (.int 61 0), (.int 2 0), (.int 0 0), (.int 0 0), (.int 3 0), (.ref 270), (.bool true), (.int 181 0), (.ref 271), .none, (.ref 272), (.ref 273), (.ref 274), (.int 543 0), (.int 61 0), (.str "/claim/cut.py" 544)]), #[]⟩) ::
  (nat_lit 276, ⟨(.type "function"), none, (.func (PySem.W.fnOf "minus" "minus" (B0 s_minus) (A9 s_minus) (A5 s_minus) .none .none .none (.str "hurryprice.ratios" 520) none (.ref 275) .none)), #[]⟩) ::
  (nat_lit 282, ⟨(.type "code"), none, (.fields #[(.str "product" 546), (.str "product" 547), (.str "/claim/cut.py" 548), (.int 63 0), (.int 2 0), (.int 0 0), (.int 0 0), (.int 3 0), (.ref 277), (.bool true), (.int 181 0), (.ref 278), .none, (.ref 279), (.ref 280), (.ref 281), (.int 553 0), (.int 63 0), (.str "/claim/cut.py" 554)]), #[]⟩) ::
  (nat_lit 283, ⟨(.type "function"), none, (.func (PySem.W.fnOf "product" "product" (B0 s_product) (A9 s_product) (A5 s_product) .none .none .none (.str "hurryprice.ratios" 520) none (.ref 282) .none)), #[]⟩) ::
  (nat_lit 289, ⟨(.type "code"), none, (.fields #[(.str "parted" 556), (.str "parted" 557), (.str "/claim/cut.py" 558), (.int 66 0), (.int 2 0), (.int 0 0), (.int 0 0), (.int 3 0), (.ref 284), (.bool true), (.int 181 0), (.ref 285), .none, (.ref 286), (.ref 287), (.ref 288), (.int 563 0), (.int 66 0), (.str "/claim/cut.py" 564)]), #[]⟩) ::
  (nat_lit 290, ⟨(.type "function"), none, (.func (PySem.W.fnOf "parted" "parted" (B0 s_parted) (A9 s_parted) (A5 s_parted) .none .none .none (.str "hurryprice.ratios" 520) none (.ref 289) .none)), #[]⟩) ::
  (nat_lit 296, ⟨(.type "code"), none, (.fields #[(.str "is_less" 566), (.str "is_less" 567), (.str "/claim/cut.py" 568), (.int 71 0), (.int 2 0), (.int 0 0), (.int 0 0), (.int 3 0), (.ref 291), (.bool true), (.int 181 0), (.ref 292), .none, (.ref 293), (.ref 294), (.ref 295), (.int 571 0), (.int 71 0), (.str "/claim/cut.py" 572)]), #[]⟩) ::
  (nat_lit 297, ⟨(.type "function"), none, (.func (PySem.W.fnOf "is_less" "is_less" (B0 s_isless) (A9 s_isless) (A5 s_isless) .none .none .none (.str "hurryprice.ratios" 520) none (.ref 296) .none)), #[]⟩) ::
  (nat_lit 303, ⟨(.type "code"), none, (.fields #[(.str "larger" 574), (.str "larger" 575), (.str "/claim/cut.py" 576), (.int 73 0), (.int 2 0), (.int 0 0), (.int 0 0), (.int 3 0), (.ref 298), (.bool true), (.int 181 0), (.ref 299), .none, (.ref 300), (.ref 301), (.ref 302), (.int 579 0), (.int 73 0), (.str "/claim/cut.py" 580)]), #[]⟩) ::
  (nat_lit 304, ⟨(.type "function"), none, (.func (PySem.W.fnOf "larger" "larger" (B0 s_larger) (A9 s_larger) (A5 s_larger) .none .none .none (.str "hurryprice.ratios" 520) none (.ref 303) .none)), #[]⟩) ::
  (nat_lit 310, ⟨(.type "code"), none, (.fields #[(.str "sum_of" 582), (.str "sum_of" 583), (.str "/claim/cut.py" 584), (.int 75 0), (.int 1 0), (.int 0 0), (.int 0 0), (.int 3 0), (.ref 305), (.bool true), (.int 181 0), (.ref 306), .none, (.ref 307), (.ref 308), (.ref 309), (.int 588 0), (.int 75 0), (.str "/claim/cut.py" 589)]), #[]⟩) ::
  (nat_lit 311, ⟨(.type "function"), none, (.func (PySem.W.fnOf "sum_of" "sum_of" (B0 s_sumof) (A9 s_sumof) (A5 s_sumof) .none .none .none (.str "hurryprice.ratios" 520) none (.ref 310) .none)), #[]⟩) ::
  (nat_lit 317, ⟨(.type "code"), none, (.fields #[(.str "rate_between" 593), (.str "rate_between" 594), (.str "/claim/cut.py" 595), (.int 81 0), (.int 2 0), (.int 0 0), (.int 0 0), (.int 3 0), (.ref 312), (.bool true), (.int 181 0), (.ref 313), .none, (.ref 314), (.ref 315), (.ref 316), (.int 598 0), (.int 81 0), (.str "/claim/cut.py" 599)]), #[]⟩) ::
  (nat_lit 318, ⟨(.type "function"), none, (.func (PySem.W.fnOf "rate_between" "rate_between" (B0 s_ratebetween) (A9 s_ratebetween) (A5 s_ratebetween) .none .none .none (.str "hurryprice.offers" 591) none (.ref 317) .none)), #[]⟩) ::
  (nat_lit 322, ⟨(.type "code"), none, (.fields #[(.str "is_offered" 601), (.str "is_offered" 602), (.str "/claim/cut.py" 603), (.int 83 0), (.int 2 0), (.int 0 0), (.int 0 0), (.int 3 0), (.ref 319), (.bool true), (.int 181 0), (.ref 320), .none, .none, .none, (.ref 321), (.int 604 0), (.int 83 0), (.str "/claim/cut.py" 605)]), #[]⟩) ::
  (nat_lit 323, ⟨(.type "function"), none, (.func (PySem.W.fnOf "is_offered" "is_offered" (B0 s_isoffered) (A9 s_isoffered) (A5 s_isoffered) .none .none .none (.str "hurryprice.offers" 591) none (.ref 322) .none)), #[]⟩) ::
  (nat_lit 327, ⟨(.type "code"), none, (.fields #[(.str "corners_above" 607), (.str "corners_above" 608), (.str "/claim/cut.py" 609), (.int 88 0), (.int 2 0), (.int 0 0), (.int 0 0), (.int 3 0), (.ref 324), (.bool true), (.int 181 0), (.ref 325), .none, .none, .none, (.ref 326), (.int 610 0), (.int 88 0), (.str "/claim/cut.py" 611)]), #[]⟩) ::
  (nat_lit 328, ⟨(.type "function"), none, (.func (PySem.W.fnOf "corners_above" "corners_above" (B0 s_cornersabove) (A9 s_cornersabove) (A5 s_cornersabove) .none .none .none (.str "hurryprice.offers" 591) none (.ref 327) .none)), #[]⟩) ::
  (nat_lit 334, ⟨(.type "code"), none, (.fields #[(.str "price_of_time" 613), (.str "price_of_time" 614), (.str "/claim/cut.py" 615), (.int 90 0), (.int 2 0), (.int 0 0), (.int 0 0), (.int 3 0), (.ref 329), (.bool true), (.int 181 0), (.ref 330), .none, (.ref 331), (.ref 332), (.ref 333), (.int 621 0), (.int 90 0), (.str "/claim/cut.py" 622)]), #[]⟩) ::
  (nat_lit 335, ⟨(.type "function"), none, (.func (PySem.W.fnOf "price_of_time" "price_of_time" (B0 s_priceoftime) (A9 s_priceoftime) (A5 s_priceoftime) .none .none .none (.str "hurryprice.offers" 591) none (.ref 334) .none)), #[]⟩) ::
  (nat_lit 341, ⟨(.type "code"), none, (.fields #[(.str "end_of" 626), (.str "end_of" 627), (.str "/claim/cut.py" 628), (.int 100 0), (.int 1 0), (.int 0 0), (.int 0 0), (.int 3 0), (.ref 336), (.bool true), (.int 181 0), (.ref 337), .none, (.ref 338), (.ref 339), (.ref 340), (.int 630 0), (.int 100 0), (.str "/claim/cut.py" 631)]), #[]⟩) ::
  (nat_lit 342, ⟨(.type "function"), none, (.func (PySem.W.fnOf "end_of" "end_of" (B0 s_endof) (A9 s_endof) (A5 s_endof) .none .none .none (.str "hurryprice.plans" 624) none (.ref 341) .none)), #[]⟩) ::
  (nat_lit 346, ⟨(.type "code"), none, (.fields #[(.str "price_of" 633), (.str "price_of" 634), (.str "/claim/cut.py" 635), (.int 102 0), (.int 2 0), (.int 0 0), (.int 0 0), (.int 3 0), (.ref 343), (.bool true), (.int 181 0), (.ref 344), .none, .none, .none, (.ref 345), (.int 636 0), (.int 102 0), (.str "/claim/cut.py" 637)]), #[]⟩) ::
  (nat_lit 347, ⟨(.type "function"), none, (.func (PySem.W.fnOf "price_of" "price_of" (B0 s_priceof) (A9 s_priceof) (A5 s_priceof) .none .none .none (.str "hurryprice.plans" 624) none (.ref 346) .none)), #[]⟩) ::
  (nat_lit 353, ⟨(.type "code"), none, (.fields #[(.str "whole_of" 639), (.str "whole_of" 640), (.str "/claim/cut.py" 641), (.int 104 0), (.int 1 0), (.int 0 0), (.int 0 0), (.int 3 0), (.ref 348), (.bool true), (.int 181 0), (.ref 349), .none, (.ref 350), (.ref 351), (.ref 352), (.int 645 0), (.int 104 0), (.str "/claim/cut.py" 646)]), #[]⟩) ::
  (nat_lit 354, ⟨(.type "function"), none, (.func (PySem.W.fnOf "whole_of" "whole_of" (B0 s_wholeof) (A9 s_wholeof) (A5 s_wholeof) .none .none .none (.str "hurryprice.plans" 624) none (.ref 353) .none)), #[]⟩) ::
  (nat_lit 360, ⟨(.type "code"), none, (.fields #[(.str "_law_begun" 650), (.str "_law_begun" 651), (.str "/claim/cut.py" 652), (.int 110 0), (.int 2 0), (.int 0 0), (.int 0 0), (.int 3 0), (.ref 355), (.bool true), (.int 181 0), (.ref 356), .none, (.ref 357), (.ref 358), (.ref 359), (.int 656 0), (.int 110 0), (.str "/claim/cut.py" 657)]), #[]⟩) ::
  (nat_lit 361, ⟨(.type "function"), none, (.func (PySem.W.fnOf "_law_begun" "_law_begun" (B0 s_Lbegun) (A9 s_Lbegun) (A5 s_Lbegun) .none .none .none (.str "law_hurryprice_k13_prices_of_plans" 648) none (.ref 360) .none)), #[]⟩) ::
  (nat_lit 367, ⟨(.type "code"), none, (.fields #[(.str "_law_take" 659), (.str "_law_take" 660), (.str "/claim/cut.py" 661), (.int 115 0), (.int 2 0), (.int 0 0), (.int 0 0), (.int 3 0), (.ref 362), (.bool true), (.int 181 0), (.ref 363), .none, (.ref 364), (.ref 365), (.ref 366), (.int 667 0), (.int 115 0), (.str "/claim/cut.py" 668)]), #[]⟩) ::
  (nat_lit 368, ⟨(.type "function"), none, (.func (PySem.W.fnOf "_law_take" "_law_take" (B0 s_Ltake) (A9 s_Ltake) (A5 s_Ltake) .none .none .none (.str "law_hurryprice_k13_prices_of_plans" 648) none (.ref 367) .none)), #[]⟩) ::
  (nat_lit 374, ⟨(.type "code"), none, (.fields #[(.str "_law_low" 670), (.str "_law_low" 671), (.str "/claim/cut.py" 672), (.int 126 0), (.int 2 0), (.int 0 0), (.int 0 0), (.int 3 0), (.ref 369), (.bool true), (.int 181 0), (.ref 370), .none, (.ref 371), (.ref 372), (.ref 373), (.int 677 0), (.int 126 0), (.str "/claim/cut.py" 678)]), #[]⟩) ::
  (nat_lit 375, ⟨(.type "function"), none, (.func (PySem.W.fnOf "_law_low" "_law_low" (B0 s_Llow) (A9 s_Llow) (A5 s_Llow) .none .none .none (.str "law_hurryprice_k13_prices_of_plans" 648) none (.ref 374) .none)), #[]⟩) ::
  (nat_lit 381, ⟨(.type "code"), none, (.fields #[(.str "_law_plus" 680), (.str "_law_plus" 681), (.str "/claim/cut.py" 682), (.int 132 0), (.int 2 0), (.int 0 0), (.int 0 0), (.int 3 0), (.ref 376), (.bool true), (.int 181 0), (.ref 377), .none, (.ref 378), (.ref 379), (.ref 380), (.int 685 0), (.int 132 0), (.str "/claim/cut.py" 686)]), #[]⟩) ::
  (nat_lit 382, ⟨(.type "function"), none, (.func (PySem.W.fnOf "_law_plus" "_law_plus" (B0 s_Lplus) (A9 s_Lplus) (A5 s_Lplus) .none .none .none (.str "law_hurryprice_k13_prices_of_plans" 648) none (.ref 381) .none)), #[]⟩) ::
  (nat_lit 388, ⟨(.type "code"), none, (.fields #[(.str "_law_minus" 688), (.str "_law_minus" 689), (.str "/claim/cut.py" 690), (.int 134 0), (.int 2 0), (.int 0 0), (.int 0 0), (.int 3 0), (.ref 383), (.bool true), (.int 181 0), (.ref 384), .none, (.ref 385), (.ref 386), (.ref 387), (.int 693 0), (.int 134 0), (.str "/claim/cut.py" 694)]), #[]⟩) ::
  (nat_lit 389, ⟨(.type "function"), none, (.func (PySem.W.fnOf "_law_minus" "_law_minus" (B0 s_Lminus) (A9 s_Lminus) (A5 s_Lminus) .none .none .none (.str "law_hurryprice_k13_prices_of_plans" 648) none (.ref 388) .none)), #[]⟩) ::
  (nat_lit 395, ⟨(.type "code"), none, (.fields #[(.str "_law_times" 696), (.str "_law_times" 697), (.str "/claim/cut.py" 698), (.int 136 0), (.int 2 0), (.int 0 0), (.int 0 0), (.int 3 0), (.ref 390), (.bool true), (.int 181 0), (.ref 391), .none, (.ref 392), (.ref 393), (.ref 394), (.int 701 0), (.int 136 0), (.str "/claim/cut.py" 702)]), #[]⟩) ::
  (nat_lit 396, ⟨(.type "function"), none, (.func (PySem.W.fnOf "_law_times" "_law_times" (B0 s_Ltimes) (A9 s_Ltimes) (A5 s_Ltimes) .none .none .none (.str "law_hurryprice_k13_prices_of_plans" 648) none (.ref 395) .none)), #[]⟩) ::
  (nat_lit 402, ⟨(.type "code"), none, (.fields #[(.str "_law_under" 704), (.str "_law_under" 705), (.str "/claim/cut.py" 706), (.int 138 0), (.int 2 0), (.int 0 0), (.int 0 0), (.int 3 0), (.ref 397), (.bool true), (.int 181 0), (.ref 398), .none, (.ref 399), (.ref 400), (.ref 401), (.int 709 0), (.int 138 0), (.str "/claim/cut.py" 710)]), #[]⟩) ::
  (nat_lit 403, ⟨(.type "function"), none, (.func (PySem.W.fnOf "_law_under" "_law_under" (B0 s_Lunder) (A9 s_Lunder) (A5 s_Lunder) .none .none .none (.str "law_hurryprice_k13_prices_of_plans" 648) none (.ref 402) .none)), #[]⟩) ::
  (nat_lit 409, ⟨(.type "code"), none, (.fields #[(.str "_law_amount" 712), (.str "_law_amount" 713), (.str "/claim/cut.py" 714), (.int 140 0), (.int 3 0), (.int 0 0), (.int 0 0), (.int 3 0), (.ref 404), (.bool true), (.int 181 0), (.ref 405), .none, (.ref 406), (.ref 407), (.ref 408), (.int 720 0), (.int 140 0), (.str "/claim/cut.py" 721)]), #[]⟩) ::
  (nat_lit 410, ⟨(.type "function"), none, (.func (PySem.W.fnOf "_law_amount" "_law_amount" (B0 s_Lamount) (A9 s_Lamount) (A5 s_Lamount) .none .none .none (.str "law_hurryprice_k13_prices_of_plans" 648) none (.ref 409) .none)), #[]⟩) ::
  (nat_lit 414, ⟨(.type "code"), none, (.fields #[(.str "_law_offer" 723), (.str "_law_offer" 724), (.str "/claim/cut.py" 725), (.int 146 0), (.int 4 0), (.int 0 0), (.int 0 0), (.int 3 0), (.ref 411), (.bool true), (.int 181 0), (.ref 412), .none, .none, .none, (.ref 413), (.int 726 0), (.int 146 0), (.str "/claim/cut.py" 727)]), #[]⟩) ::
  (nat_lit 415, ⟨(.type "function"), none, (.func (PySem.W.fnOf "_law_offer" "_law_offer" (B0 s_Loffer) (A9 s_Loffer) (A5 s_Loffer) .none .none .none (.str "law_hurryprice_k13_prices_of_plans" 648) none (.ref 414) .none)), #[]⟩) ::
  (nat_lit 419, ⟨(.type "code"), none, (.fields #[(.str "_law_names" 729), (.str "_law_names" 730), (.str "/claim/cut.py" 731), (.int 164 0), (.int 2 0), (.int 0 0), (.int 0 0), (.int 3 0), (.ref 416), (.bool true), (.int 181 0), (.ref 417), .none, .none, .none, (.ref 418), (.int 732 0), (.int 164 0), (.str "/claim/cut.py" 733)]), #[]⟩) ::
  (nat_lit 420, ⟨(.type "function"), none, (.func (PySem.W.fnOf "_law_names" "_law_names" (B0 s_Lnames) (A9 s_Lnames) (A5 s_Lnames) .none .none .none (.str "law_hurryprice_k13_prices_of_plans" 648) none (.ref 419) .none)), #[]⟩) ::
  (nat_lit 426, ⟨(.type "code"), none, (.fields #[(.str "_law_order" 735), (.str "_law_order" 736), (.str "/claim/cut.py" 737), (.int 178 0), (.int 2 0), (.int 0 0), (.int 0 0), (.int 3 0), (.ref 421), (.bool true), (.int 181 0), (.ref 422), .none, (.ref 423), (.ref 424), (.ref 425), (.int 742 0), (.int 178 0), (.str "/claim/cut.py" 743)]), #[]⟩) ::
  (nat_lit 427, ⟨(.type "function"), none, (.func (PySem.W.fnOf "_law_order" "_law_order" (B0 s_Lorder) (A9 s_Lorder) (A5 s_Lorder) .none .none .none (.str "law_hurryprice_k13_prices_of_plans" 648) none (.ref 426) .none)), #[]⟩) ::
  (nat_lit 433, ⟨(.type "code"), none, (.fields #[(.str "_law_lag" 745), (.str "_law_lag" 746), (.str "/claim/cut.py" 747), (.int 184 0), (.int 2 0), (.int 0 0), (.int 0 0), (.int 3 0), (.ref 428), (.bool true), (.int 181 0), (.ref 429), .none, (.ref 430), (.ref 431), (.ref 432), (.int 751 0), (.int 184 0), (.str "/claim/cut.py" 752)]), #[]⟩) ::
  (nat_lit 434, ⟨(.type "function"), none, (.func (PySem.W.fnOf "_law_lag" "_law_lag" (B0 s_Llag) (A9 s_Llag) (A5 s_Llag) .none .none .none (.str "law_hurryprice_k13_prices_of_plans" 648) none (.ref 433) .none)), #[]⟩) ::
  (nat_lit 440, ⟨(.type "code"), none, (.fields #[(.str "_law_waits" 754), (.str "_law_waits" 755), (.str "/claim/cut.py" 756), (.int 189 0), (.int 3 0), (.int 0 0), (.int 0 0), (.int 3 0), (.ref 435), (.bool true), (.int 181 0), (.ref 436), .none, (.ref 437), (.ref 438), (.ref 439), (.int 766 0), (.int 189 0), (.str "/claim/cut.py" 767)]), #[]⟩) ::
  (nat_lit 441, ⟨(.type "function"), none, (.func (PySem.W.fnOf "_law_waits" "_law_waits" (B0 s_Lwaits) (A9 s_Lwaits) (A5 s_Lwaits) .none .none .none (.str "law_hurryprice_k13_prices_of_plans" 648) none (.ref 440) .none)), #[]⟩) ::
  (nat_lit 447, ⟨(.type "code"), none, (.fields #[(.str "_law_holds" 769), (.str "_law_holds" 770), (.str "/claim/cut.py" 771), (.int 201 0), (.int 4 0), (.int 0 0), (.int 0 0), (.int 3 0), (.ref 442), (.bool true), (.int 181 0), (.ref 443), .none, (.ref 444), (.ref 445), (.ref 446), (.int 780 0), (.int 201 0), (.str "/claim/cut.py" 781)]), #[]⟩) ::
  (nat_lit 448, ⟨(.type "function"), none, (.func (PySem.W.fnOf "_law_holds" "_law_holds" (B0 s_Lholds) (A9 s_Lholds) (A5 s_Lholds) .none .none .none (.str "law_hurryprice_k13_prices_of_plans" 648) none (.ref 447) .none)), #[]⟩) ::
  (nat_lit 452, ⟨(.type "code"), none, (.fields #[(.str "_law_groups" 783), (.str "_law_groups" 784), (.str "/claim/cut.py" 785), (.int 210 0), (.int 2 0), (.int 0 0), (.int 0 0), (.int 3 0), (.ref 449), (.bool true), (.int 181 0), (.ref 450), .none, .none, .none, (.ref 451), (.int 786 0), (.int 210 0), (.str "/claim/cut.py" 787)]), #[]⟩) ::
  (nat_lit 453, ⟨(.type "function"), none, (.func (PySem.W.fnOf "_law_groups" "_law_groups" (B0 s_Lgroups) (A9 s_Lgroups) (A5 s_Lgroups) .none .none .none (.str "law_hurryprice_k13_prices_of_plans" 648) none (.ref 452) .none)), #[]⟩) ::
  (nat_lit 459, ⟨(.type "code"), none, (.fields #[(.str "_law_net" 789), (.str "_law_net" 790), (.str "/claim/cut.py" 791), (.int 220 0), (.int 6 0), (.int 0 0), (.int 0 0), (.int 3 0), (.ref 454), (.bool true), (.int 181 0), (.ref 455), .none, (.ref 456), (.ref 457), (.ref 458), (.int 807 0), (.int 220 0), (.str "/claim/cut.py" 808)]), #[]⟩) ::
  (nat_lit 460, ⟨(.type "function"), none, (.func (PySem.W.fnOf "_law_net" "_law_net" (B0 s_Lnet) (A9 s_Lnet) (A5 s_Lnet) .none .none .none (.str "law_hurryprice_k13_prices_of_plans" 648) none (.ref 459) .none)), #[]⟩) ::
  (nat_lit 464, ⟨(.type "code"), none, (.fields #[(.str "_law_alike" 810), (.str "_law_alike" 811), (.str "/claim/cut.py" 812), (.int 236 0), (.int 2 0), (.int 0 0), (.int 0 0), (.int 3 0), (.ref 461), (.bool true), (.int 181 0), (.ref 462), .none, .none, .none, (.ref 463), (.int 813 0), (.int 236 0), (.str "/claim/cut.py" 814)]), #[]⟩) ::
  (nat_lit 465, ⟨(.type "function"), none, (.func (PySem.W.fnOf "_law_alike" "_law_alike" (B0 s_Lalike) (A9 s_Lalike) (A5 s_Lalike) .none .none .none (.str "law_hurryprice_k13_prices_of_plans" 648) none (.ref 464) .none)), #[]⟩) ::
  (nat_lit 469, ⟨(.type "code"), none, (.fields #[(.str "_law_copy" 816), (.str "_law_copy" 817), (.str "/claim/cut.py" 818), (.int 248 0), (.int 1 0), (.int 0 0), (.int 0 0), (.int 3 0), (.ref 466), (.bool true), (.int 181 0), (.ref 467), .none, .none, .none, (.ref 468), (.int 819 0), (.int 248 0), (.str "/claim/cut.py" 820)]), #[]⟩) ::
  (nat_lit 470, ⟨(.type "function"), none, (.func (PySem.W.fnOf "_law_copy" "_law_copy" (B0 s_Lcopy) (A9 s_Lcopy) (A5 s_Lcopy) .none .none .none (.str "law_hurryprice_k13_prices_of_plans" 648) none (.ref 469) .none)), #[]⟩) ::
  (nat_lit 476, ⟨(.type "code"), none, (.fields #[(.str "_law_time" 822), (.str "_law_time" 823), (.str "/claim/cut.py" 824), (.int 251 0), (.int 2 0), (.int 0 0), (.int 0 0), (.int 3 0), (.ref 471), (.bool true), (.int 181 0), (.ref 472), .none, (.ref 473), (.ref 474), (.ref 475), (.int 831 0), (.int 251 0), (.str "/claim/cut.py" 832)]), #[]⟩) ::
  (nat_lit 477, ⟨(.type "function"), none, (.func (PySem.W.fnOf "_law_time" "_law_time" (B0 s_Ltime) (A9 s_Ltime) (A5 s_Ltime) .none .none .none (.str "law_hurryprice_k13_prices_of_plans" 648) none (.ref 476) .none)), #[]⟩) ::
  (nat_lit 483, ⟨(.type "code"), none, (.fields #[(.str "_law_price" 834), (.str "_law_price" 835), (.str "/claim/cut.py" 836), (.int 259 0), (.int 2 0), (.int 0 0), (.int 0 0), (.int 3 0), (.ref 478), (.bool true), (.int 181 0), (.ref 479), .none, (.ref 480), (.ref 481), (.ref 482), (.int 847 0), (.int 259 0), (.str "/claim/cut.py" 848)]), #[]⟩) ::
  (nat_lit 484, ⟨(.type "function"), none, (.func (PySem.W.fnOf "_law_price" "_law_price" (B0 s_Lprice) (A9 s_Lprice) (A5 s_Lprice) .none .none .none (.str "law_hurryprice_k13_prices_of_plans" 648) none (.ref 483) .none)), #[]⟩) ::
  (nat_lit 490, ⟨(.type "code"), none, (.fields #[(.str "_law_plan" 850), (.str "_law_plan" 851), (.str "/claim/cut.py" 852), (.int 273 0), (.int 2 0), (.int 0 0), (.int 0 0), (.int 3 0), (.ref 485), (.bool true), (.int 181 0), (.ref 486), .none, (.ref 487), (.ref 488), (.ref 489), (.int 862 0), (.int 273 0), (.str "/claim/cut.py" 863)]), #[]⟩) ::
  (nat_lit 491, ⟨(.type "function"), none, (.func (PySem.W.fnOf "_law_plan" "_law_plan" (B0 s_Lplan) (A9 s_Lplan) (A5 s_Lplan) .none .none .none (.str "law_hurryprice_k13_prices_of_plans" 648) none (.ref 490) .none)), #[]⟩) ::
  (nat_lit 497, ⟨(.type "code"), none, (.fields #[(.str "_law_no_time" 865), (.str "_law_no_time" 866), (.str "/claim/cut.py" 867), (.int 286 0), (.int 2 0), (.int 0 0), (.int 0 0), (.int 3 0), (.ref 492), (.bool true), (.int 181 0), (.ref 493), .none, (.ref 494), (.ref 495), (.ref 496), (.int 871 0), (.int 286 0), (.str "/claim/cut.py" 872)]), #[]⟩) ::
  (nat_lit 498, ⟨(.type "function"), none, (.func (PySem.W.fnOf "_law_no_time" "_law_no_time" (B0 s_Lnotime) (A9 s_Lnotime) (A5 s_Lnotime) .none .none .none (.str "law_hurryprice_k13_prices_of_plans" 648) none (.ref 497) .none)), #[]⟩) ::
  (nat_lit 504, ⟨(.type "code"), none, (.fields #[(.str "_law_latest" 874), (.str "_law_latest" 875), (.str "/claim/cut.py" 876), (.int 296 0), (.int 1 0), (.int 0 0), (.int 0 0), (.int 3 0), (.ref 499), (.bool true), (.int 181 0), (.ref 500), .none, (.ref 501), (.ref 502), (.ref 503), (.int 882 0), (.int 296 0), (.str "/claim/cut.py" 883)]), #[]⟩) ::
  (nat_lit 505, ⟨(.type "function"), none, (.func (PySem.W.fnOf "_law_latest" "_law_latest" (B0 s_Llatest) (A9 s_Llatest) (A5 s_Llatest) .none .none .none (.str "law_hurryprice_k13_prices_of_plans" 648) none (.ref 504) .none)), #[]⟩) ::
  (nat_lit 509, ⟨(.type "code"), none, (.fields #[(.str "law" 885), (.str "law" 886), (.str "/claim/cut.py" 887), (.int 303 0), (.int 1 0), (.int 0 0), (.int 0 0), (.int 3 0), (.ref 506), (.bool true), (.int 181 0), (.ref 507), .none, .none, .none, (.ref 508), (.int 888 0), (.int 303 0), (.str "/claim/cut.py" 889)]), #[]⟩) ::
  (nat_lit 510, ⟨(.type "function"), none, (.func (PySem.W.fnOf "law" "law" (B0 s_law) (A9 s_law) (A5 s_law) .none .none .none (.str "law_hurryprice_k13_prices_of_plans" 648) none (.ref 509) .none)), #[]⟩) :: []
def qq : Program := PySem.W.view PySem.Challenge.pw_hurryprice_k13_prices_of_plans [1, 3, 4, 5, 6, 7, 8, 9, 10, 11, 12, 13, 14, 15, 16, 17, 18, 19, 21, 22, 23, 24, 25, 26, 27, 28, 30, 31, 32, 33, 35, 36, 37, 39, 40, 41, 42, 43, 44, 45, 46, 47, 48, 49, 50, 51, 52, 53, 54, 55, 56, 57, 58, 59, 60, 61, 62]
def aa : List Nat := [3, 20, 21, 30, 31, 43, 44, 55, 56, 74, 75, 93, 94, 112, 113, 124, 125, 136, 137, 155, 156, 167, 168, 179, 180, 191, 192, 210, 211, 222, 223, 234, 235, 246, 247, 258, 259, 262, 268, 269, 275, 276, 282, 283, 289, 290, 296, 297, 303, 304, 310, 311, 317, 318, 322, 323, 327, 328, 334, 335, 341, 342, 346, 347, 353, 354, 360, 361, 367, 368, 374, 375, 381, 382, 388, 389, 395, 396, 402, 403, 409, 410, 414, 415, 419, 420, 426, 427, 433, 434, 440, 441, 447, 448, 452, 453, 459, 460, 464, 465, 469, 470, 476, 477, 483, 484, 490, 491, 497, 498, 504, 505, 509, 510]
theorem C18 : ∀ P : Params, aa = (kk P).map (·.1) := fun P => by kernel_rfl
noncomputable abbrev hh : PySem.W.Hook := PySem.W.kHook kk aa C18
abbrev xt (s : Shared) : Bool := PySem.W.xlAt qq [] s && PySem.W.recOk (PySem.W.RowW.records PySem.Challenge.rw_hurryprice_k13_prices_of_plans.row.toRowW) s
theorem run1 (w : World) (os : OsState) : (L2.ranT PySem.Challenge.pw_hurryprice_k13_prices_of_plans 10186 w os).map (fun x => PySem.W.staticsOk (importedModules PySem.Challenge.pw_hurryprice_k13_prices_of_plans.main.body) (PySem.W.boot_heap w.params) x.abs.heap && PySem.W.namesBound PySem.Challenge.pw_hurryprice_k13_prices_of_plans x.abs.heap && PySem.W.gensDone x.abs && PySem.W.laidKept (PySem.W.boot_heap w.params) x.abs.heap) = some true := by kernel_rfl
theorem run2 (w : World) (os : OsState) : (L2.ranT PySem.Challenge.pw_hurryprice_k13_prices_of_plans 10186 w os).map (fun x => (PySem.W.openSeen qq [] (importedModules PySem.Challenge.pw_hurryprice_k13_prices_of_plans.main.body) xt true x.abs).1) = some (PySem.W.openGood qq []).1 := by kernel_rfl
theorem run4 (w : World) (os : OsState) : (L2.ranT PySem.Challenge.pw_hurryprice_k13_prices_of_plans 10186 w os).map (fun x => (PySem.W.openSeen qq [] (importedModules PySem.Challenge.pw_hurryprice_k13_prices_of_plans.main.body) xt true x.abs).2) = some (PySem.W.openGood qq []).2 := by kernel_rfl
theorem run3 (w : World) (os : OsState) : (L2.ranT PySem.Challenge.pw_hurryprice_k13_prices_of_plans 10186 w os).map (fun x => hh.obs x.abs) = some (hh.val w) := by kernel_rfl
theorem left : PySem.W.LeftO PySem.Challenge.pw_hurryprice_k13_prices_of_plans qq [] xt hh.obs hh.val 10186 := L2.B90 (by kernel_rfl) (by decide) (fun s => by kernel_rfl) run1 run2 run4 run3
theorem said : PySem.Challenge.rw_hurryprice_k13_prices_of_plans.wellSaid = true := by decide +kernel
end Prf
namespace L2
open PySem PySem.Spec PyProof.Rows
abbrev Key := Sum Int Str
def C0a : Key -> Value -> Bool
  | .inl k, v => Value.isInt k v
  | .inr x, v => Value.isStrOf x v
def keyH (w : World) : Key -> Int
  | .inl k => hashInt k
  | .inr x => hashStr w x
theorem E7 : ∀ {k : Key} {v : Value}, C0a k v = true -> (∃ i t, k = Sum.inl i /\ v = Value.int i t) \/ (∃ x t, k = Sum.inr x /\ v = Value.str x t)
  | .inl i, v, h => by
    obtain ⟨t, e⟩ := Value.isInt_shape (k := i) (v := v) h
    exact .inl ⟨i, t, rfl, e⟩
  | .inr x, v, h => by
    obtain ⟨t, e⟩ := Value.isStrOf_shape (x := x) (v := v) h
    exact .inr ⟨x, t, rfl, e⟩
theorem B99 (a b : Int) : decide ((Sum.inl a : Key) = Sum.inl b) = (a == b) := by
  by_cases e : a = b
  · subst e; simp
  · have h : ¬ (Sum.inl a : Key) = Sum.inl b := fun q => e (Sum.inl.inj q)
    rw [decide_eq_false h]
    exact (beq_eq_false_iff_ne.mpr e).symm
theorem B96 (a b : Str) : decide ((Sum.inr a : Key) = Sum.inr b) = decide (a = b) := by
  by_cases e : a = b
  · subst e; simp
  · have h : ¬ (Sum.inr a : Key) = Sum.inr b := fun q => e (Sum.inr.inj q)
    rw [decide_eq_false h, decide_eq_false e]
theorem B98 (a : Int) (b : Str) : decide ((Sum.inl a : Key) = Sum.inr b) = false := decide_eq_false (fun q => nomatch q)
theorem B97 (a : Str) (b : Int) : decide ((Sum.inr a : Key) = Sum.inl b) = false := decide_eq_false (fun q => nomatch q)
def A8c (prog : Program) (w : World) : PySem.KeyKind prog w Key where
  is := C0a
  hash := keyH w
  inj := fun v a b ha hb => by
    rcases E7 ha with ⟨i, t, rfl, rfl⟩ | ⟨x, t, rfl, rfl⟩
    · rcases E7 hb with ⟨j, u, rfl, e⟩ | ⟨y, u, rfl, e⟩
      · injection e with e1 _; rw [e1]
      · exact nomatch e
    · rcases E7 hb with ⟨j, u, rfl, e⟩ | ⟨y, u, rfl, e⟩
      · exact nomatch e
      · injection e with e1 _; rw [e1]
  byValue := fun k v h => by
    rcases E7 h with ⟨i, t, rfl, rfl⟩ | ⟨x, t, rfl, rfl⟩ <;> rfl
  pyHash := fun hv h => by
    rcases E7 hv with ⟨i, t, rfl, rfl⟩ | ⟨x, t, rfl, rfl⟩
    · exact wpAny_pyHash_int h
    · exact wpAny_pyHash_str h
  eqBool := fun hu hv h => by
    rcases E7 hu with ⟨i, t, rfl, rfl⟩ | ⟨x, t, rfl, rfl⟩
    · rcases E7 hv with ⟨j, u, rfl, rfl⟩ | ⟨y, u, rfl, rfl⟩
      · rw [B99] at h; exact wpAny_eqBool_int h
      · rw [B98] at h; exact SeqAt.EqAt.int_str i t y u _ _ _ _ h
    · rcases E7 hv with ⟨j, u, rfl, rfl⟩ | ⟨y, u, rfl, rfl⟩
      · rw [B97] at h; exact SeqAt.EqAt.str_int x t j u _ _ _ _ h
      · rw [B96] at h; exact wpAny_eqBool_str h
  «strs» := fun k x t v h => by
    rcases E7 h with ⟨i, u, rfl, e⟩ | ⟨y, u, rfl, e⟩
    · exact nomatch e
    · injection e with e1 _
      subst e1
      cases v <;> rfl
end L2
namespace L2
open PySem PySem.Spec PyProof.Rows
inductive V where
  | non | bl (b : Bool) | int (i : Int) | str (x : Str) | byt (b : Array UInt8) | flt (b : UInt64) | ref (a : Addr) | ty (n : String)
  deriving DecidableEq
def RelV : V -> Value -> Prop
  | .non, u => u = Value.none
  | .bl b, u => u = Value.bool b
  | .int i, u => ∃ t, u = Value.int i t
  | .str x, u => ∃ t, u = Value.str x t
  | .byt b, u => ∃ t, u = Value.bytes b t
  | .flt b, u => ∃ t, u = Value.float b t
  | .ref a, u => u = Value.ref a
  | .ty n, u => u = Value.type n
abbrev Vals : List V -> List Value -> Prop := Paired RelV
theorem Vals.length {xs : List V} {us : List Value} (r : Vals xs us) : xs.length = us.length := Paired.length r
theorem Vals.get : ∀ {xs : List V} {us : List Value} {i : Nat} {x : V}, Vals xs us -> xs[i]? = some x -> ∃ u, us[i]? = some u /\ RelV x u
  | _, _, _, _, .nil, e => by simp at e
  | _, _, 0, _, .cons r _, e => by simp at e; subst e; exact ⟨_, rfl, r⟩
  | _, _, i + 1, x, .cons _ t, e => by
    obtain ⟨u, h1, h2⟩ := Vals.get (i := i) (x := x) t (by simpa using e)
    exact ⟨u, by simpa using h1, h2⟩
theorem Vals.set {x : V} {u : Value} (r : RelV x u) : ∀ {xs : List V} {us : List Value} (i : Nat), Vals xs us -> Vals (xs.set i x) (us.set i u)
  | _, _, _, .nil => .nil
  | _, _, 0, .cons _ t => .cons r t
  | _, _, i + 1, .cons q t => .cons q (Vals.set r i t)
theorem Vals.append : ∀ {xs ys : List V} {us ws : List Value}, Vals xs us -> Vals ys ws -> Vals (xs ++ ys) (us ++ ws)
  | _, _, _, _, .nil, s => s
  | _, _, _, _, .cons r t, s => .cons r (Vals.append t s)
theorem Vals.take : ∀ {xs : List V} {us : List Value} (n : Nat), Vals xs us -> Vals (xs.take n) (us.take n)
  | _, _, 0, _ => .nil
  | _, _, _ + 1, .nil => .nil
  | _, _, n + 1, .cons r t => .cons r (Vals.take n t)
theorem Vals.drop : ∀ {xs : List V} {us : List Value} (n : Nat), Vals xs us -> Vals (xs.drop n) (us.drop n)
  | _, _, 0, r => r
  | _, _, _ + 1, .nil => .nil
  | _, _, n + 1, .cons _ t => Vals.drop n t
theorem Vals.none_of : ∀ {xs : List V} {us : List Value} {i : Nat}, Vals xs us -> xs[i]? = none -> us[i]? = none := fun {xs us i} r e => by
  have h1 := r.length
  have h2 : xs.length <= i := List.getElem?_eq_none_iff.mp e
  exact List.getElem?_eq_none_iff.mpr (by omega)
def RelO : Option V -> Option Value -> Prop
  | some v, some u => RelV v u
  | none, none => True
  | _, _ => False
def KV {κ : Type} : List (κ × V) -> List (κ × Value) -> Prop := Paired fun (p : κ × V) (q : κ × Value) => p.1 = q.1 /\ RelV p.2 q.2
def kV : Key -> V
  | .inl i => .int i
  | .inr x => .str x
inductive HO where
    | lst (xs : List V)
    | tup (xs : List V)
    | dK (kvs : List (Key × V)) | dT (kvs : List (List Key × V))
    | set (S : Int -> Bool) (n : Nat)
    | ins (C dx : Addr) (fs : List (Str × V))
    | own (x : Addr)
    | xd (fs : List (Str × V))
    | met (f x : Addr)
    | rng (lo hi : Int)
    | frz (o : Obj) (u : HO)
    | tbl (ps : Array Value)
    | ext (φ : Heap -> Prop)
abbrev Hp := Addr -> Option HO
def upd (H : Hp) (a : Addr) (o : HO) : Hp := fun b => if b = a then some o else H b
theorem C8 {H : Hp} {a : Addr} {o : HO} : upd H a o a = some o := by unfold upd; rw [if_pos rfl]
theorem C9 {H : Hp} {a b : Addr} {o : HO} (h : b ≠ a) : upd H a o b = H b := by unfold upd; rw [if_neg h]
theorem D5 {H : Hp} {a b : Addr} {o : HO} (h : H a = some o) (h' : H b = none) : a ≠ b := by
  intro e; subst e; rw [h] at h'; cases h'
section
variable (P : Program) (w : World)
def ObjOk (H : Hp) (h : Heap) (a : Addr) : HO -> Prop
  | .lst xs => xs.length <= sizeLine /\ ∃ (its : List Value) (n : Nat), Vals xs its /\ h.get? a = some { cls := .type "list", data := .seq its.toArray n }
  | .tup xs => xs.length <= sizeLine /\ ∃ its : List Value, Vals xs its /\ IsTup h a its.toArray
  | .dK kvs => kvs.length <= sizeLine /\ (a == sysModules) = false /\ ∃ vs, KV kvs vs /\ h.DictOf (A8c P w) a vs
  | .dT kvs => kvs.length <= sizeLine /\ (a == sysModules) = false /\ ∃ xs : List (List Key × Addr × Value),
      Paired (fun (p : List Key × V) (q : List Key × Addr × Value) => p.1 = q.1 /\ H q.2.1 = some (.tup (p.1.map kV)) /\ RelV p.2 q.2.2) kvs xs /\
      ∃ o es ep, h.get? a = some o /\ o.ExactDict /\ o.data = .dict es ep /\ es.toList = xs.map (entryOfKey (tupleKind (A8c P w))) /\ (xs.map (·.1)).Nodup
  | .set S n => h.SetOf (intKind P w) a S n
  | .ins C dx fs => H dx = some (.own a) /\ fs.length <= 1000 /\ dx ≠ a /\ h.get? a = some (PySem.W.instObj C dx) /\
      ∃ mA, h.Ns1 dx mA /\ (∀ f, RelO (fs.lookup f) (mA f)) /\ PySem.Within mA (fs.map (·.1))
  | .own _ => ∃ o, h.get? a = some o
  | .xd fs => ∃ mA, h.Ns1 a mA /\ ∀ f, RelO (fs.lookup f) (mA f)
  | .rng lo hi => ∃ t u v, h.get? a = some { cls := .type "range", data := .fields #[.int lo t, .int hi u, .int 1 v] }
  | .frz o u => h.get? a = some o /\ ObjOk H h a u
  | .tbl ps => h.get? a = some { cls := .none, data := .fields ps }
  | .met f x => h.get? a = some (PySem.W.methodObj (.ref f) (.ref x))
  | .ext φ => φ h /\ (∃ o, h.get? a = some o) /\ ∀ h1 h2 : Heap, φ h1 -> (∀ o, h1.get? a = some o -> h2.get? a = some o) -> φ h2
def HOk (H : Hp) (h : Heap) : Prop := ∀ a o, H a = some o -> ObjOk P w H h a o
end
section
variable {P : Program} {w : World} {H H' : Hp} {h h' : Heap} {a : Addr} {o : HO}
theorem ObjOk.lt (x : ObjOk P w H h a o) : a < h.objs.size := by
  cases o with
  | lst xs => obtain ⟨_, _, _, _, e⟩ := x; exact Heap.lt_size e
  | tup xs => obtain ⟨_, _, _, p⟩ := x; exact p.lt
  | dK kvs => obtain ⟨_, _, _, _, o, _, _, e, _⟩ := x; exact Heap.lt_size e
  | dT kvs => obtain ⟨_, _, _, _, o, _, _, e, _⟩ := x; exact Heap.lt_size e
  | set S n => obtain ⟨o, _, _, _, e, _⟩ := x; exact Heap.lt_size e
  | ins C dx fs => obtain ⟨_, _, _, e, _⟩ := x; exact Heap.lt_size e
  | own y => obtain ⟨_, e⟩ := x; exact Heap.lt_size e
  | xd fs => obtain ⟨_, ⟨_, _, _, e, _⟩, _⟩ := x; exact Heap.lt_size e
  | rng lo hi => obtain ⟨_, _, _, e⟩ := x; exact Heap.lt_size e
  | frz ob u => obtain ⟨e, _⟩ := x; exact Heap.lt_size e
  | tbl ps => exact Heap.lt_size (show h.get? a = some _ from x)
  | met f y => exact Heap.lt_size (show h.get? a = some _ from x)
  | ext φ => obtain ⟨_, ⟨_, e⟩, _⟩ := x; exact Heap.lt_size e
theorem Paired.mapP {α β : Type} {F G : α -> β -> Prop} : ∀ {l₁ : List α} {l₂ : List β}, Paired F l₁ l₂ -> (∀ a b, F a b -> G a b) -> Paired G l₁ l₂
  | _, _, .nil, _ => .nil
  | _, _, .cons r t, f => .cons (f _ _ r) (Paired.mapP t f)
theorem ObjOk.stay (x : ObjOk P w H h a o) (k : ∀ b u, (b = a \/ H b = some (.own a)) -> h.get? b = some u -> h'.get? b = some u)
    (ho : ∀ b, H b = some (.own a) -> H' b = some (.own a)) (ht : ∀ b xs, H b = some (.tup xs) -> H' b = some (.tup xs)) : ObjOk P w H' h' a o := by
  induction o with
  | lst xs => obtain ⟨z, its, n, r, e⟩ := x; exact ⟨z, its, n, r, k _ _ (.inl rfl) e⟩
  | tup xs => obtain ⟨z, its, r, ob, e, c⟩ := x; exact ⟨z, its, r, ob, k _ _ (.inl rfl) e, c⟩
  | dK kvs => obtain ⟨z, y, vs, r, ob, es, ep, e, c⟩ := x; exact ⟨z, y, vs, r, ob, es, ep, k _ _ (.inl rfl) e, c⟩
  | dT kvs =>
    obtain ⟨z, y, xs, r, ob, es, ep, e, c⟩ := x
    exact ⟨z, y, xs, Paired.mapP r fun p q z => ⟨z.1, ht _ _ z.2.1, z.2.2⟩, ob, es, ep, k _ _ (.inl rfl) e, c⟩
  | set S n => obtain ⟨ob, es, ep, t, e, c⟩ := x; exact ⟨ob, es, ep, t, k _ _ (.inl rfl) e, c⟩
  | ins C dx fs =>
    obtain ⟨d, z, ne, e, mA, ⟨od, es, ep, e2, c⟩, r⟩ := x
    exact ⟨ho _ d, z, ne, k _ _ (.inl rfl) e, mA, ⟨od, es, ep, k _ _ (.inr d) e2, c⟩, r⟩
  | own y => obtain ⟨ob, e⟩ := x; exact ⟨ob, k _ _ (.inl rfl) e⟩
  | xd fs => obtain ⟨mA, ⟨od, es, ep, e, c⟩, r⟩ := x; exact ⟨mA, ⟨od, es, ep, k _ _ (.inl rfl) e, c⟩, r⟩
  | rng lo hi => obtain ⟨t, u, v, e⟩ := x; exact ⟨t, u, v, k _ _ (.inl rfl) e⟩
  | frz ob u ih => obtain ⟨e, q⟩ := x; exact ⟨k _ _ (.inl rfl) e, ih q⟩
  | tbl ps =>
    have e : h.get? a = some { cls := .none, data := .fields ps } := x
    show h'.get? a = some { cls := .none, data := .fields ps }
    exact k a _ (.inl rfl) e
  | met f y =>
    have e : h.get? a = some (PySem.W.methodObj (.ref f) (.ref y)) := x
    show h'.get? a = some (PySem.W.methodObj (.ref f) (.ref y))
    exact k a _ (.inl rfl) e
  | ext φ => obtain ⟨p, ⟨o, e⟩, st⟩ := x; exact ⟨st _ _ p fun o q => k _ _ (.inl rfl) q, ⟨o, k _ _ (.inl rfl) e⟩, st⟩
theorem HOk.lt (x : HOk P w H h) (e : H a = some o) : a < h.objs.size := (x a o e).lt
theorem HOk.fresh (x : HOk P w H h) (e : h.objs.size <= a) : H a = none := by
  cases q : H a with
  | none => rfl
  | some u => exact absurd (Nat.lt_of_lt_of_le (x.lt q) e) (Nat.lt_irrefl _)
theorem HOk.kept (x : HOk P w H h) (k : ∀ b u, h.get? b = some u -> h'.get? b = some u) : HOk P w H h' := fun a o e =>
  (x a o e).stay (fun b u _ q => k b u q) (fun _ q => q) fun _ _ q => q
theorem HOk.laid (x : HOk P w H h) (k : ∀ b u, h.get? b = some u -> h'.get? b = some u) (hp : h.objs.size <= a) (new : ObjOk P w (upd H a o) h' a o) : HOk P w (upd H a o) h' := fun b u e => by
  have hn := x.fresh hp
  by_cases hb : b = a
  · subst hb; rw [C8] at e; cases e; exact new
  · rw [C9 hb] at e
    exact (x b u e).stay (fun c v _ q => k c v q) (fun c q => by rw [C9 (D5 q hn)]; exact q) fun c xs q => by rw [C9 (D5 q hn)]; exact q
end
def Rd (H : Hp) (a : Addr) (u : HO) : Prop := H a = some u \/ ∃ o, H a = some (.frz o u)
theorem Rd.ok {P : Program} {w : World} {H : Hp} {h : Heap} {a : Addr} {u : HO} (r : Rd H a u) (x : HOk P w H h) : ObjOk P w H h a u := by
  rcases r with r | ⟨o, r⟩
  · exact x a u r
  · obtain ⟨_, q⟩ := x a _ r
    exact q
def Mut : Option HO -> Prop
  | some (.lst _) => True
  | some (.dK _) => True
  | some (.dT _) => True
  | some (.set _ _) => True
  | some (.ins _ _ _) => True
  | some (.ext _) => True
  | _ => False
section
variable {P : Program} {w : World} {H : Hp} {h h' : Heap} {x e : Addr} {o' : HO}
theorem HOk.write (ok : HOk P w H h) (mu : Mut (H x)) (he : e = x \/ H e = some (.own x)) (k : ∀ b u, b ≠ e -> h.get? b = some u -> h'.get? b = some u) (heo : ∃ u, h'.get? e = some u)
    (new : ObjOk P w (upd H x o') h' x o') : HOk P w (upd H x o') h' := fun b u q => by
  have nown : ∀ c y, H c = some (.own y) -> c ≠ x := fun c y r z => by subst z; rw [r] at mu; exact mu
  have ntup : ∀ c xs, H c = some (.tup xs) -> c ≠ x := fun c xs r z => by subst z; rw [r] at mu; exact mu
  by_cases hb : b = x
  · subst hb; rw [C8] at q; cases q; exact new
  · rw [C9 hb] at q
    by_cases hbe : b = e
    · have q' : H b = some (.own x) := by
        rcases he with z | z
        · exact absurd (hbe.trans z) hb
        · rw [hbe]; exact z
      rw [q] at q'; cases q'
      obtain ⟨v, hv⟩ := heo
      exact ⟨v, by rw [hbe]; exact hv⟩
    · refine (ok b u q).stay (fun c v hc r => k c v ?_ r) (fun c r => by rw [C9 (nown c b r)]; exact r) fun c xs r => by rw [C9 (ntup c xs r)]; exact r
      rcases hc with rfl | hc
      · exact hbe
      · rintro rfl
        rcases he with z | z
        · exact nown c b hc z
        · rw [hc] at z; cases z; exact hb rfl
end
structure Un (fs ex : List Addr) (H H' : Hp) (h h' : Heap) : Prop where
  keep : ∀ b o, h.get? b = some o -> H b = none -> b ∉ fs -> b ∉ ex -> h'.get? b = some o
  slot : ∀ b o, h.get? b = some o -> H b = none -> b ∈ fs -> b ∉ ex -> ∃ sl, h'.get? b = some { o with slots := sl }
  free : ∀ b o, h.get? b = some o -> H b = none -> b ∉ ex -> H' b = none
  there : ∀ b o, h.get? b = some o -> b ∉ ex -> ∃ o', h'.get? b = some o'
  tups : ∀ b xs, H b = some (.tup xs) -> H' b = some (.tup xs)
  frzs : ∀ b o u, H b = some (.frz o u) -> H' b = some (.frz o u)
  tbls : ∀ b ps, H b = some (.tbl ps) -> ∃ more, H' b = some (.tbl (ps ++ more))
section
variable {fs fs' ex ex' : List Addr} {H H1 H2 : Hp} {h h1 h2 h' : Heap} {a x e : Addr} {o : HO}
theorem Un.any (u : Un fs ex H H1 h h1) {b : Addr} {ob : Obj} (q : h.get? b = some ob) (n : H b = none) (hx : b ∉ ex) : ∃ sl, h1.get? b = some { ob with slots := sl } := by
  by_cases hb : b ∈ fs
  · exact u.slot b ob q n hb hx
  · exact ⟨ob.slots, u.keep b ob q n hb hx⟩
theorem Un.kept (k : ∀ b u, h.get? b = some u -> h'.get? b = some u) : Un fs ex H H h h' :=
  ⟨fun b ob q _ _ _ => k b ob q, fun b ob q _ _ _ => ⟨ob.slots, k b ob q⟩, fun _ _ _ n _ => n, fun b ob q _ => ⟨ob, k b ob q⟩, fun _ _ q => q, fun _ _ _ q => q, fun _ ps q => ⟨#[], by rw [q]; simp⟩⟩
theorem Un.refl : Un fs ex H H h h := Un.kept fun _ _ q => q
theorem Un.laid (k : ∀ b u, h.get? b = some u -> h'.get? b = some u) (hp : h.objs.size <= a) (hn : H a = none) : Un fs ex H (upd H a o) h h' where
  keep := fun b u q _ _ _ => k b u q
  slot := fun b u q _ _ _ => ⟨u.slots, k b u q⟩
  free := fun b u q n _ => by rw [C9 (Nat.ne_of_lt (Nat.lt_of_lt_of_le (Heap.lt_size q) hp))]; exact n
  there := fun b u q _ => ⟨u, k b u q⟩
  tups := fun b xs q => by rw [C9 (D5 q hn)]; exact q
  frzs := fun b u xs q => by rw [C9 (D5 q hn)]; exact q
  tbls := fun b ps q => ⟨#[], by rw [C9 (D5 q hn), q]; simp⟩
theorem Un.write (mu : Mut (H x)) (he : e = x \/ H e = some (.own x)) (k : ∀ b u, b ≠ e -> h.get? b = some u -> h'.get? b = some u) (heo : ∃ u, h'.get? e = some u) : Un fs ex H (upd H x o) h h' := by
  have hx : ∀ b, H b = none -> b ≠ x := fun b n z => by subst z; rw [n] at mu; exact mu
  have hb : ∀ b, H b = none -> b ≠ e := fun b n z => by
    subst z
    rcases he with r | r
    · exact hx b n r
    · rw [n] at r; cases r
  have hm : ∀ b u, H b = some u -> ¬ Mut (some u) -> b ≠ x := fun b u q nm z => by subst z; rw [q] at mu; exact nm mu
  refine ⟨fun b u q n _ _ => k b u (hb b n) q, fun b u q n _ _ => ⟨u.slots, k b u (hb b n) q⟩, fun b u q n _ => by rw [C9 (hx b n)]; exact n, fun b u q _ => ?_,
    fun b xs q => by rw [C9 (hm b _ q fun z => z)]; exact q, fun b u xs q => by rw [C9 (hm b _ q fun z => z)]; exact q, fun b ps q => ⟨#[], by rw [C9 (hm b _ q fun z => z), q]; simp⟩⟩
  by_cases hbe : b = e
  · subst hbe; exact heo
  · exact ⟨u, k b u hbe q⟩
end
def trk (h : Heap) (H : Hp) : List Addr := (List.range h.objs.size).filter fun a => (H a).isSome
def hidT (h : Heap) (H : Hp) : Heap := PySem.W.hideAll h (trk h H)
theorem A9j (h : Heap) (H : Hp) : (hidT h H).objs.size = h.objs.size := PySem.W.hideAll_size _ _
theorem B11 {h : Heap} {H : Hp} {b : Addr} {o : Obj} (e : h.get? b = some o) (n : H b = none) : (hidT h H).get? b = some o :=
  PySem.W.hideAll_get _ e fun hm => by
    have q : (H b).isSome = true := (List.mem_filter.mp hm).2
    rw [n] at q; simp at q
theorem B65 {h : Heap} {H : Hp} {b : Addr} {o : Obj} (e : (hidT h H).get? b = some o) : h.get? b = some o /\ H b = none := by
  have e' : h.get? b = some o := PySem.W.of_hideAll (trk h H) e
  refine ⟨e', ?_⟩
  cases q : H b with
  | none => rfl
  | some x =>
    have hm : b ∈ trk h H := List.mem_filter.mpr ⟨List.mem_range.mpr (Heap.lt_size e'), by simp [q]⟩
    have z : (hidT h H).get? b = none := PySem.W.hideAll_none (trk h H) hm
    rw [z] at e; cases e
def B7t (g h : Heap) (L : Addr) : List (Addr × Obj) := (List.range h.objs.size).filterMap fun a => if a = L \/ (g.get? a).isSome = true then none else (h.get? a).map fun o => (a, o)
def rest (g h : Heap) (L d : Addr) : List (Addr × Obj) := (B7t g h L).filter fun p => decide (p.1 ≠ d)
end L2
namespace L2
open PySem PySem.Spec PyProof.Rows
structure Mod (K : PySem.W.Frag) (mg : Str -> Option Value) (base : Heap) : Prop where
  kin : K.In base
  glob : base.Ns mainGlobals mg
  blt : ∃ mb, base.Ns builtinsNs mb /\ ∀ x : Str, x ≠ "__name__" -> mb x = bootBuiltins x
  nolimit : base.NoLimit
structure Cx where
  prog : Program
  w : World
  K : PySem.W.Frag
  mg : Str -> Option Value
  base : Heap
  A : Around
  N : List Str
  s₀ : Shared
  H₀ : Hp
  env : Env
  outer : List Env
  stack : List Env
  ex : List Addr
  fn : Str -> Bool
  calm : Bool
  pn : List (Addr × Obj)
  xe : Value -> Shared -> Prop
def frs (l : List Env) : List Addr := l.filterMap (·.frame)
abbrev Cx.fs (X : Cx) : List Addr := frs X.outer
def Vis (sc : Scope) (x : Str) : Prop := sc.names.lookup x = some .local \/ sc.names.lookup x = some .cell \/ sc.names.lookup x = some .free
def Loc (sc : Scope) (x : Str) : Prop := sc.names.lookup x = some .local \/ sc.names.lookup x = some .cell
def Look (env : Env) (h : Heap) (m : Str -> Option Value) (x : Str) (u : Value) : Prop :=
  (env.kindOf x = some .local /\ m x = some u) \/ ((env.kindOf x = some .cell \/ env.kindOf x = some .free) /\ ∃ c, env.cells.lookup x = some c /\ h.IsCell c (some u))
structure Cx.Ok (X : Cx) : Prop where
  mod : Mod X.K X.mg X.base
  kind : X.env.scope.kind = .function
  glob : X.env.globals = mainGlobals
  blt : X.env.builtins = builtinsNs
  above : X.s₀.heap.objs.size <= X.env.locals
  inj : ∀ x y c, X.env.cells.lookup x = some c -> X.env.cells.lookup y = some c -> x = y
  has : ∀ x, (X.env.kindOf x = some .cell \/ X.env.kindOf x = some .free) -> ∃ c, X.env.cells.lookup x = some c
  cab : ∀ x c, X.fn x = true -> X.env.cells.lookup x = some c -> X.s₀.heap.objs.size <= c
  hd : X.calm = true -> X.A.handled = none
  frames : X.A.frames = some X.stack
  stk : X.stack = X.outer \/ (X.stack = X.env :: X.outer /\ X.env.frame = some X.env.locals)
  exf : ∀ b ∈ X.ex, b ≠ X.env.locals /\ ∀ x c, X.env.cells.lookup x = some c -> c ≠ b
  bs : ∀ b o, X.base.get? b = some o -> X.s₀.heap.get? b = some o /\ X.H₀ b = none
  bsz : X.base.objs.size <= X.s₀.heap.objs.size
  noex : ∀ b o, X.base.get? b = some o -> b ∉ X.ex
  exfs : ∀ b ∈ X.ex, b ∉ X.fs
  funs : X.s₀.heap.FunFrames X.base X.outer
  frf : ∀ b ∈ X.fs, X.H₀ b = none
structure Inv (X : Cx) (pins : List (Addr × Obj)) (σ : List (Option V)) (H : Hp) (s : Shared) : Prop where
  ok : X.Ok
  os : s.os = X.s₀.os
  bare : AllBare s.gens
  base : Un X.fs X.ex X.H₀ H X.s₀.heap s.heap
  loc : ∃ m, s.heap.Ns X.env.locals m /\ ∀ (i : Nat) (x : Str) (v : V), X.N[i]? = some x -> σ[i]? = some (some v) -> Vis X.env.scope x -> ∃ u, RelV v u /\ Look X.env s.heap m x u
  cell : ∀ x c, X.env.cells.lookup x = some c -> ∃ v, s.heap.IsCell c v
  free : H X.env.locals = none
  freeC : ∀ x c, X.env.cells.lookup x = some c -> H c = none
  pin : ∀ p ∈ X.pn ++ pins, s.heap.get? p.1 = some p.2 /\ H p.1 = none /\ p.1 ≠ X.env.locals /\ p.1 ∉ X.fs /\ ∀ v, p.2.data ≠ .cell v
  hok : HOk X.prog X.w H s.heap
  len : σ.length = X.N.length
section
variable {X : Cx} {pins : List (Addr × Obj)} {σ : List (Option V)} {H H' : Hp} {s : Shared} {h' : Heap}
theorem Cx.Ok.nofr (ok : X.Ok) {b : Addr} {o : Obj} (e : X.base.get? b = some o) : b ∉ X.fs := fun hb => by
  have := (ok.funs.mem hb).1
  rw [e] at this; cases this
theorem Inv.bs (I : Inv X pins σ H s) : ∀ b o, X.base.get? b = some o -> s.heap.get? b = some o /\ H b = none := fun b o e =>
  ⟨I.base.keep b o (I.ok.bs b o e).1 (I.ok.bs b o e).2 (I.ok.nofr e) (I.ok.noex b o e), I.base.free b o (I.ok.bs b o e).1 (I.ok.bs b o e).2 (I.ok.noex b o e)⟩
theorem Inv.bk (I : Inv X pins σ H s) : ∀ b o, X.base.get? b = some o -> s.heap.get? b = some o := fun b o e => (I.bs b o e).1
theorem Inv.mod (I : Inv X pins σ H s) : Mod X.K X.mg X.base := I.ok.mod
theorem Inv.kIn (I : Inv X pins σ H s) : X.K.In s.heap := I.ok.mod.kin.keeps I.bk
theorem Inv.lt (I : Inv X pins σ H s) : X.env.locals < s.heap.objs.size := let ⟨_, hn, _⟩ := I.loc; hn.lt
theorem Inv.sz (I : Inv X pins σ H s) : X.s₀.heap.objs.size <= s.heap.objs.size := Nat.le_trans I.ok.above (Nat.le_of_lt I.lt)
theorem Inv.nofs (I : Inv X pins σ H s) {a : Addr} (h : s.heap.objs.size <= a) : a ∉ X.fs := fun hb => by
  obtain ⟨_, o, ho, _⟩ := I.ok.funs.mem hb
  exact absurd (Nat.lt_of_lt_of_le (Heap.lt_size ho) (Nat.le_trans I.sz h)) (Nat.lt_irrefl _)
theorem Inv.cne (I : Inv X pins σ H s) : ∀ x c, X.env.cells.lookup x = some c -> c ≠ X.env.locals := fun x c e z => by
  obtain ⟨v, o, ho, hd⟩ := I.cell x c e
  obtain ⟨m, ⟨o', es, ep, ho', hd', _⟩, _⟩ := I.loc
  rw [z, ho'] at ho; cases ho; rw [hd'] at hd; cases hd
theorem Inv.funs (I : Inv X pins σ H s) : s.heap.FunFrames X.base X.outer := by
  have all : ∀ (l : List Env), (∀ b ∈ frs l, b ∈ X.fs) -> X.s₀.heap.FunFrames X.base l -> s.heap.FunFrames X.base l := by
    intro l
    induction l with
    | nil => intro _ _; trivial
    | cons env r ih =>
      intro hs hl
      obtain ⟨hk, ⟨L, o, hf, hn, ho, hd⟩, hr⟩ := hl
      have hL : L ∈ X.fs := hs L (by unfold frs; rw [List.filterMap_cons, hf]; exact List.mem_cons_self)
      obtain ⟨sl, e⟩ := I.base.slot L o ho (I.ok.frf L hL) hL fun z => I.ok.exfs L z hL
      exact ⟨hk, ⟨L, _, hf, hn, e, hd⟩, ih (fun b hb => hs b (by unfold frs; rw [List.filterMap_cons, hf]; exact List.mem_cons_of_mem _ hb)) hr⟩
  exact all X.outer (fun _ hb => hb) I.ok.funs
theorem Inv.stack (I : Inv X pins σ H s) : s.heap.FunFrames X.base X.stack := by
  rcases I.ok.stk with e | ⟨e, hf⟩
  · rw [e]; exact I.funs
  · rw [e]
    obtain ⟨m, hn, _⟩ := I.loc
    refine .cons (by rw [I.ok.kind]; decide) hf hn ?_ I.funs
    exact Heap.get?_none_of_le (Nat.le_trans I.ok.bsz I.ok.above)
theorem Inv.stkSub (I : Inv X pins σ H s) : ∀ b ∈ frs X.stack, b ∈ X.env.locals :: X.fs := fun b hb => by
  rcases I.ok.stk with e | ⟨e, hf⟩
  · rw [e] at hb; exact List.mem_cons_of_mem _ hb
  · rw [e] at hb
    unfold frs at hb
    rw [List.filterMap_cons, hf] at hb
    exact hb
theorem Inv.stkFree (I : Inv X pins σ H s) : ∀ b ∈ frs X.stack, H b = none := fun b hb => by
  rcases List.mem_cons.mp (I.stkSub b hb) with e | hb
  · rw [e]; exact I.free
  · obtain ⟨_, o, ho, _⟩ := I.ok.funs.mem hb
    exact I.base.free b o ho (I.ok.frf b hb) fun z => I.ok.exfs b z hb
theorem Inv.step {g' : Array GenState} {t' : Nat} {d' : Drawn} {ch : List Addr} (I : Inv X pins σ H s)
    (hch : ∀ b ∈ ch, (b ∈ X.ex \/ X.s₀.heap.objs.size <= b) /\ b ≠ X.env.locals /\ (∀ x c, X.env.cells.lookup x = some c -> c ≠ b) /\ ∀ p ∈ X.pn ++ pins, p.1 ≠ b)
    (keep : ∀ b o, b ≠ X.env.locals -> b ∉ X.fs -> b ∉ ch -> s.heap.get? b = some o -> H b = none -> h'.get? b = some o)
    (slot : ∀ b o, b ≠ X.env.locals -> b ∈ X.fs -> b ∉ ch -> s.heap.get? b = some o -> H b = none -> ∃ sl, h'.get? b = some { o with slots := sl }) (free : ∀ b o, b ∉ ch -> s.heap.get? b = some o -> H b = none -> H' b = none)
    (there : ∀ b o, b ∉ ch -> s.heap.get? b = some o -> ∃ o', h'.get? b = some o')
    (tups : ∀ b xs, H b = some (.tup xs) -> H' b = some (.tup xs)) (frzs : ∀ b o u, H b = some (.frz o u) -> H' b = some (.frz o u)) (tbls : ∀ b ps, H b = some (.tbl ps) -> ∃ more, H' b = some (.tbl (ps ++ more)))
    (ns : ∀ m, s.heap.Ns X.env.locals m -> h'.Ns X.env.locals m) (hok : HOk X.prog X.w H' h') (hg : AllBare g') :
    Inv X pins σ H' { s with heap := h', gens := g', drawn := d', toks := t' } := by
  have neL : ∀ b o, X.s₀.heap.get? b = some o -> b ≠ X.env.locals := fun b o e => Nat.ne_of_lt (Nat.lt_of_lt_of_le (Heap.lt_size e) I.ok.above)
  have neC : ∀ b o, X.s₀.heap.get? b = some o -> b ∉ X.ex -> b ∉ ch := fun b o e hx hb => by
    rcases (hch b hb).1 with z | z
    · exact hx z
    · exact absurd (Nat.lt_of_lt_of_le (Heap.lt_size e) z) (Nat.lt_irrefl _)
  have cellK : ∀ x c, X.env.cells.lookup x = some c -> ∀ v, s.heap.IsCell c v -> h'.IsCell c v := fun x c e v ⟨o, ho, hd⟩ => by
    have nch : c ∉ ch := fun z => (hch c z).2.2.1 x c e rfl
    by_cases hc : c ∈ X.fs
    · obtain ⟨sl, q⟩ := slot c o (I.cne x c e) hc nch ho (I.freeC x c e)
      exact ⟨_, q, hd⟩
    · exact ⟨o, keep c o (I.cne x c e) hc nch ho (I.freeC x c e), hd⟩
  refine ⟨I.ok, I.os, hg, ⟨fun b o e n hb hx => ?_, fun b o e n hb hx => ?_, fun b o e n hx => ?_, fun b o e hx => ?_, fun b xs e => tups b xs (I.base.tups b xs e), fun b o xs e => frzs b o xs (I.base.frzs b o xs e), fun b ps e => ?_⟩, ?_, fun x c e => ?_, ?_, fun x c e => ?_, fun p hp => ?_, hok, I.len⟩
  · exact keep b o (neL b o e) hb (neC b o e hx) (I.base.keep b o e n hb hx) (I.base.free b o e n hx)
  · obtain ⟨sl, e1⟩ := I.base.slot b o e n hb hx
    obtain ⟨sl', e2⟩ := slot b _ (neL b o e) hb (neC b o e hx) e1 (I.base.free b o e n hx)
    exact ⟨sl', e2⟩
  · obtain ⟨o', e1⟩ := I.base.there b o e hx
    exact free b o' (neC b o e hx) e1 (I.base.free b o e n hx)
  · obtain ⟨o', e1⟩ := I.base.there b o e hx
    exact there b o' (neC b o e hx) e1
  · obtain ⟨m1, e1⟩ := I.base.tbls b ps e
    obtain ⟨m2, e2⟩ := tbls b _ e1
    exact ⟨m1 ++ m2, by rw [e2, Array.append_assoc]⟩
  · obtain ⟨m, hn, hl⟩ := I.loc
    refine ⟨m, ns m hn, fun i x v e1 e2 e3 => ?_⟩
    obtain ⟨u, r, l⟩ := hl i x v e1 e2 e3
    refine ⟨u, r, ?_⟩
    rcases l with l | ⟨k, c, e, z⟩
    · exact .inl l
    · exact .inr ⟨k, c, e, cellK x c e _ z⟩
  · obtain ⟨v, z⟩ := I.cell x c e
    exact ⟨v, cellK x c e v z⟩
  · obtain ⟨m, ⟨o, _, _, ho, _⟩, _⟩ := I.loc
    exact free _ o (fun z => (hch _ z).2.1 rfl) ho I.free
  · obtain ⟨v, o, ho, hd⟩ := I.cell x c e
    exact free c o (fun z => (hch c z).2.2.1 x c e rfl) ho (I.freeC x c e)
  · obtain ⟨e, n, ne, nf, d⟩ := I.pin p hp
    have nch : p.1 ∉ ch := fun z => (hch p.1 z).2.2.2 p hp rfl
    exact ⟨keep p.1 p.2 ne nf nch e n, free p.1 p.2 nch e n, ne, nf, d⟩
theorem Inv.un {t' : Nat} (I : Inv X pins σ H s) (u : Un X.fs [] H H' s.heap h') (hok : HOk X.prog X.w H' h') : Inv X pins σ H' { s with heap := h', toks := t' } := by
  obtain ⟨m, ⟨o, es, ep, ho, r⟩, _⟩ := id I.loc
  obtain ⟨sl, hL⟩ := u.any ho I.free (by simp)
  exact I.step (g' := s.gens) (d' := s.drawn) (ch := []) (fun _ z => nomatch z) (fun b o _ hb _ e n => u.keep b o e n hb (by simp)) (fun b o _ hb _ e n => u.slot b o e n hb (by simp)) (fun b o _ e n => u.free b o e n (by simp)) (fun b o _ e => u.there b o e (by simp)) u.tups u.frzs u.tbls (fun m' hm => by
    obtain ⟨o', es', ep', ho', r'⟩ := hm
    rw [ho] at ho'; cases ho'
    exact ⟨_, es', ep', hL, r'⟩) hok I.bare
theorem Inv.call {g' : Array GenState} {t' : Nat} {d' : Drawn} {ch : List Addr} (I : Inv X pins σ H s) (u : Un (frs X.stack) ch H H' s.heap h') (hok : HOk X.prog X.w H' h') (hg : AllBare g')
    (hch : ∀ b ∈ ch, (b ∈ X.ex \/ X.s₀.heap.objs.size <= b) /\ b ≠ X.env.locals /\ (∀ x c, X.env.cells.lookup x = some c -> c ≠ b) /\ ∀ p ∈ X.pn ++ pins, p.1 ≠ b) :
    Inv X pins σ H' { s with heap := h', gens := g', drawn := d', toks := t' } := by
  obtain ⟨m, ⟨o, es, ep, ho, r⟩, _⟩ := id I.loc
  obtain ⟨sl, hL⟩ := u.any ho I.free fun z => (hch _ z).2.1 rfl
  exact I.step (ch := ch) hch (fun b o hL hb hc e n => u.keep b o e n (fun z => (List.mem_cons.mp (I.stkSub b z)).elim hL hb) hc) (fun b o _ _ hc e n => u.any e n hc) (fun b o hc e n => u.free b o e n hc) (fun b o hc e => u.there b o e hc) u.tups u.frzs u.tbls (fun m' hm => by
    obtain ⟨o', es', ep', ho', r'⟩ := hm
    rw [ho] at ho'; cases ho'
    exact ⟨_, es', ep', hL, r'⟩) hok hg
theorem Inv.turned {t' : Nat} {it : Addr} (I : Inv X pins σ H s) (k : ∀ b o, b ≠ it -> s.heap.get? b = some o -> h'.get? b = some o) (hn : H it = none) (hL : it ≠ X.env.locals)
    (h1 : it ∈ X.ex \/ X.s₀.heap.objs.size <= it) (h2 : ∀ x c, X.env.cells.lookup x = some c -> c ≠ it) (h3 : ∀ p ∈ X.pn ++ pins, p.1 ≠ it) : Inv X pins σ H { s with heap := h', toks := t' } := by
  have nit : ∀ b u, H b = some u -> b ≠ it := fun b u e z => by rw [z, hn] at e; cases e
  refine I.step (g' := s.gens) (d' := s.drawn) (ch := [it]) (fun b hb => ?_) (fun b o _ _ hc e _ => k b o (fun z => hc (by simp [z])) e) (fun b o _ _ hc e _ => ⟨o.slots, k b o (fun z => hc (by simp [z])) e⟩) (fun _ _ _ _ n => n)
    (fun b o hc e => ⟨o, k b o (fun z => hc (by simp [z])) e⟩) (fun _ _ e => e) (fun _ _ _ e => e) (fun b ps e => ⟨#[], by rw [e]; simp⟩) (fun m hm => ?_) (fun b u e => ?_) I.bare
  · have e : b = it := by simpa using hb
    subst e
    exact ⟨h1, hL, h2, h3⟩
  · obtain ⟨o, es, ep, ho, r⟩ := hm
    exact ⟨o, es, ep, k _ o (Ne.symm hL) ho, r⟩
  · refine (I.hok b u e).stay (fun c v hc q => k c v ?_ q) (fun _ q => q) fun _ _ q => q
    rcases hc with z | z
    · rw [z]; exact nit b u e
    · exact nit c _ z
theorem Inv.tok (I : Inv X pins σ H s) (t : Nat) : Inv X pins σ H { s with toks := t } := I.un (h' := s.heap) (t' := t) Un.refl I.hok
theorem Inv.kept {t' : Nat} (I : Inv X pins σ H s) (k : ∀ b u, s.heap.get? b = some u -> h'.get? b = some u) : Inv X pins σ H { s with heap := h', toks := t' } := I.un (Un.kept k) (I.hok.kept k)
theorem Inv.laid {a : Addr} {o : HO} {t' : Nat} (I : Inv X pins σ H s) (k : ∀ b u, s.heap.get? b = some u -> h'.get? b = some u) (hp : s.heap.objs.size <= a) (new : ObjOk X.prog X.w (upd H a o) h' a o) :
    Inv X pins σ (upd H a o) { s with heap := h', toks := t' } := I.un (Un.laid k hp (I.hok.fresh hp)) (I.hok.laid k hp new)
theorem Inv.write {x e : Addr} {o : HO} {t' : Nat} (I : Inv X pins σ H s) (mu : Mut (H x)) (he : e = x \/ H e = some (.own x)) (k : ∀ b u, b ≠ e -> s.heap.get? b = some u -> h'.get? b = some u) (heo : ∃ u, h'.get? e = some u)
    (new : ObjOk X.prog X.w (upd H x o) h' x o) : Inv X pins σ (upd H x o) { s with heap := h', toks := t' } := I.un (Un.write mu he k heo) (I.hok.write mu he k heo new)
theorem Inv.pins_of {pins' : List (Addr × Obj)} (I : Inv X pins σ H s) (h : ∀ p ∈ pins', s.heap.get? p.1 = some p.2 /\ H p.1 = none /\ p.1 ≠ X.env.locals /\ p.1 ∉ X.fs /\ ∀ v, p.2.data ≠ .cell v) : Inv X pins' σ H s :=
  ⟨I.ok, I.os, I.bare, I.base, I.loc, I.cell, I.free, I.freeC, fun p hp => (List.mem_append.mp hp).elim (fun z => I.pin p (List.mem_append_left _ z)) (h p), I.hok, I.len⟩
theorem X1 {N : List Str} (hN : N.Nodup) {i j : Nat} {x : Str} (a : N[i]? = some x) (b : N[j]? = some x) : i = j := by
  obtain ⟨h1, e1⟩ := List.getElem?_eq_some_iff.mp a
  obtain ⟨h2, e2⟩ := List.getElem?_eq_some_iff.mp b
  exact (List.getElem_inj hN).mp (e1.trans e2.symm)
theorem Y7 {M : Model} {A : Around} {E : Value -> Shared -> Prop} {i : Nat} {x : Str} {v : V} {u : Value} {Q : Unit -> Shared -> Prop} (I : Inv X pins σ H s) (hN : X.N.Nodup) (hi : X.N[i]? = some x) (hx : Loc X.env.scope x) (r : RelV v u)
    (h : ∀ s', Inv X pins (σ.set i (some v)) H s' -> (∃ a, Heap.SameBut a s.heap s'.heap /\ (a = X.env.locals \/ X.env.cells.lookup x = some a)) -> Q () s') (hf : X.fn x = true \/ X.env.scope.names.lookup x = some .local := by first | exact .inl rfl | exact .inr rfl | assumption) : wpAny M A (storeName X.env x u) Q E s := by
  obtain ⟨m, hn, hl⟩ := id I.loc
  have hcls : (X.env.scope.kind == .class || (X.env.scope.kind == .module && X.env.locals != X.env.globals)) = false := by rw [I.ok.kind]; rfl
  have hiσ : i < σ.length := by rw [I.len]; exact (List.getElem?_eq_some_iff.mp hi).1
  have cne := I.cne
  have tracked : ∀ {a : Addr} {h' : Heap}, (∃ o, s.heap.get? a = some o /\ H a = none) -> Heap.SameBut a s.heap h' -> HOk X.prog X.w H h' := fun {a h'} ha hs b ob e => by
    obtain ⟨_, _, hfree⟩ := ha
    refine (I.hok b ob e).stay (fun c w' hc q => (hs.2 c ?_).trans q) (fun _ q => q) fun _ _ q => q
    rintro rfl
    rcases hc with rfl | hc
    · rw [hfree] at e; cases e
    · rw [hfree] at hc; cases hc
  rcases hx with hk | hk
  · refine wpAny_storeName_local hk hn (fun h' hn' hs => ?_) hcls
    obtain ⟨oL, _, _, hoL, _⟩ := id hn
    refine h _ ⟨I.ok, I.os, I.bare, ⟨fun b o e n hb hx => ?_, fun b o e n hb hx => ?_, I.base.free, fun b o e hx => ?_, I.base.tups, I.base.frzs, I.base.tbls⟩, ⟨_, hn', fun j y v' e1 e2 e3 => ?_⟩, fun y c e => ?_, I.free, I.freeC, fun p hp => ?_, tracked ⟨oL, hoL, I.free⟩ hs, by simpa using I.len⟩ ⟨_, hs, .inl rfl⟩
    · exact (hs.2 b (Nat.ne_of_lt (Nat.lt_of_lt_of_le (Heap.lt_size e) I.ok.above))).trans (I.base.keep b o e n hb hx)
    · obtain ⟨sl, e1⟩ := I.base.slot b o e n hb hx
      exact ⟨sl, (hs.2 b (Nat.ne_of_lt (Nat.lt_of_lt_of_le (Heap.lt_size e) I.ok.above))).trans e1⟩
    · obtain ⟨o', e1⟩ := I.base.there b o e hx
      exact ⟨o', (hs.2 b (Nat.ne_of_lt (Nat.lt_of_lt_of_le (Heap.lt_size e) I.ok.above))).trans e1⟩
    · by_cases hj : j = i
      · subst hj
        rw [hi] at e1; cases e1
        rw [List.getElem?_set_self hiσ] at e2
        cases e2
        exact ⟨u, r, .inl ⟨hk, by simp⟩⟩
      · rw [List.getElem?_set_ne (Ne.symm hj)] at e2
        obtain ⟨u', r', q⟩ := hl j y v' e1 e2 e3
        refine ⟨u', r', ?_⟩
        rcases q with ⟨k, e⟩ | ⟨k, c, e, z⟩
        · refine .inl ⟨k, ?_⟩
          have : y ≠ x := fun e => hj (X1 hN e1 (e ▸ hi))
          simp [this, e]
        · exact .inr ⟨k, c, e, z.sameBut hs (cne y c e)⟩
    · obtain ⟨w', z⟩ := I.cell y c e
      exact ⟨w', z.sameBut hs (cne y c e)⟩
    · obtain ⟨e, n, ne, nf, d⟩ := I.pin p hp
      exact ⟨(hs.2 p.1 ne).trans e, n, ne, nf, d⟩
  · have hfn : X.fn x = true := by
      rcases hf with z | z
      · exact z
      · rw [z] at hk; cases hk
    obtain ⟨c, hc⟩ := I.ok.has x (.inl hk)
    obtain ⟨w', z⟩ := I.cell x c hc
    refine wpAny_storeName_cell I.ok.kind hk hc z (fun h' hc' hs => ?_)
    obtain ⟨oc, hoc, hocd⟩ := id z
    refine h { s with heap := h' } ⟨I.ok, I.os, I.bare, ⟨fun b o e n hb hx => ?_, fun b o e n hb hx => ?_, I.base.free, fun b o e hx => ?_, I.base.tups, I.base.frzs, I.base.tbls⟩, ⟨m, hn.sameBut hs (Ne.symm (cne x c hc)), fun j y v' e1 e2 e3 => ?_⟩, fun y c' e => ?_, I.free, I.freeC, fun p hp => ?_, tracked ⟨oc, hoc, I.freeC x c hc⟩ hs, by simpa using I.len⟩ ⟨c, hs, .inr hc⟩
    · exact (hs.2 b (Nat.ne_of_lt (Nat.lt_of_lt_of_le (Heap.lt_size e) (I.ok.cab x c hfn hc)))).trans (I.base.keep b o e n hb hx)
    · obtain ⟨sl, e1⟩ := I.base.slot b o e n hb hx
      exact ⟨sl, (hs.2 b (Nat.ne_of_lt (Nat.lt_of_lt_of_le (Heap.lt_size e) (I.ok.cab x c hfn hc)))).trans e1⟩
    · obtain ⟨o', e1⟩ := I.base.there b o e hx
      exact ⟨o', (hs.2 b (Nat.ne_of_lt (Nat.lt_of_lt_of_le (Heap.lt_size e) (I.ok.cab x c hfn hc)))).trans e1⟩
    · by_cases hj : j = i
      · subst hj
        rw [hi] at e1; cases e1
        rw [List.getElem?_set_self hiσ] at e2
        cases e2
        exact ⟨u, r, .inr ⟨.inl hk, c, hc, hc'⟩⟩
      · rw [List.getElem?_set_ne (Ne.symm hj)] at e2
        obtain ⟨u', r', q⟩ := hl j y v' e1 e2 e3
        refine ⟨u', r', ?_⟩
        rcases q with q | ⟨k, c', e, z'⟩
        · exact .inl q
        · refine .inr ⟨k, c', e, z'.sameBut hs ?_⟩
          rintro rfl
          exact hj (X1 hN e1 (I.ok.inj _ _ _ e hc ▸ hi))
    · by_cases hcc : c' = c
      · subst hcc; exact ⟨_, hc'⟩
      · obtain ⟨w2, z2⟩ := I.cell y c' e
        exact ⟨w2, z2.sameBut hs hcc⟩
    · obtain ⟨e, n, ne, nf, d⟩ := I.pin p hp
      refine ⟨(hs.2 p.1 ?_).trans e, n, ne, nf, d⟩
      intro q
      rw [q, hoc] at e
      have q' : oc = p.2 := Option.some.inj e
      exact d w' (by rw [<- q']; exact hocd)
theorem N1 {M : Model} {A : Around} {E : Value -> Shared -> Prop} {i : Nat} {x : Str} {v : V} {u : Value} {Q : Unit -> Shared -> Prop} (I : Inv X pins σ H s) (hN : X.N.Nodup) (hi : X.N[i]? = some x) (hx : Loc X.env.scope x) (r : RelV v u)
    (h : ∀ s', Inv X pins (σ.set i (some v)) H s' -> Q () s') (hf : X.fn x = true \/ X.env.scope.names.lookup x = some .local := by first | exact .inl rfl | exact .inr rfl | assumption) : wpAny M A (storeName X.env x u) Q E s :=
  Y7 I hN hi hx r (fun s' I' _ => h s' I') hf
theorem Inv.call' {s' : Shared} {ch : List Addr} (I : Inv X pins σ H s) (ho : s'.os = s.os) (u : Un (frs X.stack) ch H H' s.heap s'.heap) (hok : HOk X.prog X.w H' s'.heap) (hg : AllBare s'.gens)
    (hch : ∀ b ∈ ch, (b ∈ X.ex \/ X.s₀.heap.objs.size <= b) /\ b ≠ X.env.locals /\ (∀ x c, X.env.cells.lookup x = some c -> c ≠ b) /\ ∀ p ∈ X.pn ++ pins, p.1 ≠ b) : Inv X pins σ H' s' := by
  obtain ⟨h', g', d', t', o'⟩ := s'
  have e : o' = s.os := ho
  subst e
  exact I.call (g' := g') (t' := t') (d' := d') u hok hg hch
end
abbrev XK := Value -> Option Addr -> Hp -> Prop
abbrev St := List (Option V)
abbrev VK := V -> Hp -> Prop
abbrev TE := St -> Hp -> VK -> Prop
abbrev TT := St -> Hp -> (Bool -> Hp -> Prop) -> Prop
abbrev TA := St -> Hp -> (List V -> Hp -> Prop) -> Prop
structure Ends where
  nx : St -> Hp -> Prop
  rt : VK
  bk : St -> Hp -> Prop := fun _ _ => False
  ct : St -> Hp -> Prop := fun _ _ => False
abbrev TS := Ends -> St -> Hp -> Prop
def EP (X : Cx) (pins : List (Addr × Obj)) (σ : St) (Q : VK) (u : Value) (s' : Shared) : Prop := ∃ v H', Inv X pins σ H' s' /\ RelV v u /\ Q v H'
def TP (X : Cx) (pins : List (Addr × Obj)) (σ : St) (Q : Bool -> Hp -> Prop) (b : Bool) (s' : Shared) : Prop := ∃ H', Inv X pins σ H' s' /\ Q b H'
def AP (X : Cx) (pins : List (Addr × Obj)) (σ : St) (Q : List V -> Hp -> Prop) (us : List Value) (s' : Shared) : Prop := ∃ vs H', Inv X pins σ H' s' /\ Vals vs us /\ Q vs H'
def SP (X : Cx) (pins : List (Addr × Obj)) (D : Ends) (f : Flow) (s' : Shared) : Prop :=
  match f with
  | .next => ∃ σ' H', Inv X pins σ' H' s' /\ D.nx σ' H'
  | .brk => ∃ σ' H', Inv X pins σ' H' s' /\ D.bk σ' H'
  | .cont => ∃ σ' H', Inv X pins σ' H' s' /\ D.ct σ' H'
  | .ret u => ∃ v σ' H', Inv X pins σ' H' s' /\ RelV v u /\ D.rt v H'
def PE (X : Cx) (e : Expr) (t : TE) : Prop :=
  ∀ (pins : List (Addr × Obj)) (s : Shared) (σ : St) (H : Hp) (Q : VK), Inv X pins σ H s -> t σ H Q -> wpAny (model X.prog X.w) X.A (eval e X.env) (EP X pins σ Q) X.xe s
def PT (X : Cx) (e : Expr) (t : TT) : Prop :=
  ∀ (pins : List (Addr × Obj)) (s : Shared) (σ : St) (H : Hp) (Q : Bool -> Hp -> Prop), Inv X pins σ H s -> t σ H Q -> wpAny (model X.prog X.w) X.A (isTrue e X.env (eval e X.env)) (TP X pins σ Q) X.xe s
def PW (X : Cx) (e : Expr) (t : TT) : Prop :=
  ∀ (whole : Sem Value) (pins : List (Addr × Obj)) (s : Shared) (σ : St) (H : Hp) (Q : Bool -> Hp -> Prop), Inv X pins σ H s -> t σ H Q -> wpAny (model X.prog X.w) X.A (isTrue e X.env whole) (TP X pins σ Q) X.xe s
theorem PW.pt {X : Cx} {e : Expr} {t : TT} (h : PW X e t) : PT X e t := h _
def PA (X : Cx) (es : List Expr) (t : TA) : Prop :=
  ∀ (pos : Pos) (pins : List (Addr × Obj)) (s : Shared) (σ : St) (H : Hp) (Q : List V -> Hp -> Prop), Inv X pins σ H s -> t σ H Q -> wpAny (model X.prog X.w) X.A (spliced (backTo pos (starEach es X.env))) (AP X pins σ Q) X.xe s
def PS (X : Cx) (st : Stmt) (t : TS) : Prop :=
  ∀ (pins : List (Addr × Obj)) (s : Shared) (σ : St) (H : Hp) (D : Ends), Inv X pins σ H s -> t D σ H -> wpAny (model X.prog X.w) X.A (exec st X.env) (SP X pins D) X.xe s
def PSs (X : Cx) (st : List Stmt) (t : TS) : Prop :=
  ∀ (pins : List (Addr × Obj)) (s : Shared) (σ : St) (H : Hp) (D : Ends), Inv X pins σ H s -> t D σ H -> wpAny (model X.prog X.w) X.A (execs st X.env) (SP X pins D) X.xe s
theorem thn {α : Type} {t : Sem α} {Q Q' : α -> Shared -> Prop} {M : Model} {A : Around} {E : Value -> Shared -> Prop} {s : Shared} (h : wpAny M A t Q E s) (hQ : ∀ a s, Q a s -> Q' a s) : wpAny M A t Q' E s := wpAny_mono h hQ fun _ _ x => x
end L2
namespace L2
open PySem PySem.Spec PyProof.Rows
section
variable {X : Cx}
theorem bin {a b : Expr} {ta tb : TE} (ha : PE X a ta) (hb : PE X b tb) {pins : List (Addr × Obj)} {s : Shared} {σ : St} {H : Hp} {R : V -> V -> Hp -> Prop} (I : Inv X pins σ H s) (h : ta σ H fun x H1 => tb σ H1 fun y H2 => R x y H2)
    {α : Type} {Q : α -> Shared -> Prop} {f : Value -> Value -> Sem α}
    (hf : ∀ v u s2 x y H2, Inv X pins σ H2 s2 -> RelV x v -> RelV y u -> R x y H2 -> wpAny (model X.prog X.w) X.A (f v u) Q X.xe s2) :
    wpAny (model X.prog X.w) X.A (eval a X.env) (fun v s₁ => wpAny (model X.prog X.w) X.A (eval b X.env) (fun u s₂ => wpAny (model X.prog X.w) X.A (f v u) Q X.xe s₂) X.xe s₁) X.xe s := by
  refine thn (ha pins s σ H _ I h) fun v s1 ⟨x, H1, I1, r1, q1⟩ => ?_
  refine thn (hb pins s1 σ H1 _ I1 q1) fun u s2 ⟨y, H2, I2, r2, q2⟩ => ?_
  exact hf v u s2 x y H2 I2 r1 r2 q2
def tVar (i : Nat) : TE := fun σ H Q => ∃ v, σ[i]? = some (some v) /\ Q v H
def tC (v : V) : TE := fun _ H Q => Q v H
theorem A6b {i : Nat} {x : Str} {pos : Pos} (hN : X.N[i]? = some x) (hv : Vis X.env.scope x) (hd : (x == ("__debug__" : Str)) = false := by decide) (hcd : (x == ("__classdict__" : Str)) = false := by decide) : PE X (.Name x pos) (tVar i) := by
  intro pins s σ H Q I h
  obtain ⟨v, e, h⟩ := h
  obtain ⟨m, hn, hl⟩ := I.loc
  obtain ⟨u, r, l⟩ := hl i x v hN e hv
  have fin : EP X pins σ Q u s := ⟨v, H, I, r, h⟩
  rcases l with ⟨hk, hm⟩ | ⟨hk, c, hc, hcell⟩
  · exact wpAny_Name (wpAny_loadName_local I.ok.kind hk hn hm fin) hd
  · rcases hk with hk | hk
    · exact wpAny_Name (wpAny_loadName_cell I.ok.kind hk hc hcell fin) hd
    · exact wpAny_Name (wpAny_loadName_free I.ok.kind hk hc hcell fin hcd) hd
theorem D8 {i j pos} : PE X (.Constant (.int i) j pos) (tC (.int i)) := fun _ _ _ H _ I h => wpAny_Constant_int ⟨.int i, H, I.tok _, ⟨_, rfl⟩, h⟩
theorem C1j {b j pos} : PE X (.Constant (.bool b) j pos) (tC (.bl b)) := fun _ _ _ H _ I h => Constant_bool ⟨.bl b, H, I, rfl, h⟩
theorem B8v {j pos} : PE X (.Constant .none j pos) (tC .non) := fun _ _ _ H _ I h => Constant_none ⟨.non, H, I, rfl, h⟩
theorem B21 {x j pos} : PE X (.Constant (.str x) j pos) (tC (.str x)) := fun _ _ _ H _ I h => Calls.Constant_str ⟨.str x, H, I.tok _, ⟨_, rfl⟩, h⟩
def Gl (X : Cx) (x : Str) : Prop := X.env.kindOf x = some .globalImplicit
theorem P2 {E : Value -> Shared -> Prop} {pins : List (Addr × Obj)} {s : Shared} {σ : St} {H : Hp} {x : Str} {u : Value} {pos : Pos} {Q : Value -> Shared -> Prop} (I : Inv X pins σ H s) (hg : Gl X x) (hm : X.mg x = some u) (h : Q u s)
    (hd : (x == ("__debug__" : Str)) = false := by decide) : wpAny (model X.prog X.w) X.A (eval (.Name x pos) X.env) Q E s :=
  Calls.Name_function_global I.ok.kind hg (Calls.loadGlobal_global (by rw [I.ok.glob]; exact I.mod.glob.keeps I.bk) hm h) hd
theorem S3 {E : Value -> Shared -> Prop} {pins : List (Addr × Obj)} {s : Shared} {σ : St} {H : Hp} {x : Str} {u : Value} {pos : Pos} {Q : Value -> Shared -> Prop} (I : Inv X pins σ H s) (hg : Gl X x) (hm : X.mg x = none) (hv : bootBuiltins x = some u) (h : Q u s)
    (hn : x ≠ "__name__" := by decide) (hd : (x == ("__debug__" : Str)) = false := by decide) : wpAny (model X.prog X.w) X.A (eval (.Name x pos) X.env) Q E s := by
  obtain ⟨mb, h1, h2⟩ := I.mod.blt
  exact Calls.Name_function_global I.ok.kind hg (Calls.loadGlobal_builtin (by rw [I.ok.glob]; exact I.mod.glob.keeps I.bk) hm (by rw [I.ok.blt]; exact h1.keeps I.bk) ((h2 x hn).trans hv) h) hd
theorem A6d {x : Str} {v : V} {u : Value} {pos : Pos} (hg : Gl X x) (hm : X.mg x = some u) (r : RelV v u) (hd : (x == ("__debug__" : Str)) = false := by decide) : PE X (.Name x pos) (tC v) :=
  fun _ _ _ H _ I h => P2 I hg hm ⟨v, H, I, r, h⟩ hd
theorem A6e {x : Str} {v : V} {u : Value} {pos : Pos} (hg : Gl X x) (hm : X.mg x = none) (hv : bootBuiltins x = some u) (r : RelV v u) (hn : x ≠ "__name__" := by decide) (hd : (x == ("__debug__" : Str)) = false := by decide) : PE X (.Name x pos) (tC v) :=
  fun _ _ _ H _ I h => S3 I hg hm hv ⟨v, H, I, r, h⟩ hn hd
variable {a b : Expr} {ta tb : TE} {pos : Pos}
def PC (X : Cx) (op : CmpOp) (a b : Expr) (t : TE) : Prop :=
  ∀ (pins : List (Addr × Obj)) (s : Shared) (σ : St) (H : Hp) (Q : VK), Inv X pins σ H s -> t σ H Q ->
    wpAny (model X.prog X.w) X.A (eval a X.env) (fun v s₁ => wpAny (model X.prog X.w) X.A (eval b X.env) (fun u s₂ => wpAny (model X.prog X.w) X.A (compareOp op v u) (EP X pins σ Q) X.xe s₂) X.xe s₁) X.xe s
theorem B1q (b : Expr) {op : CmpOp} (h : op ≠ .In) (h2 : op ≠ .NotIn) : behindInMarks op b = false := by
  have e1 : (op == CmpOp.In) = false := by cases op <;> first | rfl | exact absurd rfl h
  have e2 : (op == CmpOp.NotIn) = false := by cases op <;> first | rfl | exact absurd rfl h2
  cases b <;> simp [behindInMarks, e1, e2]
def tB (t : TE) : TT := fun σ H Q => t σ H fun x H1 => ∃ c, x = .bl c /\ Q c H1
theorem C2g {op : CmpOp} {t : TE} (h : PC X op a b t) (h1 : behindInMarks op b = false := by first | exact B1q _ (by decide) (by decide) | rfl) : PT X (.Compare a [op] [b] pos) (tB t) := by
  intro pins s σ H Q I hw
  refine wpAny_isTrue_Compare1 (thn (h pins s σ H _ I hw) fun v s1 h1 => thn h1 fun u s2 h2 => thn h2 fun c s3 ⟨x, H1, I1, r1, q1⟩ => ?_) h1
  obtain ⟨d, rfl, q⟩ := q1
  cases r1
  exact wpAny_truthy_bool ⟨H1, I1, q⟩
theorem A5u {e : Expr} {t : TE} (h : PE X e t) (he : ∀ whole, isTrue e X.env whole = (do let v <- whole; standAt e.pos; holding [v] (truthy v)) := by intro _; rfl) : PT X e (tB t) := by
  intro pins s σ H Q I hw
  refine isTrue_plain (thn (h pins s σ H _ I hw) fun v s1 ⟨x, H1, I1, r1, q1⟩ => ?_) (he _)
  obtain ⟨d, rfl, q⟩ := q1
  cases r1
  exact wpAny_truthy_bool ⟨H1, I1, q⟩
variable {tA tB' : TT} {rest : List Expr}
def tAnd (t u : TT) : TT := fun σ H Q => t σ H fun c H1 => if c = true then u σ H1 Q else Q false H1
def tOr (t u : TT) : TT := fun σ H Q => t σ H fun c H1 => if c = true then Q true H1 else u σ H1 Q
def tNot (t : TT) : TT := fun σ H Q => t σ H fun c H1 => Q (!c) H1
theorem B5x (ha : PT X a tA) : PW X (.BoolOp .And [a] pos) tA := by
  intro wh pins s σ H Q I h
  refine isTrue_and (thn (ha pins s σ H Q I h) fun c s1 e => ?_)
  cases c with
  | true => exact isTrue_and_nil e
  | false => exact e
theorem B8l (ha : PT X a tA) : PW X (.BoolOp .Or [a] pos) tA := by
  intro wh pins s σ H Q I h
  refine isTrue_or (thn (ha pins s σ H Q I h) fun c s1 e => ?_)
  cases c with
  | false => exact isTrue_or_nil e
  | true => exact e
theorem B8m (ha : PT X a tA) (hb : PW X (.BoolOp .And (b :: rest) pos) tB') : PW X (.BoolOp .And (a :: b :: rest) pos) (tAnd tA tB') := by
  intro wh pins s σ H Q I h
  refine isTrue_and (thn (ha pins s σ H _ I h) fun c s1 ⟨H1, I1, q1⟩ => ?_)
  cases c with
  | true => exact hb wh pins s1 σ H1 Q I1 q1
  | false => exact ⟨H1, I1, q1⟩
theorem C1f (ha : PT X a tA) (hb : PW X (.BoolOp .Or (b :: rest) pos) tB') : PW X (.BoolOp .Or (a :: b :: rest) pos) (tOr tA tB') := by
  intro wh pins s σ H Q I h
  refine isTrue_or (thn (ha pins s σ H _ I h) fun c s1 ⟨H1, I1, q1⟩ => ?_)
  cases c with
  | true => exact ⟨H1, I1, q1⟩
  | false => exact hb wh pins s1 σ H1 Q I1 q1
theorem B8n (ha : PT X a tA) : PT X (.UnaryOp .Not a pos) (tNot tA) := by
  intro pins s σ H Q I h
  exact isTrue_not (ha pins s σ H (fun c H1 => Q (!c) H1) I h)
def B5m (ta tb : TE) : TE := fun σ H Q => ta σ H fun x H1 => ∃ c, x = .bl c /\ if c = true then tb σ H1 Q else Q (.bl false) H1
def B5k (ta : TE) : TE := fun σ H Q => ta σ H fun x H1 => ∃ c, x = .bl c /\ Q (.bl (!c)) H1
theorem B22 {op} {t : TE} (h : PE X a t) : PE X (.BoolOp op [a] pos) t := fun pins s σ H Q I hw => BoolOp_one (h pins s σ H Q I hw)
theorem B24 (ha : PE X a ta) (hb : PE X (.BoolOp .And (b :: rest) pos) tb) : PE X (.BoolOp .And (a :: b :: rest) pos) (B5m ta tb) := by
  intro pins s σ H Q I h
  refine BoolOp_and (thn (ha pins s σ H _ I h) fun v s1 ⟨x, H1, I1, r1, q1⟩ => ?_)
  obtain ⟨c, rfl, q1⟩ := q1
  cases r1
  refine wpAny_truthy_bool ?_
  cases c with
  | true => exact hb pins s1 σ H1 Q I1 q1
  | false => exact ⟨.bl false, H1, I1, rfl, q1⟩
theorem B8u (ha : PE X a ta) : PE X (.UnaryOp .Not a pos) (B5k ta) := by
  intro pins s σ H Q I h
  refine UnaryOp_ (thn (ha pins s σ H _ I h) fun v s1 ⟨x, H1, I1, r1, q1⟩ => ?_)
  obtain ⟨c, rfl, q1⟩ := q1
  cases r1
  exact not_of (wpAny_truthy_bool ⟨.bl (!c), H1, I1, rfl, q1⟩)
def tIf (t : TT) (ta tb : TE) : TE := fun σ H Q => t σ H fun c H1 => if c = true then ta σ H1 Q else tb σ H1 Q
theorem B1d {c : Expr} (hc : PT X c tA) (ha : PE X a ta) (hb : PE X b tb) : PE X (.IfExp c a b pos) (tIf tA ta tb) := by
  intro pins s σ H Q I h
  refine wpAny_IfExp (thn (hc pins s σ H _ I h) fun d s1 ⟨H1, I1, q1⟩ => ?_)
  cases d with
  | true => exact ha pins s1 σ H1 Q I1 q1
  | false => exact hb pins s1 σ H1 Q I1 q1
end
end L2
namespace L2
open PySem PySem.Spec PyProof.Rows
def SqL (K : PySem.W.Frag) (H : Hp) (a : Addr) (xs : List V) : Prop :=
  Rd H a (.lst xs) \/
    ∃ (o : Obj) (its : Array Value) (n : Nat), K.lookup a = some o /\ o.cls = .type "list" /\ o.dict = none /\ o.data = .seq its n /\ its.size <= sizeLine /\ Vals xs its.toList
def SqT (K : PySem.W.Frag) (H : Hp) (a : Addr) (xs : List V) : Prop :=
  Rd H a (.tup xs) \/
    ∃ (o : Obj) (its : Array Value) (n : Nat), K.lookup a = some o /\ o.cls = .type "tuple" /\ o.data = .seq its n /\ its.size <= sizeLine /\ Vals xs its.toList
def absV : Value -> Option V
  | .none => some .non
  | .bool b => some (.bl b)
  | .int i _ => some (.int i)
  | .str x _ => some (.str x)
  | .bytes b _ => some (.byt b)
  | .float b _ => some (.flt b)
  | .ref a => some (.ref a)
  | .type n => some (.ty n)
  | _ => none
theorem RelV.abs {x : V} {u : Value} (r : RelV x u) : absV u = some x := by
  cases x with
  | non => cases r; rfl
  | bl _ => cases r; rfl
  | int _ => obtain ⟨t, rfl⟩ := r; rfl
  | str _ => obtain ⟨t, rfl⟩ := r; rfl
  | byt _ => obtain ⟨t, rfl⟩ := r; rfl
  | flt _ => obtain ⟨t, rfl⟩ := r; rfl
  | ref _ => cases r; rfl
  | ty _ => cases r; rfl
theorem RelV.inj {x y : V} {u : Value} (r : RelV x u) (q : RelV y u) : x = y := Option.some.inj (r.abs.symm.trans q.abs)
theorem Vals.inj : ∀ {xs ys : List V} {us : List Value}, Vals xs us -> Vals ys us -> xs = ys
  | _, _, _, .nil, .nil => rfl
  | _, _, _, .cons r t, .cons r' t' => by rw [r.inj r', Vals.inj t t']
section
variable {X : Cx} {pins : List (Addr × Obj)} {σ : St} {H : Hp} {s : Shared} {a : Addr} {xs ys : List V}
theorem SqL.of {K : PySem.W.Frag} (h : H a = some (.lst xs)) : SqL K H a xs := .inl (.inl h)
theorem SqT.of {K : PySem.W.Frag} (h : H a = some (.tup xs)) : SqT K H a xs := .inl (.inl h)
theorem Inv.list (I : Inv X pins σ H s) (h : SqL X.K H a xs) : ∃ its : List Value, Vals xs its /\ PlainL s.heap a its.toArray /\ xs.length <= sizeLine := by
  rcases h with h | ⟨o, its, n, hk, hc, hd, hs, hz, r⟩
  · obtain ⟨z, its, n, r, e⟩ := h.ok I.hok
    exact ⟨its, r, ⟨_, n, e, rfl, rfl, rfl⟩, z⟩
  · refine ⟨its.toList, r, ⟨o, n, I.kIn a o hk, hc, hd, by simpa using hs⟩, ?_⟩
    have e := r.length
    simp only [Array.length_toList] at e
    omega
theorem Inv.tuple (I : Inv X pins σ H s) (h : SqT X.K H a xs) : ∃ its : List Value, Vals xs its /\ IsTup s.heap a its.toArray /\ xs.length <= sizeLine := by
  rcases h with h | ⟨o, its, n, hk, hc, hs, hz, r⟩
  · obtain ⟨z, its, r, p⟩ := h.ok I.hok
    exact ⟨its, r, p, z⟩
  · refine ⟨its.toList, r, ⟨o, I.kIn a o hk, hc, n, by simpa using hs⟩, ?_⟩
    have e := r.length
    simp only [Array.length_toList] at e
    omega
theorem Inv.list_inj (I : Inv X pins σ H s) (h : SqL X.K H a xs) (h' : SqL X.K H a ys) : xs = ys := by
  obtain ⟨its, r, ⟨o, n, e, _, _, d⟩, _⟩ := I.list h
  obtain ⟨its', r', ⟨o', n', e', _, _, d'⟩, _⟩ := I.list h'
  rw [e] at e'; cases e'
  rw [d] at d'
  injection d' with d1 _
  have : its = its' := by simpa using congrArg Array.toList d1
  subst this
  exact r.inj r'
theorem Inv.tuple_inj (I : Inv X pins σ H s) (h : SqT X.K H a xs) (h' : SqT X.K H a ys) : xs = ys := by
  obtain ⟨its, r, ⟨o, e, _, n, d⟩, _⟩ := I.tuple h
  obtain ⟨its', r', ⟨o', e', _, n', d'⟩, _⟩ := I.tuple h'
  rw [e] at e'; cases e'
  rw [d] at d'
  injection d' with d1 _
  have : its = its' := by simpa using congrArg Array.toList d1
  subst this
  exact r.inj r'
end
abbrev Cx.wish (X : Cx) (E : Value -> Shared -> Prop) : Cx := { X with xe := E }
abbrev Cx.nox (X : Cx) : Cx := X.wish fun _ _ => False
theorem Cx.Ok.wish {X : Cx} (ok : X.Ok) (E : Value -> Shared -> Prop) : (X.wish E).Ok :=
  ⟨ok.mod, ok.kind, ok.glob, ok.blt, ok.above, ok.inj, ok.has, ok.cab, ok.hd, ok.frames, ok.stk, ok.exf, ok.bs, ok.bsz, ok.noex, ok.exfs, ok.funs, ok.frf⟩
theorem Cx.Ok.unwish {X : Cx} {E : Value -> Shared -> Prop} (ok : (X.wish E).Ok) : X.Ok :=
  ⟨ok.mod, ok.kind, ok.glob, ok.blt, ok.above, ok.inj, ok.has, ok.cab, ok.hd, ok.frames, ok.stk, ok.exf, ok.bs, ok.bsz, ok.noex, ok.exfs, ok.funs, ok.frf⟩
section
variable {X : Cx} {pins : List (Addr × Obj)} {σ : St} {H : Hp} {s : Shared} {E : Value -> Shared -> Prop}
theorem Inv.wish (I : Inv X pins σ H s) (E : Value -> Shared -> Prop) : Inv (X.wish E) pins σ H s := ⟨I.ok.wish E, I.os, I.bare, I.base, I.loc, I.cell, I.free, I.freeC, I.pin, I.hok, I.len⟩
theorem Inv.unwish (I : Inv (X.wish E) pins σ H s) : Inv X pins σ H s := ⟨I.ok.unwish, I.os, I.bare, I.base, I.loc, I.cell, I.free, I.freeC, I.pin, I.hok, I.len⟩
theorem SP.unwish {D : Ends} {f : Flow} {s' : Shared} (h : SP (X.wish E) pins D f s') : SP X pins D f s' := by
  cases f with
  | next => obtain ⟨σ', H', I, q⟩ := h; exact ⟨σ', H', I.unwish, q⟩
  | brk => obtain ⟨σ', H', I, q⟩ := h; exact ⟨σ', H', I.unwish, q⟩
  | cont => obtain ⟨σ', H', I, q⟩ := h; exact ⟨σ', H', I.unwish, q⟩
  | ret u => obtain ⟨v, σ', H', I, r, q⟩ := h; exact ⟨v, σ', H', I.unwish, r, q⟩
theorem PE.nox {e : Expr} {t : TE} (h : PE X.nox e t) : PE X e t := fun pins s σ H Q I hw =>
  wpAny_mono (h pins s σ H Q (I.wish _) hw) (fun _ _ ⟨v, H', I', r, q⟩ => ⟨v, H', I'.unwish, r, q⟩) fun _ _ z => False.elim z
theorem PT.nox {e : Expr} {t : TT} (h : PT X.nox e t) : PT X e t := fun pins s σ H Q I hw =>
  wpAny_mono (h pins s σ H Q (I.wish _) hw) (fun _ _ ⟨H', I', q⟩ => ⟨H', I'.unwish, q⟩) fun _ _ z => False.elim z
theorem PSs.nox {st : List Stmt} {t : TS} (h : PSs X.nox st t) : PSs X st t := fun pins s σ H D I hw =>
  wpAny_mono (h pins s σ H D (I.wish _) hw) (fun _ _ q => q.unwish) fun _ _ z => False.elim z
end
section
variable {X : Cx} {st : Stmt} {rest : List Stmt} {t u : TS} {e : Expr} {te : TE} {pos : Pos}
def B5l : TS := fun D σ H => D.nx σ H
def tSeq (t u : TS) : TS := fun D σ H => t { D with nx := u D } σ H
theorem W5 : PSs X [] B5l := fun _ _ σ H _ I h => wpAny_execs_nil ⟨σ, H, I, h⟩
theorem G3 (h1 : PS X st t) (h2 : PSs X rest u) : PSs X (st :: rest) (tSeq t u) := by
  intro pins s σ H D I h
  refine wpAny_execs_cons (thn (h1 pins s σ H { D with nx := u D } I h) fun f s1 q => ?_)
  cases f with
  | next =>
    obtain ⟨σ', H', I', q⟩ := q
    exact h2 pins s1 σ' H' D I' q
  | ret v => exact q
  | brk => exact q
  | cont => exact q
theorem O8 (h1 : PS X st t) : PSs X [st] t := by
  intro pins s σ H D I h
  refine wpAny_execs_cons (thn (h1 pins s σ H D I h) fun f s1 q => ?_)
  cases f with
  | next => exact wpAny_execs_nil q
  | ret v => exact q
  | brk => exact q
  | cont => exact q
theorem Inv.quiet {pins : List (Addr × Obj)} {σ : St} {H : Hp} {s : Shared} (I : Inv X pins σ H s) : interactive X.env = false := by simp [interactive, I.ok.kind]
def B0t (te : TE) : TS := fun D σ H => te σ H fun _ H1 => D.nx σ H1
theorem B51 (he : PE X e te) (hs : swapsWith e none pos.line X.env = pure false := by rfl) : PS X (.Expr e pos) (B0t te) := by
  intro pins s σ H D I h
  exact wpAny_Expr_any (thn (he pins s σ H _ I h) fun v s1 ⟨x, H1, I1, r1, q1⟩ => ⟨σ, H1, I1, q1⟩) I.quiet hs
def tRet (te : TE) : TS := fun D σ H => te σ H D.rt
theorem Z4 (he : PE X e te) : PS X (.Return (some e) pos) (tRet te) := by
  intro pins s σ H D I h
  exact wpAny_Return_some (thn (he pins s σ H _ I h) fun v s1 ⟨x, H1, I1, r1, q1⟩ => ⟨x, σ, H1, I1, r1, q1⟩)
def tIfS (c : TT) (t u : TS) : TS := fun D σ H => c σ H fun b H1 => if b = true then t D σ H1 else u D σ H1
theorem B04 {c : Expr} {a b : List Stmt} {tc : TT} (hc : PT X c tc) (ha : PSs X a t) (hb : PSs X b u) : PS X (.If c a b pos) (tIfS tc t u) := by
  intro pins s σ H D I h
  refine wpAny_If (thn (hc pins s σ H _ I h) fun d s1 ⟨H1, I1, q1⟩ => ?_)
  cases d with
  | true => exact ha pins s1 σ H1 D I1 q1
  | false => exact hb pins s1 σ H1 D I1 q1
def A16 : TS := fun _ _ _ => False
theorem B03 : PS X st A16 := fun _ _ _ _ _ _ h => h.elim
end
abbrev TG := V -> St -> Hp -> (St -> Hp -> Prop) -> Prop
abbrev TGs := List V -> St -> Hp -> (St -> Hp -> Prop) -> Prop
def PG (X : Cx) (target : Expr) (t : TG) : Prop :=
  ∀ (pins : List (Addr × Obj)) (s : Shared) (σ : St) (H : Hp) (v : V) (u : Value) (Q : St -> Hp -> Prop), Inv X pins σ H s -> RelV v u -> t v σ H Q ->
    wpAny (model X.prog X.w) X.A (assign target X.env u) (fun _ s' => ∃ σ' H', Inv X pins σ' H' s' /\ Q σ' H') X.xe s
def PGs (X : Cx) (ts : List Expr) (t : TGs) : Prop :=
  ∀ (pins : List (Addr × Obj)) (s : Shared) (σ : St) (H : Hp) (vs : List V) (us : List Value) (Q : St -> Hp -> Prop), Inv X pins σ H s -> Vals vs us -> t vs σ H Q ->
    wpAny (model X.prog X.w) X.A (assignInOrder ((assignEach ts X.env).map (·.2)) us) (fun _ s' => ∃ σ' H', Inv X pins σ' H' s' /\ Q σ' H') X.xe s
abbrev TSet := V -> V -> V -> Hp -> (Hp -> Prop) -> Prop
def PSet (X : Cx) (t : TSet) : Prop :=
  ∀ (pins : List (Addr × Obj)) (s : Shared) (σ : St) (H : Hp) (o i v : V) (ov iv u : Value) (Q : Hp -> Prop), Inv X pins σ H s -> RelV o ov -> RelV i iv -> RelV v u -> t o i v H Q ->
    wpAny (model X.prog X.w) X.A (setItem ov iv u) (fun _ s' => ∃ H', Inv X pins σ H' s' /\ Q H') X.xe s
section
variable {X : Cx} {pos : Pos}
def T5 (i : Nat) : TG := fun v σ H Q => Q (σ.set i (some v)) H
theorem A6a {i : Nat} {x : Str} (hN : X.N.Nodup) (hi : X.N[i]? = some x) (hx : Loc X.env.scope x) (hf : X.fn x = true \/ X.env.scope.names.lookup x = some .local := by first | exact .inl rfl | exact .inr rfl | assumption) : PG X (.Name x pos) (T5 i) := by
  intro pins s σ H v u Q I r h
  exact wpAny_assign_Name (N1 I hN hi hx r (fun s' I' => ⟨_, H, I', h⟩) hf)
def gNil : TGs := fun vs σ H Q => vs = [] /\ Q σ H
def A1q (t : TG) (u : TGs) : TGs := fun vs σ H Q => ∃ v r, vs = v :: r /\ t v σ H fun σ' H' => u r σ' H' Q
theorem B59 : PGs X [] gNil := by
  intro pins s σ H vs us Q I r h
  obtain ⟨e, h⟩ := h
  subst e
  cases r
  exact assignInOrder_nil ⟨σ, H, I, h⟩
theorem B1b {e : Expr} {es : List Expr} {t : TG} {u : TGs} (h1 : PG X e t) (h2 : PGs X es u)
    (hs : (assignEach (e :: es) X.env).map (·.2) = assign e X.env :: (assignEach es X.env).map (·.2) := by rfl) : PGs X (e :: es) (A1q t u) := by
  intro pins s σ H vs us Q I r h
  obtain ⟨v, vr, e1, h⟩ := h
  subst e1
  cases r with
  | cons r rr =>
    rw [hs]
    refine assignInOrder_cons (thn (h1 pins s σ H _ _ _ I r h) fun _ s1 ⟨σ1, H1, I1, q1⟩ => ?_)
    exact h2 pins s1 σ1 H1 _ _ Q I1 rr q1
def gTup (K : PySem.W.Frag) (n : Nat) (t : TGs) : TG := fun v σ H Q => ∃ a xs, v = .ref a /\ SqT K H a xs /\ xs.length = n /\ t xs σ H Q
theorem B8t {es : List Expr} {k : Nat} {t : TGs} {n : Nat} (hc : X.calm = true) (h : PGs X es t)
    (hn : (assignEach es X.env).length = n := by rfl) (hst : (assignEach es X.env).findIdx? (·.1) = none := by rfl) : PG X (.Tuple es k pos) (gTup X.K n t) := by
  intro pins s σ H v u Q I r hw
  obtain ⟨a, xs, e1, hq, hl, hw⟩ := hw
  subst e1
  cases r
  obtain ⟨its, rv, ht, hz⟩ := I.tuple hq
  refine assign_Tuple_tuple (I.ok.hd hc) ht (by simp [hn, <- hl, rv.length]) hst fun h' hx => ?_
  have I1 : Inv X pins σ H { s with heap := h' } := I.kept (t' := s.toks) fun b o e => hx b o (Nat.ne_of_lt (Heap.lt_size e)) e
  exact h pins _ σ H xs _ Q I1 (by simpa using rv) hw
def gSub (to ti : TE) (t : TSet) : TG := fun v σ H Q => to σ H fun o H1 => ti σ H1 fun i H2 => t o i v H2 fun H3 => Q σ H3
theorem A2h {o i : Expr} {to ti : TE} {t : TSet} (ho : PE X o to) (hi : PE X i ti) (hs : PSet X t)
    (ha : ∀ v, assign (.Subscript o i pos) X.env v = (do
      let ov <- holding [v] (eval o X.env)
      let iv <- holding [v, ov] (eval i X.env)
      standAt pos
      holding [v, ov, iv] (setItem ov iv v)
      release [v, ov, iv] []) := by intro _; rfl) : PG X (.Subscript o i pos) (gSub to ti t) := by
  intro pins s σ H v u Q I r h
  rw [ha]
  refine wpAny_bind (wpAny_holding (thn (ho pins s σ H _ I h) fun ov s1 ⟨x, H1, I1, r1, q1⟩ => ?_))
  refine wpAny_bind (wpAny_holding (thn (hi pins s1 σ H1 _ I1 q1) fun iv s2 ⟨y, H2, I2, r2, q2⟩ => ?_))
  refine wpAny_bind (wpAny_standAt (wpAny_bind (wpAny_holding (thn (hs pins s2 σ H2 x y v ov iv u _ I2 r1 r2 r q2) fun _ s3 ⟨H3, I3, q3⟩ => ?_))))
  exact wpAny_release ⟨σ, H3, I3, q3⟩
def tAsg (te : TE) (g : TG) : TS := fun D σ H => te σ H fun x H1 => g x σ H1 D.nx
theorem A2f {tg e : Expr} {te : TE} {g : TG} (he : PE X e te) (hg : PG X tg g) (hs : swapsWithSole [tg] e pos.line X.env = pure false := by rfl) (hw : swappedStores [tg] e X.env = pure none := by rfl)
    (h1 : (assignEach [tg] X.env).map (·.2) = [assign tg X.env] := by rfl) : PS X (.Assign [tg] e pos) (tAsg te g) := by
  intro pins s σ H D I h
  refine wpAny_Assign_stores (thn (he pins s σ H _ I h) fun v s1 ⟨x, H1, I1, r1, q1⟩ => ?_) hs hw
  rw [h1]
  exact thn (hg pins s1 σ H1 x v _ I1 r1 q1) fun _ s2 q => q
theorem U0 {i : Nat} {x : Str} {e : Expr} {te : TE} {pos' : Pos} (hN : X.N.Nodup) (hi : X.N[i]? = some x) (hx : Loc X.env.scope x) (he : PE X e te) (hs : swapsWith e (some (.Name x pos')) pos.line X.env = pure false := by rfl) (hf : X.fn x = true \/ X.env.scope.names.lookup x = some .local := by first | exact .inl rfl | exact .inr rfl | assumption) :
    PS X (.Assign [.Name x pos'] e pos) (tAsg te (T5 i)) := by
  intro pins s σ H D I h
  refine wpAny_Assign_Name (thn (he pins s σ H _ I h) fun v s1 ⟨y, H1, I1, r1, q1⟩ => ?_) hs
  exact N1 I1 hN hi hx r1 (fun s2 I2 => ⟨_, H1, I2, q1⟩) hf
def tPar (i j : Nat) (ta : TA) : TS := fun D σ H => ta σ H fun vs H1 => ∃ v w, vs = [v, w] /\ D.nx ((σ.set i (some v)).set j (some w)) H1
theorem B8q {i j : Nat} {x y : Str} {a b : Expr} {ta : TA} {px py pt : Pos} {kt k2 pt2} (hc : X.calm = true) (hN : X.N.Nodup) (hi : X.N[i]? = some x) (hj : X.N[j]? = some y) (hij : i ≠ j)
    (hx : X.env.scope.names.lookup x = some .local) (hy : X.env.scope.names.lookup y = some .local) (ha : PA X [a, b] ta)
    (hw : swappedStores [.Tuple [.Name x px, .Name y py] kt pt] (.Tuple [a, b] k2 pt2) X.env = pure (some [x, y]))
    (hs : swapsWithSole [.Tuple [.Name x px, .Name y py] kt pt] (.Tuple [a, b] k2 pt2) pos.line X.env = pure false := by rfl) :
    PS X (.Assign [.Tuple [.Name x px, .Name y py] kt pt] (.Tuple [a, b] k2 pt2) pos) (tPar i j ta) := by
  intro pins s σ H D I h
  rw [exec_Assign_arm]
  refine wpAny_bind (wpAny_standAt ?_)
  rw [hs]
  refine wpAny_bind (wpAny_pure ?_)
  rw [if_neg (by decide)]
  refine wpAny_bind (Tuple_ (thn (ha _ pins s σ H _ I h) fun us s1 ⟨vs, H1, I1, r1, q1⟩ => ?_))
  obtain ⟨v, w, e1, q1⟩ := q1
  subst e1
  obtain ⟨u1, u2, rfl, rv, rw'⟩ : ∃ u1 u2, us = [u1, u2] /\ RelV v u1 /\ RelV w u2 := by
    cases r1 with
    | cons p q =>
      cases q with
      | cons p' q' =>
        cases q'
        exact ⟨_, _, rfl, p, p'⟩
  refine wpAny_newObj_type ?_ (by show 2 <= sizeLine; decide)
  have I2 : Inv X pins σ H1 { s1 with heap := s1.heap.push { cls := .type "tuple", data := .seq [u1, u2].toArray } } := I1.kept (t' := s1.toks) fun b o e => Heap.get?_push_of_some _ e
  rw [hw]
  refine wpAny_bind (wpAny_pure ?_)
  show wpAny (model X.prog X.w) X.A (do rule "assign.swapped-stores"; let items <- unpackItems (.ref s1.heap.objs.size) 2 none; assignInOrder [fun v => bindName X.env y v, fun v => bindName X.env x v] items.reverse; pure Flow.next) _ _ _
  refine wpAny_bind (wpAny_rule (wpAny_bind (unpackItems_tuple (items := #[u1, u2]) (I.ok.hd hc) (IsTup.new s1.heap _) fun h' hx' => ?_)))
  have I3 := I2.kept (h' := h') (t' := s1.toks) fun b o e => hx' b o (Nat.ne_of_lt (Heap.lt_size e)) e
  show wpAny _ _ (assignInOrder [fun v => bindName X.env y v, fun v => bindName X.env x v] [u2, u1] >>= fun _ => pure Flow.next) _ _ _
  refine wpAny_bind (assignInOrder_cons (wpAny_bindName (N1 I3 hN hj (.inl hy) rw' (fun s2 I4 => ?_) (.inr hy))))
  refine assignInOrder_cons (wpAny_bindName (N1 I4 hN hi (.inl hx) rv (fun s3 I5 => assignInOrder_nil (wpAny_pure ?_)) (.inr hx)))
  rw [List.set_comm _ _ (Ne.symm hij)] at I5
  exact ⟨_, H1, I5, q1⟩
end
section
variable {X : Cx} {pos : Pos}
def A5c (c : TT) (tb : TS) : TS := fun D σ H => ∃ W : Nat -> St -> Hp -> Prop, (∃ m, W m σ H) /\ ∀ m σ H, W m σ H ->
  c σ H fun b H1 => if b = true then ∃ N : St -> Hp -> Prop, (∀ σ' H', N σ' H' -> ∃ m', m' < m /\ W m' σ' H') /\ tb { D with nx := N, ct := N, bk := D.nx } σ H1 else D.nx σ H1
theorem B00 {c : Expr} {body : List Stmt} {tc : TT} {tb : TS} (hp : PassesOwn (model X.prog X.w) X.A X.env X.xe) (hc : PT X c tc) (hb : PSs X body tb) : PS X (.While c body [] pos) (A5c tc tb) := by
  intro pins s σ H D I h
  obtain ⟨W, ⟨m0, w0⟩, turn⟩ := h
  refine wpAny_While (codeAny_whileLoop (fun n s' => ∃ σ' H', Inv X pins σ' H' s' /\ W n σ' H') ?_ m0 ⟨σ, H, I, w0⟩)
  rintro n s1 ⟨σ1, H1, I1, w1⟩
  refine wpAny_passesOwn hp (thn (hc pins s1 σ1 H1 _ I1 (turn n σ1 H1 w1)) fun b s2 ⟨H2, I2, q2⟩ => ?_)
  cases b with
  | true =>
    obtain ⟨N, hN, q2⟩ := q2
    rw [if_pos rfl]
    refine wpAny_passesOwn hp (thn (hb pins s2 σ1 H2 _ I2 q2) fun f s3 q3 => ?_)
    cases f with
    | next =>
      obtain ⟨σ3, H3, I3, n3⟩ := q3
      obtain ⟨m', hm, w3⟩ := hN σ3 H3 n3
      exact ⟨m', hm, σ3, H3, I3, w3⟩
    | cont =>
      obtain ⟨σ3, H3, I3, n3⟩ := q3
      obtain ⟨m', hm, w3⟩ := hN σ3 H3 n3
      exact ⟨m', hm, σ3, H3, I3, w3⟩
    | brk => exact q3
    | ret v => exact q3
  | false =>
    rw [if_neg Bool.false_ne_true]
    exact wpAny_execs_nil ⟨σ1, H2, I2, q2⟩
end
structure It where
  go : Nat -> Hp -> Prop
  yld : Nat -> Hp -> V -> Hp -> Prop
  stop : Nat -> Hp -> Prop
def FpOk (X : Cx) (pins : List (Addr × Obj)) (H : Hp) (b : Addr) : Prop :=
  H b = none /\ b ≠ X.env.locals /\ b ∉ X.fs /\ (b ∈ X.ex \/ X.s₀.heap.objs.size <= b) /\ (∀ x c, X.env.cells.lookup x = some c -> c ≠ b) /\ ∀ p ∈ X.pn ++ pins, p.1 ≠ b
theorem Inv.fpOk {X : Cx} {pins : List (Addr × Obj)} {σ : St} {H H' : Hp} {s : Shared} {b : Addr} (I : Inv X pins σ H s) (hb : s.heap.objs.size <= b) (hn : H' b = none) : FpOk X pins H' b := by
  refine ⟨hn, Nat.ne_of_gt (Nat.lt_of_lt_of_le I.lt hb), I.nofs hb, .inr (Nat.le_trans I.sz hb), fun x c e z => ?_, fun p hp z => ?_⟩
  · obtain ⟨v, q⟩ := I.cell x c e
    exact absurd (Nat.lt_of_lt_of_le q.lt (by rw [z]; exact hb)) (Nat.lt_irrefl _)
  · exact absurd (Nat.lt_of_lt_of_le (Heap.lt_size (I.pin p hp).1) (by rw [z]; exact hb)) (Nat.lt_irrefl _)
structure Turn (P : Program) (w : World) (K : PySem.W.Frag) (tg : Expr) (J : It) (fp : List Addr) (it : Addr) (tn : Nat -> Heap -> Prop) : Prop where
  mem : it ∈ fp
  obj : ∀ i h, tn i h -> ∀ b ∈ fp, ∃ o, h.get? b = some o /\ ∀ v, o.data ≠ .cell v
  keep : ∀ i h h', tn i h -> (∀ b ∈ fp, ∀ o, h.get? b = some o -> h'.get? b = some o) -> tn i h'
  item : ∀ (X : Cx), X.prog = P -> X.w = w -> X.K = K -> X.calm = true -> ∀ (i : Nat) (pins : List (Addr × Obj)) (s : Shared) (σ : St) (H : Hp) (E : Value -> Shared -> Prop), Inv X pins σ H s -> (∀ b ∈ fp, FpOk X pins H b) -> tn i s.heap -> J.go i H ->
    wpAny (model P w) X.A (pyNext (.ref it)) (fun r s1 => ∃ u, r = some u /\
      wpAny (model P w) X.A (letOwnedTupleGo tg (.ref it) u) (fun _ s2 => ∃ x H', Inv X pins σ H' s2 /\ RelV x u /\ J.yld i H x H' /\ tn (i + 1) s2.heap /\ ∀ b ∈ fp, H' b = none) E s1) E s
  done : ∀ (X : Cx), X.prog = P -> X.w = w -> X.K = K -> X.calm = true -> ∀ (i : Nat) (pins : List (Addr × Obj)) (s : Shared) (σ : St) (H : Hp) (E : Value -> Shared -> Prop), Inv X pins σ H s -> (∀ b ∈ fp, FpOk X pins H b) -> tn i s.heap -> J.stop i H ->
    wpAny (model P w) X.A (pyNext (.ref it)) (fun r s1 => r = none /\ Inv X pins σ H s1) E s
  self : ∀ (A : Around) (i : Nat) (s : Shared) (Q : Value -> Shared -> Prop) (E : Value -> Shared -> Prop), tn i s.heap -> Q (.ref it) s -> wpAny (model P w) A (pyIter (.ref it)) Q E s
abbrev TI := St -> Hp -> (It -> Hp -> Prop) -> Prop
def PIE (X : Cx) (pins : List (Addr × Obj)) (σ : St) (tg : Expr) (R : It -> Hp -> Prop) (itv : Value) (s2 : Shared) : Prop :=
  ∃ (it : Addr) (fp : List Addr) (tn : Nat -> Heap -> Prop) (J : It) (H' : Hp), itv = .ref it /\ Inv X pins σ H' s2 /\ Turn X.prog X.w X.K tg J fp it tn /\ tn 0 s2.heap /\ (∀ b ∈ fp, FpOk X pins H' b) /\ R J H'
def PI (X : Cx) (tg iter : Expr) (wi : TI) : Prop :=
  ∀ (pins : List (Addr × Obj)) (s : Shared) (σ : St) (H : Hp) (R : It -> Hp -> Prop), Inv X pins σ H s -> wi σ H R ->
    wpAny (model X.prog X.w) X.A (eval iter X.env) (fun v s1 => wpAny (model X.prog X.w) X.A (pyIter v) (PIE X pins σ tg R) X.xe s1) X.xe s
theorem B7e {M : Model} {A : Around} {E : Value -> Shared -> Prop} {s : Shared} {tg : Expr} {it : Addr} {u : Value} {o : Obj} {n : String} {vs : Array Value} {Q : Unit -> Shared -> Prop} (ho : s.heap.get? it = some o) (hc : o.cls = .type n) (hd : o.data = .fields vs)
    (hn : ["enumerate", "zip", "dict_itemiterator", "dict_reverseitemiterator", "odict_iterator", "itertools.zip_longest", "itertools.pairwise"].contains n = false) (hQ : Q () s) : wpAny M A (letOwnedTupleGo tg (.ref it) u) Q E s := by
  unfold letOwnedTupleGo
  cases tg <;> first
    | exact wpAny_pure hQ
    | (cases u <;> first
        | exact wpAny_pure hQ
        | (refine wpAny_bind (wpAny_load ho ?_)
           rw [hc, hd]
           show wpAny M A (if (["enumerate", "zip", "dict_itemiterator", "dict_reverseitemiterator", "odict_iterator", "itertools.zip_longest", "itertools.pairwise"].contains n && vs[0]? == some (rawInt _)) = true then _ else _) Q E s
           rw [if_neg (by intro h; rw [hn, Bool.false_and] at h; cases h)]
           exact wpAny_pure hQ))
def Itl (K : PySem.W.Frag) (a : Addr) : It :=
  ⟨fun i H => ∃ xs x, SqL K H a xs /\ xs[i]? = some x, fun i H x H' => H' = H /\ ∀ xs, SqL K H a xs -> xs[i]? = some x, fun i H => ∃ xs, SqL K H a xs /\ xs.length <= i⟩
def Itt (K : PySem.W.Frag) (a : Addr) : It :=
  ⟨fun i H => ∃ xs x, SqT K H a xs /\ xs[i]? = some x, fun i H x H' => H' = H /\ ∀ xs, SqT K H a xs -> xs[i]? = some x, fun i H => ∃ xs, SqT K H a xs /\ xs.length <= i⟩
def Itr (lo : Int) (n : Nat) : It := ⟨fun i _ => i < n, fun i H x H' => H' = H /\ x = .int (lo + i), fun i _ => n <= i⟩
theorem A5b {P : Program} {w : World} {K : PySem.W.Frag} {tg : Expr} (a it : Addr) : Turn P w K tg (Itl K a) [it] it (fun i h => h.IsListIter it a i) where
  mem := by simp
  obj := fun i h st b hb => by
    have e : b = it := by simpa using hb
    subst e
    obtain ⟨o, e, c, d⟩ := st
    exact ⟨o, e, fun v z => by rw [d] at z; cases z⟩
  keep := fun i h h' st k => st.at fun o e => k it (by simp) o e
  item := by
    intro X hP hw hK hc i pins s σ H E I hf st hg
    subst hP hw hK
    obtain ⟨xs, x, hq, hx⟩ := hg
    obtain ⟨its, rv, p, hz⟩ := I.list hq
    obtain ⟨u, hu, ru⟩ := rv.get hx
    obtain ⟨f0, f1, f2, f3, f4, f5⟩ := hf it (by simp)
    refine wpAny_pyNext_list_item st p.isList (x := u) (by simpa using hu) fun h' st' sb => ?_
    have I1 : Inv X pins σ H { s with heap := h' } := I.turned (t' := s.toks) (fun b o hb e => (sb.2 b hb).trans e) f0 f1 f3 f4 f5
    obtain ⟨o, e, c, d⟩ := id st'
    exact ⟨u, rfl, B7e (s := { s with heap := h' }) e c d (by decide) ⟨x, H, I1, ru, ⟨rfl, fun ys hy => by rw [I.list_inj hy hq]; exact hx⟩, st', fun b hb => (hf b hb).1⟩⟩
  done := by
    intro X hP hw hK hc i pins s σ H E I hf st hg
    subst hP hw hK
    obtain ⟨xs, hq, hx⟩ := hg
    obtain ⟨its, rv, p, hz⟩ := I.list hq
    obtain ⟨f0, f1, f2, f3, f4, f5⟩ := hf it (by simp)
    have hl := rv.length
    exact wpAny_pyNext_list_end (I.ok.hd hc) st p.isList (by simp; omega) fun h' eb => ⟨rfl, I.turned (t' := s.toks) (fun b o hb e => eb b o hb e) f0 f1 f3 f4 f5⟩
  self := fun _ _ _ _ _ st h => wpAny_pyIter_listiter st h
theorem A35 {P : Program} {w : World} {K : PySem.W.Frag} {tg : Expr} (a it : Addr) : Turn P w K tg (Itt K a) [it] it (fun i h => h.IsTupleIter it a i) where
  mem := by simp
  obj := fun i h st b hb => by
    have e : b = it := by simpa using hb
    subst e
    obtain ⟨o, e, c, d⟩ := st
    exact ⟨o, e, fun v z => by rw [d] at z; cases z⟩
  keep := fun i h h' st k => st.at fun o e => k it (by simp) o e
  item := by
    intro X hP hw hK hc i pins s σ H E I hf st hg
    subst hP hw hK
    obtain ⟨xs, x, hq, hx⟩ := hg
    obtain ⟨its, rv, p, hz⟩ := I.tuple hq
    obtain ⟨u, hu, ru⟩ := rv.get hx
    obtain ⟨f0, f1, f2, f3, f4, f5⟩ := hf it (by simp)
    refine wpAny_pyNext_tuple_item st (show s.heap.IsTuple a its.toArray from p) (x := u) (by simpa using hu) fun h' st' sb => ?_
    have I1 : Inv X pins σ H { s with heap := h' } := I.turned (t' := s.toks) (fun b o hb e => (sb.2 b hb).trans e) f0 f1 f3 f4 f5
    obtain ⟨o, e, c, d⟩ := id st'
    exact ⟨u, rfl, B7e (s := { s with heap := h' }) e c d (by decide) ⟨x, H, I1, ru, ⟨rfl, fun ys hy => by rw [I.tuple_inj hy hq]; exact hx⟩, st', fun b hb => (hf b hb).1⟩⟩
  done := by
    intro X hP hw hK hc i pins s σ H E I hf st hg
    subst hP hw hK
    obtain ⟨xs, hq, hx⟩ := hg
    obtain ⟨its, rv, p, hz⟩ := I.tuple hq
    obtain ⟨f0, f1, f2, f3, f4, f5⟩ := hf it (by simp)
    have hl := rv.length
    exact wpAny_pyNext_tuple_end (I.ok.hd hc) st (show s.heap.IsTuple a its.toArray from p) (by simp; omega) fun h' eb => ⟨rfl, I.turned (t' := s.toks) (fun b o hb e => eb b o hb e) f0 f1 f3 f4 f5⟩
  self := fun _ _ _ _ _ st h => wpAny_pyIter_tupleiter st h
theorem A36 {P : Program} {w : World} {K : PySem.W.Frag} {tg : Expr} (it : Addr) (lo : Int) (n : Nat) : Turn P w K tg (Itr lo n) [it] it (fun i h => IsRangeIter h it (lo + (i : Nat) * 1) ((n : Int) - (i : Nat)) 1) where
  mem := by simp
  obj := fun i h st b hb => by
    have e : b = it := by simpa using hb
    subst e
    exact ⟨_, st, fun v z => by
      have z' : Data.fields _ = Data.cell v := z
      cases z'⟩
  keep := fun i h h' st k => k it (by simp) _ st
  item := by
    intro X hP hw hK hc i pins s σ H E I hf st hg
    subst hP hw hK
    obtain ⟨f0, f1, f2, f3, f4, f5⟩ := hf it (by simp)
    have W := Walks.range (prog := X.prog) (w := X.w) (I.ok.hd hc) it lo 1 n
    refine W.item i s _ _ hg st fun v h' tk hv st' kk => ?_
    obtain ⟨t, rfl⟩ := hv
    have I1 : Inv X pins σ H { s with heap := h', toks := tk } := I.turned (fun b o hb e => kk b o (by simpa using hb) e) f0 f1 f3 f4 f5
    refine ⟨_, rfl, B7e (s := { s with heap := h', toks := tk }) (n := "range_iterator") st' rfl rfl (by decide) ⟨.int (lo + i), H, I1, ⟨t, ?_⟩, ⟨rfl, rfl⟩, st', fun b hb => (hf b hb).1⟩⟩
    rw [Int.mul_one]
  done := by
    intro X hP hw hK hc i pins s σ H E I hf st hg
    subst hP hw hK
    obtain ⟨f0, f1, f2, f3, f4, f5⟩ := hf it (by simp)
    exact wpAny_pyNext_range_end (I.ok.hd hc) st (by have : n <= i := hg; omega) fun h' eb => ⟨rfl, I.turned (t' := s.toks) (fun b o hb e => eb b o hb e) f0 f1 f3 f4 f5⟩
  self := fun _ _ _ _ _ st h => wpAny_pyIter_rangeiter st h
end L2
namespace L2
open PySem PySem.Spec PyProof.Rows
section
variable {X : Cx} {tg : Expr}
theorem B0x {pins : List (Addr × Obj)} {σ : St} {H : Hp} {s : Shared} {R : It -> Hp -> Prop} {E : Value -> Shared -> Prop} {lo hi : Int} {t u v : Tok} {tk : Nat} (I : Inv X pins σ H s) (h1 : -(2 ^ 62) <= lo) (h2 : lo < 2 ^ 62) (h3 : -(2 ^ 62) <= hi) (h4 : hi < 2 ^ 62)
    (q : R (Itr lo (hi - lo).toNat) H) : wpAny (model X.prog X.w) X.A (pyIter (.ref s.heap.objs.size)) (PIE X pins σ tg R) E { s with heap := s.heap.push { cls := .type "range", data := .fields #[.int lo t, .int hi u, .int 1 v] }, toks := tk } := by
  refine wpAny_pyIter_range (IsRange.new ..) (small_one h1 h2 h3 h4) ?_
  have I1 : Inv X pins σ H { s with heap := s.heap.push { cls := .type "range", data := .fields #[.int lo t, .int hi u, .int 1 v] }, toks := tk } := I.kept fun b o e => Heap.get?_push_of_some _ e
  refine ⟨(s.heap.push { cls := .type "range", data := .fields #[.int lo t, .int hi u, .int 1 v] }).objs.size, [(s.heap.push { cls := .type "range", data := .fields #[.int lo t, .int hi u, .int 1 v] }).objs.size], _, _, H, rfl,
    I1.kept (t' := tk) fun b o e => Heap.get?_push_of_some _ e, A36 _ lo (hi - lo).toNat, ?_, fun b hb => ?_, q⟩
  · have e1 : lo + ((0 : Nat) : Int) * 1 = lo := by simp
    have e2 : (((hi - lo).toNat : Nat) : Int) - ((0 : Nat) : Int) = Builtin.Range.rangeSize lo hi 1 := by rw [rangeSize_one]; split <;> omega
    show IsRangeIter _ _ (lo + ((0 : Nat) : Int) * 1) ((((hi - lo).toNat : Nat) : Int) - ((0 : Nat) : Int)) 1
    rw [e1, e2]
    exact Heap.get?_push_size _ rfl
  · have e : b = (s.heap.push { cls := .type "range", data := .fields #[.int lo t, .int hi u, .int 1 v] }).objs.size := by simpa using hb
    subst e
    exact I1.fpOk (Nat.le_refl _) (I1.hok.fresh (Nat.le_refl _))
def B7b (ta : TA) : TI := fun σ H R => ta σ H fun vs H1 => ∃ j : Int, vs = [.int j] /\ -(2 ^ 62) <= j /\ j < 2 ^ 62 /\ R (Itr 0 j.toNat) H1
theorem Z6 {a : Expr} {ta : TA} {p pos : Pos} (hg : Gl X "range") (hm : X.mg "range" = none) (ha : PA X [a] ta) (hs : starEach [a] X.env = [(false, eval a X.env)] := by rfl) : PI X tg (.Call (.Name "range" p) [a] [] pos) (B7b ta) := by
  intro pins s σ H R I h
  refine Call_ (S3 I hg hm boot_range (PyProof.Rows.callWith_type1 (thn (ha pos pins s σ H _ I h) fun us s1 ⟨vs, H1, I1, r1, q1⟩ => ?_) hs rfl))
  obtain ⟨j, e, q1, q2, q⟩ := q1
  subst e
  cases r1 with
  | cons r rr =>
    cases rr
    obtain ⟨t, rfl⟩ := r
    exact call_range_1 (B0x I1 (by omega) (by omega) q1 q2 (by simpa using q))
def tFor (wi : TI) (g : TG) (tb : TS) : TS := fun D σ H => wi σ H fun J H1 => ∃ W : Nat -> Nat -> St -> Hp -> Prop, (∃ m, W 0 m σ H1) /\ ∀ i m σ H, W i m σ H ->
  (J.stop i H /\ D.nx σ H) \/ (J.go i H /\ ∃ N : St -> Hp -> Prop, (∀ σ' H', N σ' H' -> ∃ m', m' < m /\ W (i + 1) m' σ' H') /\ ∀ x H', J.yld i H x H' -> g x σ H' fun σ2 H2 => tb { D with nx := N, ct := N, bk := D.nx } σ2 H2)
def U2 (fp : List Addr) (h : Heap) : List (Addr × Obj) := fp.filterMap fun b => (h.get? b).map fun o => (b, o)
theorem K0 {fp : List Addr} {h : Heap} {b : Addr} {o : Obj} (hb : b ∈ fp) (e : h.get? b = some o) : (b, o) ∈ U2 fp h := List.mem_filterMap.mpr ⟨b, hb, by rw [e]; rfl⟩
theorem A7k {fp : List Addr} {h : Heap} {p : Addr × Obj} (hp : p ∈ U2 fp h) : p.1 ∈ fp /\ h.get? p.1 = some p.2 := by
  obtain ⟨b, hb, e⟩ := List.mem_filterMap.mp hp
  cases q : h.get? b with
  | none => rw [q] at e; cases e
  | some o =>
    rw [q] at e
    have e' : (b, o) = p := Option.some.inj e
    subst e'
    exact ⟨hb, q⟩
theorem Inv.pinned {pins : List (Addr × Obj)} {σ : St} {H : Hp} {s : Shared} {fp : List Addr} (I : Inv X pins σ H s) (hf : ∀ b ∈ fp, FpOk X pins H b) (ho : ∀ b ∈ fp, ∃ o, s.heap.get? b = some o /\ ∀ v, o.data ≠ .cell v) : Inv X (pins ++ U2 fp s.heap) σ H s :=
  I.pins_of fun p hp => (List.mem_append.mp hp).elim (fun z => I.pin p (List.mem_append_right _ z)) fun z => by
    obtain ⟨hb, e⟩ := A7k z
    obtain ⟨f0, f1, f2, _⟩ := hf p.1 hb
    obtain ⟨o, e', d⟩ := ho p.1 hb
    rw [e] at e'; cases e'
    exact ⟨e, f0, f1, f2, d⟩
theorem Inv.unpinned {pins pl : List (Addr × Obj)} {σ : St} {H : Hp} {s : Shared} (I : Inv X (pins ++ pl) σ H s) : Inv X pins σ H s := I.pins_of fun p hp => I.pin p (List.mem_append_right _ (List.mem_append_left _ hp))
theorem B2z {iter : Expr} {body : List Stmt} {wi : TI} {g : TG} {tb : TS} {pos : Pos} (hp : PassesOwn (model X.prog X.w) X.A X.env X.xe) (hc : X.calm = true) (hi : PI X tg iter wi) (hg : PG X tg g) (hb : PSs X body tb)
    (hs : ∀ x, foldedSetIterable iter X.env x = pure x := by intro _; rfl) : PS X (.For tg iter body [] pos) (tFor wi g tb) := by
  intro pins s σ H D I h
  refine wpAny_For (thn (hi pins s σ H _ I h) fun v s1 h1 => thn h1 fun itv s2 h2 => ?_) hs
  obtain ⟨it, fp, tn, J, H2, e, I2, T, st2, f2, W, ⟨m0, w0⟩, turn⟩ := h2
  subst e
  have stat : ∀ {H' : Hp}, (∀ b ∈ fp, H' b = none) -> ∀ b ∈ fp, FpOk X pins H' b := fun hn b hb => ⟨hn b hb, (f2 b hb).2⟩
  refine codeAny_forLoop_any (fun n s' => ∃ i σ' H', Inv X pins σ' H' s' /\ tn i s'.heap /\ (∀ b ∈ fp, H' b = none) /\ W i n σ' H') ?_ m0 ⟨0, σ, H2, I2, st2, fun b hb => (f2 b hb).1, w0⟩
  rintro n s3 ⟨i, σ3, H3, I3, st3, fr3, w3⟩
  rcases turn i n σ3 H3 w3 with ⟨stop, qn⟩ | ⟨go, N, hN, step⟩
  · refine wpAny_passesOwn hp (thn (T.done X rfl rfl rfl hc i pins s3 σ3 H3 X.xe I3 (stat fr3) st3 stop) fun r s4 ⟨hr, I4⟩ => ?_)
    subst hr
    exact wpAny_execs_nil ⟨σ3, H3, I4, qn⟩
  · refine wpAny_passesOwn hp (thn (T.item X rfl rfl rfl hc i pins s3 σ3 H3 X.xe I3 (stat fr3) st3 go) fun r s4 ⟨u, hr, h4⟩ => ?_)
    subst hr
    refine wpAny_passesOwn hp (thn h4 fun _ s5 ⟨x, H5, I5, r5, y5, st5, fr5⟩ => ?_)
    have I5' := I5.pinned (stat fr5) (T.obj _ _ st5)
    refine wpAny_passesOwn hp (thn (hg _ s5 σ3 H5 x u _ I5' r5 (step x H5 y5)) fun _ s6 ⟨σ6, H6, I6, q6⟩ => ?_)
    refine wpAny_passesOwn hp (thn (hb _ s6 σ6 H6 _ I6 q6) fun f s7 q7 => ?_)
    have again : ∀ {σ7 : St} {H7 : Hp}, Inv X (pins ++ U2 fp s5.heap) σ7 H7 s7 -> N σ7 H7 -> ∃ m, m < n /\ ∃ i σ' H', Inv X pins σ' H' s7 /\ tn i s7.heap /\ (∀ b ∈ fp, H' b = none) /\ W i m σ' H' := fun {σ7 H7} I7 n7 => by
      obtain ⟨m', hm, w7⟩ := hN σ7 H7 n7
      refine ⟨m', hm, i + 1, σ7, H7, I7.unpinned, T.keep _ _ _ st5 fun b hb o e => (I7.pin (b, o) (List.mem_append_right _ (List.mem_append_right _ (K0 hb e)))).1, fun b hb => ?_, w7⟩
      obtain ⟨o, e, d⟩ := T.obj _ _ st5 b hb
      exact (I7.pin (b, o) (List.mem_append_right _ (List.mem_append_right _ (K0 hb e)))).2.1
    cases f with
    | next => obtain ⟨σ7, H7, I7, n7⟩ := q7; exact again I7 n7
    | cont => obtain ⟨σ7, H7, I7, n7⟩ := q7; exact again I7 n7
    | brk => obtain ⟨σ7, H7, I7, q7⟩ := q7; exact ⟨σ7, H7, I7.unpinned, q7⟩
    | ret v => obtain ⟨x7, σ7, H7, I7, r7, q7⟩ := q7; exact ⟨x7, σ7, H7, I7.unpinned, r7, q7⟩
end
theorem A9m {lo : Int} {n : Nat} {g : TG} {tb : TS} {D : Ends} {σ : St} {H : Hp} (Pv : Nat -> St -> Hp -> Prop) (h0 : Pv 0 σ H)
    (hs : ∀ i σ H, i < n -> Pv i σ H -> g (.int (lo + i)) σ H fun σ2 H2 => tb { D with nx := Pv (i + 1), ct := Pv (i + 1), bk := D.nx } σ2 H2) (hd : ∀ σ H, Pv n σ H -> D.nx σ H) :
    ∃ W : Nat -> Nat -> St -> Hp -> Prop, (∃ m, W 0 m σ H) /\ ∀ i m σ H, W i m σ H ->
      ((Itr lo n).stop i H /\ D.nx σ H) \/ ((Itr lo n).go i H /\ ∃ N : St -> Hp -> Prop, (∀ σ' H', N σ' H' -> ∃ m', m' < m /\ W (i + 1) m' σ' H') /\ ∀ x H', (Itr lo n).yld i H x H' -> g x σ H' fun σ2 H2 => tb { D with nx := N, ct := N, bk := D.nx } σ2 H2) := by
  refine ⟨fun i m σ H => m = n - i /\ i <= n /\ Pv i σ H, ⟨n, by simp, Nat.zero_le _, h0⟩, ?_⟩
  rintro i m σ H ⟨rfl, hi, p⟩
  by_cases hlt : i < n
  · refine .inr ⟨hlt, Pv (i + 1), fun σ' H' p' => ⟨n - (i + 1), by omega, rfl, hlt, p'⟩, fun x H' y => ?_⟩
    obtain ⟨e, y⟩ := y
    subst e y
    exact hs i σ _ hlt p
  · have e : i = n := by omega
    subst e
    exact .inl ⟨Nat.le_refl _, hd σ H p⟩
end L2
namespace L2
open PySem PySem.Spec PyProof.Rows
abbrev R2 := V -> V -> Hp -> VK -> Prop
def OpR (X : Cx) (f : Value -> Value -> Sem Value) (r : R2) : Prop :=
  ∀ (pins : List (Addr × Obj)) (s : Shared) (σ : St) (H : Hp) (x y : V) (v u : Value) (Q : VK), Inv X pins σ H s -> RelV x v -> RelV y u -> r x y H Q ->
    wpAny (model X.prog X.w) X.A (f v u) (EP X pins σ Q) X.xe s
def UnR (X : Cx) (f : Value -> Sem Value) (r : V -> Hp -> VK -> Prop) : Prop :=
  ∀ (pins : List (Addr × Obj)) (s : Shared) (σ : St) (H : Hp) (x : V) (v : Value) (Q : VK), Inv X pins σ H s -> RelV x v -> r x H Q ->
    wpAny (model X.prog X.w) X.A (f v) (EP X pins σ Q) X.xe s
def CallR (X : Cx) (f : Value) (r : List V -> Hp -> VK -> Prop) : Prop :=
  ∀ (pins : List (Addr × Obj)) (s : Shared) (σ : St) (H : Hp) (xs : List V) (us : List Value) (Q : VK), Inv X pins σ H s -> Vals xs us -> r xs H Q ->
    wpAny (model X.prog X.w) X.A (call f us) (EP X pins σ Q) X.xe s
def tOp (r : R2) (ta tb : TE) : TE := fun σ H Q => ta σ H fun x H1 => tb σ H1 fun y H2 => r x y H2 Q
def tUn (r : V -> Hp -> VK -> Prop) (ta : TE) : TE := fun σ H Q => ta σ H fun x H1 => r x H1 Q
def rI (C : Int -> Int -> Prop) (g : Int -> Int -> V) : R2 := fun x y H Q => ∃ i j, x = .int i /\ y = .int j /\ C i j /\ Q (g i j) H
def rI0 (g : Int -> Int -> V) : R2 := fun x y H Q => ∃ i j, x = .int i /\ y = .int j /\ Q (g i j) H
def rU (g : Int -> V) : V -> Hp -> VK -> Prop := fun x H Q => ∃ i, x = .int i /\ Q (g i) H
section
variable {X : Cx} {a b c : Expr} {ta tb tc : TE} {pos : Pos}
theorem binT (ha : PE X a ta) (hb : PE X b tb) {pins : List (Addr × Obj)} {s : Shared} {σ : St} {H : Hp} {R : V -> V -> Hp -> Prop} (I : Inv X pins σ H s)
    (h : ta σ H fun x H1 => tb σ H1 fun y H2 => R x y H2) {Q : Value -> Shared -> Prop} {f : Value -> Value -> Sem Value}
    (hf : ∀ v u s2 x y H2, Inv X pins σ H2 s2 -> RelV x v -> RelV y u -> R x y H2 -> wpAny (model X.prog X.w) X.A (f v u) Q X.xe s2) :
    wpAny (model X.prog X.w) X.A (eval a X.env) (fun v s₁ => wpAny (model X.prog X.w) X.A (eval b X.env) (fun u s₂ => wpAny (model X.prog X.w) X.A (f v u) Q X.xe s₂) X.xe s₁) X.xe s := by
  refine thn (ha pins s σ H _ I h) fun v s1 ⟨x, H1, I1, r1, q1⟩ => ?_
  refine thn (hb pins s1 σ H1 _ I1 q1) fun u s2 ⟨y, H2, I2, r2, q2⟩ => ?_
  exact hf v u s2 x y H2 I2 r1 r2 q2
theorem K4 {op : Operator} {r : R2} (ho : OpR X (binaryOp op) r) (ha : PE X a ta) (hb : PE X b tb) : PE X (.BinOp a op b pos) (tOp r ta tb) := by
  intro pins s σ H Q I h
  exact wpAny_BinOp (binT ha hb I h fun v u s2 x y H2 I2 rx ry q => ho pins s2 σ H2 x y v u Q I2 rx ry q)
theorem C1h {op : UnaryOp} {r : V -> Hp -> VK -> Prop} (ho : UnR X (unaryOp op) r) (ha : PE X a ta) : PE X (.UnaryOp op a pos) (tUn r ta) := by
  intro pins s σ H Q I h
  exact UnaryOp_ (thn (ha pins s σ H _ I h) fun v s1 ⟨x, H1, I1, r1, q1⟩ => ho pins s1 σ H1 x v Q I1 r1 q1)
theorem opI {f : Value -> Value -> Sem Value} {C : Int -> Int -> Prop} {g : Int -> Int -> Int}
    (rule : ∀ (i j : Int) (t u : Tok) (s : Shared) (Q : Value -> Shared -> Prop) (E : Value -> Shared -> Prop), C i j -> Q (.int (g i j) s.toks) { s with toks := s.toks + 1 } -> wpAny (model X.prog X.w) X.A (f (.int i t) (.int j u)) Q E s) :
    OpR X f (rI C fun i j => .int (g i j)) := by
  intro pins s σ H x y v u Q I rx ry h
  obtain ⟨i, j, rfl, rfl, hc, q⟩ := h
  obtain ⟨t, rfl⟩ := rx
  obtain ⟨t', rfl⟩ := ry
  exact rule i j t t' s _ _ hc ⟨.int (g i j), H, I.tok _, ⟨_, rfl⟩, q⟩
theorem opI0 {f : Value -> Value -> Sem Value} {g : Int -> Int -> Int}
    (rule : ∀ (i j : Int) (t u : Tok) (s : Shared) (Q : Value -> Shared -> Prop) (E : Value -> Shared -> Prop), Q (.int (g i j) s.toks) { s with toks := s.toks + 1 } -> wpAny (model X.prog X.w) X.A (f (.int i t) (.int j u)) Q E s) :
    OpR X f (rI0 fun i j => .int (g i j)) := by
  intro pins s σ H x y v u Q I rx ry h
  obtain ⟨i, j, rfl, rfl, q⟩ := h
  obtain ⟨t, rfl⟩ := rx
  obtain ⟨t', rfl⟩ := ry
  exact rule i j t t' s _ _ ⟨.int (g i j), H, I.tok _, ⟨_, rfl⟩, q⟩
theorem opB0 {f : Value -> Value -> Sem Value} {g : Int -> Int -> Bool}
    (rule : ∀ (i j : Int) (t u : Tok) (s : Shared) (Q : Value -> Shared -> Prop) (E : Value -> Shared -> Prop), Q (.bool (g i j)) s -> wpAny (model X.prog X.w) X.A (f (.int i t) (.int j u)) Q E s) :
    OpR X f (rI0 fun i j => .bl (g i j)) := by
  intro pins s σ H x y v u Q I rx ry h
  obtain ⟨i, j, rfl, rfl, q⟩ := h
  obtain ⟨t, rfl⟩ := rx
  obtain ⟨t', rfl⟩ := ry
  exact rule i j t t' s _ _ ⟨.bl (g i j), H, I, rfl, q⟩
def CPow (i j : Int) : Prop := 0 <= j /\ j <= 1000000 /\ i.natAbs < 2 ^ 64
theorem F0 : OpR X (binaryOp .Add) (rI0 fun i j => .int (i + j)) := opI0 fun _ _ _ _ _ _ _ q => add_int q
theorem A2s : OpR X (binaryOp .Sub) (rI0 fun i j => .int (i - j)) := opI0 fun _ _ _ _ _ _ _ q => sub_int q
theorem L5 : OpR X (binaryOp .Mod) (rI (fun _ j => 0 < j) fun i j => .int (i % j)) := opI fun i j _ _ _ _ _ hc q => by
  have h1 : (0 : Int) < j := hc
  exact mod_int' (by omega) (by rw [Int.fmod_eq_emod_of_nonneg i (by omega)]; exact q)
theorem A69 : OpR X (binaryOp .Pow) (rI CPow fun i j => .int (i ^ j.toNat)) := opI fun _ _ _ _ _ _ _ hc q => pow_int_small hc.1 hc.2.1 hc.2.2 q
theorem unI {f : Value -> Sem Value} {g : Int -> Int}
    (rule : ∀ (i : Int) (t : Tok) (s : Shared) (Q : Value -> Shared -> Prop) (E : Value -> Shared -> Prop), Q (.int (g i) s.toks) { s with toks := s.toks + 1 } -> wpAny (model X.prog X.w) X.A (f (.int i t)) Q E s) :
    UnR X f (rU fun i => .int (g i)) := by
  intro pins s σ H x v Q I rx h
  obtain ⟨i, rfl, q⟩ := h
  obtain ⟨t, rfl⟩ := rx
  exact rule i t s _ _ ⟨.int (g i), H, I.tok _, ⟨_, rfl⟩, q⟩
theorem A10 : UnR X (unaryOp .USub) (rU fun i => .int (-i)) := unI fun _ _ _ _ _ q => neg_int q
end
section
variable {X : Cx} {a b c : Expr} {ta tb tc : TE} {pos : Pos}
theorem C0k {pins : List (Addr × Obj)} {σ : St} {H : Hp} {s : Shared} {Q : VK} {k k' : Bool} (I : Inv X pins σ H s) (q : Q (.bl k) H) (e : k = k') : EP X pins σ Q (.bool k') s := by
  subst e
  exact ⟨.bl k, H, I, rfl, q⟩
theorem B1h : OpR X (compareOp .Lt) (rI0 fun i j => .bl (decide (i < j))) := opB0 fun _ _ _ _ _ _ _ q => lt_int q
theorem A4i : OpR X (compareOp .Gt) (rI0 fun i j => .bl (decide (j < i))) := opB0 fun _ _ _ _ _ _ _ q => gt_int q
theorem C1p : OpR X (compareOp .GtE) (rI0 fun i j => .bl (decide (j <= i))) := opB0 fun _ _ _ _ _ _ _ q => ge_int q
theorem B9l : OpR X (compareOp .Is) (fun x y H Q => y = .non /\ Q (.bl (decide (x = .non))) H) := by
  intro pins s σ H x y v u Q I rx ry h
  obtain ⟨rfl, q⟩ := h
  cases ry
  refine is_none_gen (C0k I q ?_)
  cases x <;> first
    | (cases rx; rfl)
    | (obtain ⟨t, rfl⟩ := rx; rfl)
theorem C6 (b : Expr) {op : CmpOp} (h : op ≠ .In := by decide) (h2 : op ≠ .NotIn := by decide) : behindInMarks op b = false := by
  have e1 : (op == CmpOp.In) = false := by cases op <;> first | rfl | exact absurd rfl h
  have e2 : (op == CmpOp.NotIn) = false := by cases op <;> first | rfl | exact absurd rfl h2
  cases b <;> simp [behindInMarks, e1, e2]
theorem W7 {op : CmpOp} {r : R2} (ho : OpR X (compareOp op) r) (ha : PE X a ta) (hb : PE X b tb) (hm : behindInMarks op b = false) : PE X (.Compare a [op] [b] pos) (tOp r ta tb) := by
  intro pins s σ H Q I h
  exact wpAny_Compare1 (binT ha hb I h fun v u s2 x y H2 I2 rx ry q => ho pins s2 σ H2 x y v u Q I2 rx ry q) hm
def B5i (t : TE) : TT := fun σ H Q => t σ H fun x H' => ∃ k, x = .bl k /\ Q k H'
theorem A5v {op : CmpOp} {r : R2} (ho : OpR X (compareOp op) r) (ha : PE X a ta) (hb : PE X b tb) (hm : behindInMarks op b = false) : PT X (.Compare a [op] [b] pos) (B5i (tOp r ta tb)) := by
  intro pins s σ H Q I h
  refine wpAny_isTrue_Compare1 (thn (ha pins s σ H _ I h) fun v s1 ⟨x, H1, I1, r1, q1⟩ => thn (hb pins s1 σ H1 _ I1 q1) fun u s2 ⟨y, H2, I2, r2, q2⟩ =>
    thn (ho pins s2 σ H2 x y v u _ I2 r1 r2 q2) fun c s3 ⟨z, H3, I3, r3, k, e, q3⟩ => ?_) hm
  subst e
  cases r3
  exact wpAny_truthy_bool ⟨H3, I3, q3⟩
theorem U7 : (sizeLine : Nat) < 2 ^ 63 := by rw [sizeLine_eq]; decide
theorem A1d {x : V} {us : List Value} (r : Vals [x] us) : ∃ u, us = [u] /\ RelV x u := by
  cases r with
  | cons r1 r2 => cases r2; exact ⟨_, rfl, r1⟩
theorem B7y {x y : V} {us : List Value} (r : Vals [x, y] us) : ∃ u w', us = [u, w'] /\ RelV x u /\ RelV y w' := by
  cases r with
  | cons r1 r2 =>
    cases r2 with
    | cons r3 r4 => cases r4; exact ⟨_, _, rfl, r1, r3⟩
theorem B2a : CallR X (.builtin "abs") (fun xs H Q => ∃ i, xs = [.int i] /\ Q (.int (if i < 0 then -i else i)) H) := by
  intro pins s σ H xs us Q I r h
  obtain ⟨i, rfl, q⟩ := h
  obtain ⟨u, rfl, t, rfl⟩ := A1d r
  exact call_abs_int fun u tk => ⟨.int (if i < 0 then -i else i), H, I.tok _, ⟨_, rfl⟩, q⟩
theorem A99 (hc : X.calm = true) : CallR X (.builtin "max") (fun xs H Q => ∃ i j, xs = [.int i, .int j] /\ Q (.int (if j > i then j else i)) H) := by
  intro pins s σ H xs us Q I r h
  obtain ⟨i, j, rfl, q⟩ := h
  obtain ⟨u, w', rfl, ⟨t, rfl⟩, ⟨t', rfl⟩⟩ := B7y r
  refine max_two_ints (I.ok.hd hc) fun h' tk k => ⟨_, H, I.kept k, ?_, q⟩
  by_cases hj : j > i
  · rw [if_pos hj, if_pos hj]; exact ⟨_, rfl⟩
  · rw [if_neg hj, if_neg hj]; exact ⟨_, rfl⟩
theorem A97 (hc : X.calm = true) : CallR X (.builtin "min") (fun xs H Q => ∃ i j, xs = [.int i, .int j] /\ Q (.int (if j < i then j else i)) H) := by
  intro pins s σ H xs us Q I r h
  obtain ⟨i, j, rfl, q⟩ := h
  obtain ⟨u, w', rfl, ⟨t, rfl⟩, ⟨t', rfl⟩⟩ := B7y r
  refine min_two_ints (I.ok.hd hc) fun h' tk k => ⟨_, H, I.kept k, ?_, q⟩
  by_cases hj : j < i
  · rw [if_pos hj, if_pos hj]; exact ⟨_, rfl⟩
  · rw [if_neg hj, if_neg hj]; exact ⟨_, rfl⟩
theorem A0z : CallR X (.type "int") (fun xs H Q => (∃ i, xs = [.int i] /\ Q (.int i) H) \/ ∃ k, xs = [.bl k] /\ Q (.int (if k then 1 else 0)) H) := by
  intro pins s σ H xs us Q I r h
  rcases h with ⟨i, rfl, q⟩ | ⟨k, rfl, q⟩
  · obtain ⟨u, rfl, t, rfl⟩ := A1d r
    exact call_int_int ⟨.int i, H, I, ⟨_, rfl⟩, q⟩
  · obtain ⟨u, rfl, r1⟩ := A1d r
    cases r1
    exact call_int_bool ⟨.int (if k then 1 else 0), H, I.tok _, ⟨_, rfl⟩, q⟩
end
end L2
namespace L2
open PySem PySem.Spec PyProof.Rows
section
variable {prog : Program} {w : World} {A : Around} {E : Value -> Shared -> Prop} {s : Shared} {K : PySem.W.Frag} {x dx C f : Addr} {mA : Str -> Option Value} {name : Str} {v : Value}
end
theorem RelO.none_of {o : Option Value} (r : RelO none o) : o = none := by
  cases o with
  | none => rfl
  | some u => exact (show False from r).elim
section
variable {P : Program} {w : World} {H H' : Hp} {h h' : Heap} {a C dx : Addr} {fs fs' : List (Str × V)}
end
structure Cls (K : PySem.W.Frag) (C : Addr) : Prop where
  pg : PySem.W.plainGet K C Str.empty = true
  hd : PySem.W.hasDictIn K C = true
  po : PySem.W.plainOver K C = true
  sa : PySem.W.findIn K (.ref C) "__setattr__" = some (some (.builtin "object.__setattr__"))
theorem Cls.get {K : PySem.W.Frag} {C : Addr} (c : Cls K C) (f : Str) : PySem.W.plainGet K C f = true := c.pg
section
variable {X : Cx} {pins : List (Addr × Obj)} {σ : St} {H : Hp} {s : Shared} {a C dx : Addr} {fs : List (Str × V)} {f : Str} {v : V} {A : Around} {E : Value -> Shared -> Prop}
end
section
variable {X : Cx} {o e value : Expr} {f : Str} {pos pos' tpos : Pos} {ta tv : TE}
end
section
variable {X : Cx} {pins : List (Addr × Obj)} {σ : St} {H : Hp} {s : Shared} {A : Around} {E : Value -> Shared -> Prop} {Q : Value -> Shared -> Prop} {c : Value} {b : Bool}
end
end L2
namespace L2
open PySem PySem.Spec PyProof.Rows
structure Room (k : Nat) (A : Around) : Prop where
  hd : A.handled = none
  gd : A.guards = some []
  dp : A.depth + 3 * k + 5 < recursionLimit
  un : A.units + 16 * k + 200 < cLine
theorem Room.mono {j k : Nat} {A : Around} (r : Room k A) (h : j <= k) : Room j A := ⟨r.hd, r.gd, by have := r.dp; omega, by have := r.un; omega⟩
theorem Room.mo {j k : Nat} {A : Around} (r : Room k A) (h : j <= k := by first | decide | omega) : Room j A := r.mono h
theorem Room.deeper {k : Nat} {A : Around} (r : Room (k + 1) A) (env : Env) : Room k (A.deeper env) :=
  ⟨r.hd, r.gd, by have := r.dp; show A.depth + 1 + 3 * k + 5 < _; omega, by have := r.un; show A.units + 3 + 16 * k + 200 < _; omega⟩
theorem Room.depth {k : Nat} {A : Around} (r : Room k A) : A.depth < recursionLimit := by have := r.dp; omega
theorem Room.units {k : Nat} {A : Around} (r : Room k A) : A.units + 64 < cLine := by have := r.un; omega
def tNil : TA := fun _ H Q => Q [] H
def K1 (ta : TE) (tr : TA) : TA := fun σ H Q => ta σ H fun x H1 => tr σ H1 fun xs H2 => Q (x :: xs) H2
section
variable {X : Cx} {e : Expr} {es : List Expr} {te : TE} {t : TA} {pos : Pos}
theorem O0 : PA X [] tNil := fun _ _ _ _ H Q I h => Calls.spliced_nil ⟨[], H, I, .nil, h⟩
theorem I0 (ha : PE X e te) (hr : PA X es t) (hs : starEach (e :: es) X.env = (false, eval e X.env) :: starEach es X.env := by rfl) : PA X (e :: es) (K1 te t) := by
  intro pos pins s σ H Q I h
  rw [hs]
  show wpAny _ _ (spliced ((false, eval e X.env) :: backTo pos (starEach es X.env))) _ _ s
  refine Calls.spliced_cons (thn (ha pins s σ H _ I h) fun u s1 ⟨x, H1, I1, r1, q1⟩ => ?_)
  exact thn (hr pos pins s1 σ H1 _ I1 q1) fun us s2 ⟨xs, H2, I2, r2, q2⟩ => ⟨x :: xs, H2, I2, .cons r1 r2, q2⟩
def tTup (t : TA) : TE := fun σ H Q => t σ H fun xs H1 => xs.length <= sizeLine /\ ∀ p, H1 p = none -> Q (.ref p) (upd H1 p (.tup xs))
def tLst (t : TA) : TE := fun σ H Q => t σ H fun xs H1 => xs.length <= sizeLine /\ ∀ p, H1 p = none -> Q (.ref p) (upd H1 p (.lst xs))
theorem B20 {x1} (h : PA X es t) : PE X (.Tuple es x1 pos) (tTup t) := by
  intro pins s σ H Q I hq
  refine wpAny_Tuple_spliced (thn (h pos pins s σ H _ I hq) fun us s1 ⟨xs, H1, I1, r, z, q⟩ => ⟨by rw [<- r.length]; exact z, ?_⟩)
  have hf : H1 s1.heap.objs.size = none := I1.hok.fresh (Nat.le_refl _)
  refine ⟨.ref s1.heap.objs.size, upd H1 s1.heap.objs.size (.tup xs), I1.laid (t' := s1.toks) (fun b u e => Heap.get?_push_of_some _ e) (Nat.le_refl _) ?_, rfl, q _ hf⟩
  exact ⟨z, us, r, ⟨_, Heap.get?_push_size _ rfl, rfl, _, rfl⟩⟩
theorem B23 (h : PA X es t) : PE X (.List es pos) (tLst t) := by
  intro pins s σ H Q I hq
  refine wpAny_List_spliced (thn (h pos pins s σ H _ I hq) fun us s1 ⟨xs, H1, I1, r, z, q⟩ => ⟨by rw [<- r.length]; exact z, ?_⟩)
  have hf : H1 s1.heap.objs.size = none := I1.hok.fresh (Nat.le_refl _)
  refine ⟨.ref s1.heap.objs.size, upd H1 s1.heap.objs.size (.lst xs), I1.laid (t' := s1.toks) (fun b u e => Heap.get?_push_of_some _ e) (Nat.le_refl _) ?_, rfl, q _ hf⟩
  exact ⟨z, us, 0, r, Heap.get?_push_size _ rfl⟩
end
abbrev Sp := List V -> Hp -> VK -> XK -> Prop
abbrev CXT := List Env -> Hp -> Shared -> XK -> Value -> Shared -> Prop
structure Env0 (P : Program) (w : World) (K : PySem.W.Frag) (mg : Str -> Option Value) (base : Heap) (A : Around) (outer : List Env) (s : Shared) (H : Hp) : Prop where
  frames : A.frames = some outer
  mod : Mod K mg base
  bs : ∀ b o, base.get? b = some o -> s.heap.get? b = some o /\ H b = none
  bsz : base.objs.size <= s.heap.objs.size
  funs : s.heap.FunFrames base outer
  frf : ∀ b ∈ frs outer, H b = none
  hok : HOk P w H s.heap
  bare : AllBare s.gens
def CE (outer : List Env) (P : Program) (w : World) (H : Hp) (s : Shared) (Q : VK) (u : Value) (s' : Shared) : Prop :=
  ∃ v H', s'.os = s.os /\ AllBare s'.gens /\ Un (frs outer) [] H H' s.heap s'.heap /\ HOk P w H' s'.heap /\ RelV v u /\ Q v H'
def CR (CX : CXT) (outer : List Env) (P : Program) (w : World) (H : Hp) (s : Shared) (Q : VK) (E : XK) (r : Result) (s' : Shared) : Prop :=
  match r with
  | .ok (.ret u) => CE outer P w H s Q u s'
  | .ok _ => False
  | .error e => CX outer H s E e s'
structure FnOk (P : Program) (w : World) (K : PySem.W.Frag) (mg : Str -> Option Value) (base : Heap) (CX : CXT) (k : Nat) (f : Addr) (fd : FuncData) (ps : List Str) (sp : Sp) : Prop where
  len : ∀ vs H Q E, sp vs H Q E -> vs.length = ps.length
  run : ∀ (A : Around) (outer : List Env) (s : Shared) (H : Hp) (args : Args) (us : List Value) (vs : List V) (Q : VK) (E : XK), Room k A -> Env0 P w K mg base A outer s H -> BindsTo s fd args (ps.zip us) -> Vals vs us -> sp vs H Q E ->
    codeAny (model P w) A (.call (.ref f) args) (CR CX outer P w H s Q E) s
theorem FnOk.imp {P : Program} {w : World} {K : PySem.W.Frag} {mg : Str -> Option Value} {base : Heap} {CX : CXT} {k : Nat} {f : Addr} {fd : FuncData} {ps : List Str} {sp sp' : Sp} (F : FnOk P w K mg base CX k f fd ps sp)
    (h : ∀ vs H Q E, sp' vs H Q E -> sp vs H Q E) : FnOk P w K mg base CX k f fd ps sp' :=
  ⟨fun vs H Q E q => F.len vs H Q E (h _ _ _ _ q), fun A outer s H args us vs Q E hr he hb hv hs => F.run A outer s H args us vs Q E hr he hb hv (h _ _ _ _ hs)⟩
section
variable {X : Cx} {pins : List (Addr × Obj)} {σ : St} {H : Hp} {s s' : Shared}
theorem Inv.env0 (I : Inv X pins σ H s) : Env0 X.prog X.w X.K X.mg X.base X.A X.stack s H :=
  ⟨I.ok.frames, I.ok.mod, I.bs, Nat.le_trans I.ok.bsz I.sz, I.stack, I.stkFree, I.hok, I.bare⟩
theorem Inv.after {Q : VK} {u : Value} (I : Inv X pins σ H s) (h : CE X.stack X.prog X.w H s Q u s') : EP X pins σ Q u s' := by
  obtain ⟨v, H', os, bare, un, hok, r, q⟩ := h
  obtain ⟨hh, g, d, t, os'⟩ := s'
  obtain rfl : os' = s.os := os
  exact ⟨v, H', I.call (h' := hh) (g' := g) (d' := d) (t' := t) (ch := []) un hok bare (fun b z => absurd z (by simp)), r, q⟩
end
def A38 (sp : Sp) (dvs : List V) (E : XK) (t : TA) : TE := fun σ H Q => t σ H fun vs H1 => sp (vs ++ dvs) H1 Q E
def Binds (K : PySem.W.Frag) (fd : FuncData) (ps : List Str) (ds : List Value) : Prop :=
  ∀ (s : Shared) (us : List Value), K.In s.heap -> (us ++ ds).length = ps.length -> BindsTo s fd ⟨us, []⟩ (ps.zip (us ++ ds))
theorem Binds.all {K : PySem.W.Frag} {fd : FuncData} {ps : List Str} (h : ∀ us : List Value, us.length = ps.length -> bindArgs fd ⟨us, []⟩ = pure (ps.zip us)) : Binds K fd ps [] := fun s us _ hl => by
  rw [List.append_nil] at hl ⊢
  exact .of_eq (h us hl)
def V6 (CX : CXT) (X : Cx) (E : XK) : Prop := ∀ (pins : List (Addr × Obj)) (σ : St) (H : Hp) (s : Shared) (e : Value) (s' : Shared), Inv X pins σ H s -> CX X.stack H s E e s' -> X.xe e s'
section
variable {X : Cx} {CX : CXT} {k : Nat} {f C : Addr} {fd : FuncData} {ps : List Str} {sp : Sp} {dvs : List V} {ds : List Value} {E : XK} {x m : Str} {p pos apos : Pos} {e o : Expr} {es : List Expr} {ta : TE} {t : TA}
theorem B2u {pins : List (Addr × Obj)} {σ : St} {H : Hp} {s : Shared} {Q : VK} {us : List Value} {vs : List V} (F : FnOk X.prog X.w X.K X.mg X.base CX k f fd ps sp) (hr : Room k X.A) (hb : Binds X.K fd ps ds) (hd : Vals dvs ds) (hx : V6 CX X E)
    (I : Inv X pins σ H s) (r : Vals vs us) (h : sp (vs ++ dvs) H Q E) : wpAny (model X.prog X.w) X.A (call (.ref f) us) (EP X pins σ Q) X.xe s := by
  have r2 : Vals (vs ++ dvs) (us ++ ds) := r.append hd
  have hl : (us ++ ds).length = ps.length := by rw [<- r2.length]; exact F.len _ _ _ _ h
  refine wpAny_call (codeAny_mono (F.run X.A X.stack s H ⟨us, []⟩ (us ++ ds) (vs ++ dvs) Q E hr I.env0 (hb s us I.kIn hl) r2 h) fun r s' hq => ?_)
  cases r with
  | error e => exact hx pins σ H s e s' I hq
  | ok fl =>
    cases fl with
    | ret u => exact I.after hq
    | next => exact False.elim hq
    | brk => exact False.elim hq
    | cont => exact False.elim hq
theorem B6c (F : FnOk X.prog X.w X.K X.mg X.base CX k f fd ps sp) (hr : Room k X.A) (hg : Gl X x) (hm : X.mg x = some (.ref f)) (hk : PySem.W.keepIn X.K (.ref f) = true) (hb : Binds X.K fd ps ds) (hd : Vals dvs ds) (hx : V6 CX X E)
    (ha : PA X (e :: es) t) (hdb : (x == ("__debug__" : Str)) = false := by decide) (he : starEach (e :: es) X.env = (false, eval e X.env) :: starEach es X.env := by rfl) (hpl : (backTo pos (starEach es X.env)).any (·.1) = false := by rfl) :
    PE X (.Call (.Name x p) (e :: es) [] pos) (A38 sp dvs E t) := by
  intro pins s σ H Q I h
  refine wpAny_Call_Name_kw (P2 I hg hm ?_ hdb)
  refine PySem.W.callWith_K (h₀ := X.base) I.ok.mod.kin hk (thn (ha pos pins s σ H _ I h) fun us s1 ⟨vs, H1, I1, r, q⟩ => ⟨I1.kIn, ?_⟩) he hpl
  exact B2u F hr hb hd hx I1 r q
end
section
variable {X : Cx} {CX : CXT} {k : Nat} {f C : Addr} {fd : FuncData} {ps ks : List Str} {sp : Sp} {E : XK} {x m : Str} {p pos apos kpos : Pos} {e o : Expr} {es : List Expr} {kws : List Keyword} {te ta : TE} {t tk : TA} {nm : Option Str}
variable {g : List Value -> List Value -> List Value} {gV : List V -> List V -> List V}
end
structure FnScope (N P : List Str) (sc : Scope) : Prop where
  kind : sc.kind = .function
  co : sc.isCoroutine = false
  gen : sc.isGenerator = false
  nd : N.Nodup
  pre : N.take P.length = P
  par : ∀ x ∈ P, sc.names.lookup x = some .local \/ sc.names.lookup x = some .cell
  nofree : ∀ y ∈ sc.names, y.2 ≠ .free
theorem A03 {kindOf : Str -> Option NameKind} {x : Str} : ∀ {binds : List (Str × Value)} {m : Str -> Option Value}, (∀ v, (x, v) ∉ binds) -> bindL kindOf binds m x = m x
  | [], _, _ => rfl
  | (n, v) :: r, m, h => by
    unfold bindL
    rw [A03 fun w hw => h w (List.mem_cons_of_mem _ hw)]
    split
    · have : x ≠ n := by rintro rfl; exact h v List.mem_cons_self
      simp [this]
    · rfl
theorem A05 {kindOf : Str -> Option NameKind} {x : Str} : ∀ {binds : List (Str × Value)} {m : Str -> Option Value}, (∀ v, (x, v) ∉ binds) -> bindC kindOf binds m x = m x
  | [], _, _ => rfl
  | (n, v) :: r, m, h => by
    unfold bindC
    rw [A05 fun w hw => h w (List.mem_cons_of_mem _ hw)]
    split
    · rfl
    · have : x ≠ n := by rintro rfl; exact h v List.mem_cons_self
      simp [this]
theorem A04 {kindOf : Str -> Option NameKind} {x : Str} {v : Value} : ∀ {P : List Str} {vs : List Value} {i : Nat} {m : Str -> Option Value}, P.Nodup -> P[i]? = some x -> vs[i]? = some v -> kindOf x = some .local ->
    bindL kindOf (P.zip vs) m x = some v
  | [], _, _, _, _, h, _, _ => by simp at h
  | _ :: _, [], _, _, _, _, h, _ => by simp at h
  | p :: P, w :: vs, 0, m, nd, h1, h2, hk => by
    simp at h1 h2; subst h1; subst h2
    show bindL kindOf ((p, w) :: P.zip vs) m p = _
    unfold bindL
    rw [A03 fun v hv => (List.nodup_cons.mp nd).1 (List.of_mem_zip hv).1, if_pos hk]
    simp
  | p :: P, w :: vs, i + 1, m, nd, h1, h2, hk => by
    show bindL kindOf ((p, w) :: P.zip vs) m x = _
    unfold bindL
    exact A04 (i := i) (List.nodup_cons.mp nd).2 (by simpa using h1) (by simpa using h2) hk
theorem A06 {kindOf : Str -> Option NameKind} {x : Str} {v : Value} : ∀ {P : List Str} {vs : List Value} {i : Nat} {m : Str -> Option Value}, P.Nodup -> P[i]? = some x -> vs[i]? = some v -> kindOf x ≠ some .local ->
    bindC kindOf (P.zip vs) m x = some v
  | [], _, _, _, _, h, _, _ => by simp at h
  | _ :: _, [], _, _, _, _, h, _ => by simp at h
  | p :: P, w :: vs, 0, m, nd, h1, h2, hk => by
    simp at h1 h2; subst h1; subst h2
    show bindC kindOf ((p, w) :: P.zip vs) m p = _
    unfold bindC
    rw [A05 fun v hv => (List.nodup_cons.mp nd).1 (List.of_mem_zip hv).1, if_neg hk]
    simp
  | p :: P, w :: vs, i + 1, m, nd, h1, h2, hk => by
    show bindC kindOf ((p, w) :: P.zip vs) m x = _
    unfold bindC
    exact A06 (i := i) (List.nodup_cons.mp nd).2 (by simpa using h1) (by simpa using h2) hk
def start (N : List Str) (vs : List V) : St := vs.map some ++ List.replicate (N.length - vs.length) none
def cxOf (CX : CXT) (P : Program) (w : World) (K : PySem.W.Frag) (mg : Str -> Option Value) (base : Heap) (N : List Str) (qual : Str) (scope : Scope) (f : Addr) (cd : Value) (A : Around) (outer : List Env) (s : Shared) (H : Hp) (E : XK) : Cx where
  prog := P
  w := w
  K := K
  mg := mg
  base := base
  A := A.deeper (envOfC qual scope s.heap.objs.size f cd)
  N := N
  s₀ := s
  H₀ := H
  env := envOfC qual scope s.heap.objs.size f cd
  outer := outer
  stack := envOfC qual scope s.heap.objs.size f cd :: outer
  ex := []
  calm := true
  fn := fun _ => true
  pn := []
  xe := fun e s' => wpAny (model P w) (A.deeper (envOfC qual scope s.heap.objs.size f cd)) (leaving (envOfC qual scope s.heap.objs.size f cd) e) (fun _ s'' => CX outer H s E e s'') (fun e' s'' => CX outer H s E e' s'') s'
theorem A3t {sc : Scope} {n : Nat} {x : Str} (h : sc.names.lookup x = some .cell) : ∃ c, (cellsFrom n sc.names []).lookup x = some c := by
  have q := PySem.W.cellsFrom_some sc.names n [] (.inl h)
  exact Option.isSome_iff_exists.mp q
theorem A9f {CX : CXT} {P : Program} {w : World} {K : PySem.W.Frag} {mg : Str -> Option Value} {base : Heap} {N ps : List Str} {qual : Str} {scope : Scope} {f : Addr} {cd : Value} {A : Around} {outer : List Env} {s s1 : Shared} {H : Hp} {E : XK} {us : List Value} {vs : List V}
    (S : FnScope N ps scope) (hd : A.handled = none) (e0 : Env0 P w K mg base A outer s H) (hl : vs.length = ps.length) (r : Vals vs us)
    (x : InCallC s s.heap.objs.size (bindL (envOfC qual scope s.heap.objs.size f cd).kindOf (ps.zip us) fun _ => none) (cellsFrom (s.heap.objs.size + 1) scope.names []) (bindC (envOfC qual scope s.heap.objs.size f cd).kindOf (ps.zip us) fun _ => none) s1) :
    Inv (cxOf CX P w K mg base N qual scope f cd A outer s H E) [] (start N vs) H s1 := by
  have hpl : ps.length <= N.length := by have := congrArg List.length S.pre; rw [List.length_take] at this; omega
  obtain ⟨h1, tk, rfl, hk⟩ := x.done
  have noA : ∀ b : Addr, b ∉ (cxOf CX P w K mg base N qual scope f cd A outer s H E).ex := fun b z => absurd (show b ∈ ([] : List Addr) from z) (by simp)
  refine ⟨⟨e0.mod, S.kind, rfl, rfl, Nat.le_refl _, fun y z c h1 h2 => ?_, fun y hy => ?_, fun y c _ h => ?_, fun _ => hd, Around.frames_deeper e0.frames, .inr ⟨rfl, rfl⟩, fun b z => absurd z (noA b), e0.bs, e0.bsz, fun b _ _ => noA b, fun b z => absurd z (noA b), e0.funs, e0.frf⟩,
    rfl, e0.bare, Un.kept hk, ⟨_, x.toInCall.ns, fun i y v h1 h2 h3 => ?_⟩, fun y c h => ⟨_, x.cell y c h⟩, e0.hok.fresh (Nat.le_refl _), fun y c h => ?_, fun p hp => absurd (show p ∈ ([] : List (Addr × Obj)) from hp) (by simp), e0.hok.kept hk, ?_⟩
  · exact name_of_addr x.apart (PySem.mem_of_lookup h1) (PySem.mem_of_lookup h2)
  · have hy : scope.names.lookup y = some .cell \/ scope.names.lookup y = some .free := hy
    rcases hy with hy | hy
    · exact A3t hy
    · exact absurd rfl (S.nofree _ (PySem.mem_of_lookup hy))
  · exact Nat.le_of_lt (x.above y c (PySem.mem_of_lookup h))
  · have hi : i < vs.length := by
      unfold start at h2
      by_cases hi : i < vs.length
      · exact hi
      · rw [List.getElem?_append_right (by simpa using hi)] at h2
        rw [List.getElem?_replicate] at h2
        split at h2 <;> cases h2
    have ha : vs[i]? = some v := by
      unfold start at h2
      rw [List.getElem?_append_left (by simpa using hi), List.getElem?_map] at h2
      cases e : vs[i]? with
      | none => rw [e] at h2; cases h2
      | some a => rw [e] at h2; cases h2; rfl
    obtain ⟨u, hu, rv⟩ := r.get ha
    have hp : ps[i]? = some y := by
      rw [<- S.pre, List.getElem?_take_of_lt (by omega)]; exact h1
    have ndP : ps.Nodup := by rw [<- S.pre]; exact S.nd.sublist (List.take_sublist _ _)
    refine ⟨u, rv, ?_⟩
    rcases S.par y (List.mem_of_getElem? hp) with k | k
    · exact .inl ⟨k, A04 ndP hp hu k⟩
    · obtain ⟨c, e⟩ := A3t (n := s.heap.objs.size + 1) k
      refine .inr ⟨.inl k, c, e, ?_⟩
      have q := x.cell y c e
      rw [A06 ndP hp hu (by show scope.names.lookup y ≠ _; rw [k]; decide)] at q
      exact q
  · exact e0.hok.fresh (Nat.le_of_lt (x.above y c (PySem.mem_of_lookup h)))
  · unfold start
    show _ = N.length
    rw [List.length_append, List.length_map, List.length_replicate]
    omega
theorem C0j {CX : CXT} {P : Program} {w : World} {K : PySem.W.Frag} {mg : Str -> Option Value} {base : Heap} {k : Nat} {f : Addr} {name qual : Str} {params : Arguments} {body : List Stmt} {scope : Scope} {dV kV doc pm cdv ct oc : Value} {an od : Option Addr}
    {osl : Array (Option Value)} {N ps : List Str} {sp : Sp} (lk : K.lookup f = some ⟨oc, od, .func (PySem.W.fnOf name qual params body scope dV kV doc pm an cdv ct), osl⟩) (hcd : PySem.W.codeIn K cdv qual = true) (S : FnScope N ps scope)
    (len : ∀ vs H Q E, sp vs H Q E -> vs.length = ps.length)
    (hbody : ∀ (A : Around) (outer : List Env) (s : Shared) (H : Hp) (vs : List V) (Q : VK) (E : XK), Room k (A.deeper (envOfC qual scope s.heap.objs.size f cdv)) -> sp vs H Q E ->
      ∃ t, PSs (cxOf CX P w K mg base N qual scope f cdv A outer s H E) body t /\ t { nx := fun _ H' => Q .non H', rt := Q } (start N vs) H) :
    FnOk P w K mg base CX (k + 1) f (PySem.W.fnOf name qual params body scope dV kV doc pm an cdv ct) ps sp := by
  refine ⟨len, fun A outer s H args us vs Q E hr e0 hb r hsp => ?_⟩
  have hl := len _ _ _ _ hsp
  have KX : K.In s.heap := e0.mod.kin.keeps fun b o e => (e0.bs b o e).1
  have lim : s.heap.NoLimit := e0.mod.nolimit.keeps fun b o e => (e0.bs b o e).1
  have hkind : ∀ y ∈ ps.zip us, scope.names.lookup y.1 = some .local \/ (scope.names.lookup y.1 = some .cell /\ ((cellsFrom (s.heap.objs.size + 1) scope.names []).lookup y.1).isSome = true) := fun ⟨n, v⟩ hy => by
    rcases S.par n (List.of_mem_zip hy).1 with q | q
    · exact .inl q
    · exact .inr ⟨q, PySem.W.cellsFrom_some _ _ _ (.inl q)⟩
  refine codeAny_call_function hr.depth (KX _ _ lk) rfl S.co S.gen rfl (PySem.W.codeRec_of KX hcd) (hb _ _ _ _ ?_)
  refine wpAny_newFunctionEnv_cells S.kind hkind fun env he s1 x => ?_
  subst he
  refine ⟨lim.keeps x.toInCall.keep, codeAny_func ?_⟩
  obtain ⟨t, ht, hq⟩ := hbody A outer s H vs Q E (hr.deeper _) hsp
  have I : Inv (cxOf CX P w K mg base N qual scope f cdv A outer s H E) [] (start N vs) H s1 := A9f S hr.hd e0 hl r x
  refine wpAny_mono (ht [] s1 (start N vs) H _ I hq) (fun fl s' hs => ?_) fun e s' hs => hs
  have fin : ∀ {σ' : St} {H' : Hp} {v : V} {u : Value}, Inv (cxOf CX P w K mg base N qual scope f cdv A outer s H E) [] σ' H' s' -> RelV v u -> Q v H' -> CE outer P w H s Q u s' :=
    fun {σ' H' v u} J rv q => ⟨v, H', J.os, J.bare, J.base, J.hok, rv, q⟩
  cases fl with
  | ret u =>
    obtain ⟨v, σ', H', J, rv, q⟩ := hs
    exact fin J rv q
  | next =>
    obtain ⟨σ', H', J, q⟩ := hs
    exact fin (v := V.non) (u := Value.none) J rfl q
  | brk =>
    obtain ⟨_, _, _, q⟩ := hs
    exact False.elim q
  | cont =>
    obtain ⟨_, _, _, q⟩ := hs
    exact False.elim q
end L2
namespace L2
open PySem PySem.Spec PyProof.Rows
section
variable {X : Cx} {x : Str} {p pos : Pos} {e : Expr} {es : List Expr} {t : TA} {id T : String} {r : List V -> Hp -> VK -> Prop}
def tCB (r : List V -> Hp -> VK -> Prop) (t : TA) : TE := fun σ H Q => t σ H fun vs H1 => r vs H1 Q
theorem Q2 (hc : CallR X (.builtin id) r) (hg : Gl X x) (hm : X.mg x = none) (hv : bootBuiltins x = some (.builtin id)) (ha : PA X (e :: es) t) (hn : x ≠ "__name__" := by decide) (hdb : (x == ("__debug__" : Str)) = false := by decide)
    (he : starEach (e :: es) X.env = (false, eval e X.env) :: starEach es X.env := by rfl) (hpl : (backTo pos (starEach es X.env)).any (·.1) = false := by rfl) : PE X (.Call (.Name x p) (e :: es) [] pos) (tCB r t) := by
  intro pins s σ H Q I h
  refine wpAny_Call_Name_kw (S3 I hg hm hv ?_ hn hdb)
  exact PyProof.Rows.callWith_builtin1 (thn (ha pos pins s σ H _ I h) fun us s1 ⟨vs, H1, I1, r1, q1⟩ => hc pins s1 σ H1 vs us Q I1 r1 q1) he hpl
theorem Z7 (hc : CallR X (.type T) r) (hg : Gl X x) (hm : X.mg x = none) (hv : bootBuiltins x = some (.type T)) (ha : PA X (e :: es) t) (hn : x ≠ "__name__" := by decide) (hdb : (x == ("__debug__" : Str)) = false := by decide)
    (he : starEach (e :: es) X.env = (false, eval e X.env) :: starEach es X.env := by rfl) (hpl : (backTo pos (starEach es X.env)).any (·.1) = false := by rfl) : PE X (.Call (.Name x p) (e :: es) [] pos) (tCB r t) := by
  intro pins s σ H Q I h
  refine wpAny_Call_Name_kw (S3 I hg hm hv ?_ hn hdb)
  exact PyProof.Rows.callWith_type1 (thn (ha pos pins s σ H _ I h) fun us s1 ⟨vs, H1, I1, r1, q1⟩ => hc pins s1 σ H1 vs us Q I1 r1 q1) he hpl
end
end L2
namespace HT
open PySem PyProof.Rows
section
open PySem.SeqAt
open PySem.AutoSeq1 (wpAny_loadPart')
open PySem.MeetsSeq PySem.MeetsSeq2 PySem.MeetsSeq3
end
section
variable {prog : Program} {w : World} {A : Around} {E : Value -> Shared -> Prop} {s : Shared}
def sIx (n d : Nat) : Option Int -> Nat
  | none => d
  | some v => if v < 0 then (v + (n : Int)).toNat else min v.toNat n
theorem sIx_none (n d : Nat) : sIx n d none = d := rfl
theorem sIx_nat (n d k : Nat) : sIx n d (some (k : Int)) = min k n := by
  show (if (k : Int) < 0 then ((k : Int) + (n : Int)).toNat else min (k : Int).toNat n) = min k n
  rw [if_neg (by omega), Int.toNat_natCast]
end
end HT
namespace L2
open PySem PySem.Spec PyProof.Rows
abbrev TO := St -> Hp -> (Option Int -> Hp -> Prop) -> Prop
def PO (X : Cx) (e : Option Expr) (t : TO) : Prop :=
  ∀ (pins : List (Addr × Obj)) (s : Shared) (σ : St) (H : Hp) (Q : Option Int -> Hp -> Prop), Inv X pins σ H s -> t σ H Q ->
    wpAny (model X.prog X.w) X.A (evalPart e X.env) (fun u s' => ∃ o H', Inv X pins σ H' s' /\ IsPart u o /\ Q o H') X.xe s
def A1e : TO := fun _ H Q => Q none H
def B5j (t : TE) : TO := fun σ H Q => t σ H fun x H1 => ∃ i, x = .int i /\ Q (some i) H1
section
variable {X : Cx} {e : Expr} {te : TE} {lo hi : Option Expr} {tl th : TO} {pos p2 : Pos}
theorem B55 : PO X none A1e := by
  intro pins s σ H Q I h
  rw [evalPart_none]
  exact wpAny_pure ⟨none, H, I, .none, h⟩
theorem B54 (h : PE X e te) : PO X (some e) (B5j te) := by
  intro pins s σ H Q I hw
  rw [evalPart_some]
  refine thn (h pins s σ H _ I hw) fun u s1 ⟨x, H1, I1, r1, q1⟩ => ?_
  obtain ⟨i, rfl, q⟩ := q1
  obtain ⟨t, rfl⟩ := r1
  exact ⟨some i, H1, I1, .int i t, q⟩
def SlR (X : Cx) (r : V -> Option Int -> Option Int -> Hp -> VK -> Prop) : Prop :=
  ∀ (pins : List (Addr × Obj)) (s : Shared) (σ : St) (H : Hp) (x : V) (v vl vu : Value) (lo hi : Option Int) (sl : Addr) (Q : VK), Inv X pins σ H s -> RelV x v -> s.heap.IsSliceOf sl vl vu .none -> IsPart vl lo -> IsPart vu hi -> r x lo hi H Q ->
    ∃ T id, typeLookup (.type T) "__getitem__" = pure (some (.builtin id)) /\ s.TypeIs v T /\ wpAny (model X.prog X.w) X.A (getItem v (.ref sl)) (EP X pins σ Q) X.xe s
def tSl (r : V -> Option Int -> Option Int -> Hp -> VK -> Prop) (te : TE) (tl th : TO) : TE := fun σ H Q => te σ H fun x H1 => tl σ H1 fun l H2 => th σ H2 fun u H3 => r x l u H3 Q
theorem B1c {r : V -> Option Int -> Option Int -> Hp -> VK -> Prop} (hr : SlR X r) (he : PE X e te) (hl : PO X lo tl) (hu : PO X hi th) : PE X (.Subscript e (.Slice lo hi none p2) pos) (tSl r te tl th) := by
  intro pins s σ H Q I h
  refine Subscript_ (thn (he pins s σ H _ I h) fun v s1 ⟨x, H1, I1, r1, q1⟩ => ?_)
  refine wpAny_Slice (thn (hl pins s1 σ H1 _ I1 q1) fun vl s2 ⟨l, H2, I2, pl, q2⟩ => thn (hu pins s2 σ H2 _ I2 q2) fun vu s3 ⟨u, H3, I3, pu, q3⟩ => ?_)
  rw [evalPart_none]
  refine wpAny_pure ?_
  have I4 : Inv X pins σ H3 { s3 with heap := s3.heap.push { cls := .type "slice", data := .fields #[vl, vu, .none] } } := I3.kept (t' := s3.toks) fun b ob q => Heap.get?_push_of_some _ q
  obtain ⟨T, id, hT, ht, hg⟩ := hr pins { s3 with heap := s3.heap.push { cls := .type "slice", data := .fields #[vl, vu, .none] } } σ H3 x v vl vu l u s3.heap.objs.size Q I4 r1 (Heap.IsSliceOf.new ..) pl pu q3
  show wpAny (model X.prog X.w) X.A (subscriptTail e (.Slice lo hi none p2) v (.ref s3.heap.objs.size)) (EP X pins σ Q) X.xe { s3 with heap := s3.heap.push { cls := .type "slice", data := .fields #[vl, vu, .none] } }
  exact tail_any (ops := [.ref s3.heap.objs.size, v]) ht hT hg (by with_unfolding_all rfl)
def cutV (xs : List V) (lo hi : Option Int) : List V := (xs.drop (HT.sIx xs.length 0 lo)).take (HT.sIx xs.length xs.length hi - HT.sIx xs.length 0 lo)
theorem A1r (xs : List V) (lo hi : Option Int) : (cutV xs lo hi).length <= xs.length := by
  unfold cutV
  rw [List.length_take, List.length_drop]
  omega
theorem Vals.nil_iff {xs : List V} {us : List Value} (r : Vals xs us) : us = [] ↔ xs = [] := by
  cases r with
  | nil => simp
  | cons _ _ => simp
end
end L2
namespace L2
open PySem PySem.Spec PyProof.Rows
def ixN (n : Nat) (i : Int) : Option Nat := if 0 <= i then (if i < n then some i.toNat else none) else if -(n : Int) <= i then some (i + n).toNat else none
def atI {α : Type} (xs : List α) (i : Int) : Option α := (ixN xs.length i).bind fun j => xs[j]?
theorem A9d {n : Nat} {i : Int} {j : Nat} (h : ixN n i = some j) : seqIndex? i n = some j /\ j < n /\ -(n : Int) <= i /\ i < n := by
  unfold ixN at h
  by_cases h0 : 0 <= i
  · rw [if_pos h0] at h
    by_cases h1 : i < n
    · rw [if_pos h1] at h
      have e : i.toNat = j := Option.some.inj h
      exact ⟨by rw [seqIndex_of h0 h1, e], by omega, by omega, h1⟩
    · rw [if_neg h1] at h; cases h
  · rw [if_neg h0] at h
    by_cases h1 : -(n : Int) <= i
    · rw [if_pos h1] at h
      have e : (i + n).toNat = j := Option.some.inj h
      exact ⟨by rw [seqIndex_neg (by omega) h1, e], by omega, h1, by omega⟩
    · rw [if_neg h1] at h; cases h
theorem A1v {α : Type} {xs : List α} {i : Int} {v : α} (h : atI xs i = some v) : ∃ j, seqIndex? i xs.length = some j /\ xs[j]? = some v /\ j < xs.length /\ -(xs.length : Int) <= i /\ i < xs.length := by
  unfold atI at h
  cases e : ixN xs.length i with
  | none => rw [e] at h; cases h
  | some j =>
    rw [e] at h
    obtain ⟨h1, h2, h3, h4⟩ := A9d e
    exact ⟨j, h1, h, h2, h3, h4⟩
theorem F5 {α : Type} {xs : List α} {j : Nat} {v : α} (h : xs[j]? = some v) : atI xs (j : Int) = some v := by
  have hj : j < xs.length := (List.getElem?_eq_some_iff.mp h).1
  have e : ixN xs.length (j : Int) = some j := by
    unfold ixN
    rw [if_pos (by omega), if_pos (by omega)]; simp
  unfold atI; rw [e]; exact h
def B0k (b : Expr) : Prop := ∀ o i, subscripted b false o i = operate [o, i] (getItem o i)
def IxR (X : Cx) (r : R2) : Prop :=
  ∀ (value slice : Expr) (pins : List (Addr × Obj)) (s : Shared) (σ : St) (H : Hp) (x y : V) (v u : Value) (Q : VK), Inv X pins σ H s -> RelV x v -> RelV y u -> r x y H Q ->
    subscripted slice false v u = operate [v, u] (getItem v u) -> wpAny (model X.prog X.w) X.A (subscriptTail value slice v u) (EP X pins σ Q) X.xe s
def MtR (X : Cx) (id : String) (r : V -> List V -> Hp -> VK -> Prop) : Prop :=
  ∀ (pins : List (Addr × Obj)) (s : Shared) (σ : St) (H : Hp) (x : V) (xs : List V) (v : Value) (us : List Value) (Q : VK), Inv X pins σ H s -> RelV x v -> Vals xs us -> r x xs H Q ->
    wpAny (model X.prog X.w) X.A (call (.builtin id) (v :: us)) (EP X pins σ Q) X.xe s
section
variable {X : Cx} {a b : Expr} {ta tb : TE} {pos : Pos}
theorem IxR.or {r r' : R2} (h : IxR X r) (h' : IxR X r') : IxR X (fun x y H Q => r x y H Q \/ r' x y H Q) := by
  intro value slice pins s σ H x y v u Q I rx ry q hs
  rcases q with q | q
  · exact h value slice pins s σ H x y v u Q I rx ry q hs
  · exact h' value slice pins s σ H x y v u Q I rx ry q hs
theorem W6 {r : R2} (hr : IxR X r) (ha : PE X a ta) (hb : PE X b tb) (hs : B0k b) : PE X (.Subscript a b pos) (tOp r ta tb) := by
  intro pins s σ H Q I h
  exact Subscript_ (binT ha hb I h fun v u s2 x y H2 I2 rx ry q => hr a b pins s2 σ H2 x y v u Q I2 rx ry q (hs _ _))
def rIxL (K : PySem.W.Frag) : R2 := fun x y H Q => ∃ p xs i v, x = .ref p /\ y = .int i /\ SqL K H p xs /\ atI xs i = some v /\ Q v H
def rIxT (K : PySem.W.Frag) : R2 := fun x y H Q => ∃ p xs i v, x = .ref p /\ y = .int i /\ SqT K H p xs /\ atI xs i = some v /\ Q v H
def rIxS : R2 := fun x y H Q => ∃ z i c, x = .str z /\ y = .int i /\ z.length <= sizeLine /\ atI z.cps.toList i = some c /\ Q (.str ⟨#[c]⟩) H
theorem ix_list : IxR X (rIxL X.K) := by
  intro value slice pins s σ H x y v u Q I rx ry h hs
  obtain ⟨p, xs, i, z, rfl, rfl, hq, he, q⟩ := h
  cases rx
  obtain ⟨t, rfl⟩ := ry
  obtain ⟨its, r, pl, hz⟩ := I.list hq
  obtain ⟨j, h1, h2, h3, h4, h5⟩ := A1v he
  obtain ⟨w, ew, rw'⟩ := r.get h2
  have hl := r.length
  have hn := U7
  have fin : EP X pins σ Q w s := ⟨z, H, I, rw', q⟩
  by_cases h0 : 0 <= i
  · have hj : i.toNat = j := by
      rw [seqIndex_of h0 h5] at h1
      exact Option.some.inj h1
    exact item_listR pl.isList h0 (by omega) (by rw [hj]; simpa using ew) fin hs
  · have hj : (i + (its.toArray.size : Int)).toNat = j := by
      rw [seqIndex_neg (by omega) h4] at h1
      rw [List.size_toArray, <- hl]
      exact Option.some.inj h1
    exact subscriptTail_builtinR (x := w) pl.isList.typeIs slot_list_getitem.lookup
      (wpAny_getItem_list_neg (Q := fun r s' => r = w /\ EP X pins σ Q r s') pl.isList (by omega) (by rw [List.size_toArray] <;> omega) (by omega) (by rw [hj]; simpa using ew) ⟨rfl, fin⟩) hs
theorem ix_tup : IxR X (rIxT X.K) := by
  intro value slice pins s σ H x y v u Q I rx ry h hs
  obtain ⟨p, xs, i, z, rfl, rfl, hq, he, q⟩ := h
  cases rx
  obtain ⟨t, rfl⟩ := ry
  obtain ⟨its, r, pl, hz⟩ := I.tuple hq
  obtain ⟨j, h1, h2, h3, h4, h5⟩ := A1v he
  obtain ⟨w, ew, rw'⟩ := r.get h2
  have hl := r.length
  have hn := U7
  have fin : EP X pins σ Q w s := ⟨z, H, I, rw', q⟩
  exact subscriptTail_builtinR (x := w) pl.typeIs slot_tuple_getitem.lookup
    (getItem_tuple (j := j) (Q := fun r s' => r = w /\ EP X pins σ Q r s') pl (by omega) (by omega) (by rw [List.size_toArray, <- hl]; exact h1) (by simpa using ew) ⟨rfl, fin⟩) hs
theorem C0e : IxR X rIxS := by
  intro value slice pins s σ H x y v u Q I rx ry h hs
  obtain ⟨z, i, c, rfl, rfl, hz, he, q⟩ := h
  obtain ⟨t, rfl⟩ := rx
  obtain ⟨t', rfl⟩ := ry
  obtain ⟨j, h1, h2, h3, h4, h5⟩ := A1v he
  have hl : z.cps.toList.length = z.length := by simp [Str.length]
  rw [hl] at h1 h4 h5
  have hn := U7
  exact tail_any (typeIs_str s z t) slot_str_getitem.lookup (getItem_str (c := c) (by
    have e1 : decide (i < -(2 ^ 63 : Int)) = false := decide_eq_false (by omega)
    have e2 : decide (i ≥ 2 ^ 63) = false := decide_eq_false (by omega)
    rw [e1, e2, Bool.or_false]) (by rw [h1]; simpa using h2) ⟨.str ⟨#[c]⟩, H, I.tok _, ⟨_, rfl⟩, q⟩) hs
def rIx (K : PySem.W.Frag) : R2 := fun x y H Q => rIxL K x y H Q \/ rIxT K x y H Q \/ rIxS x y H Q
theorem C0f : IxR X (rIx X.K) := ix_list.or (ix_tup.or C0e)
theorem A4s (its : List Value) (n j : Nat) (u : Value) : Obj.mapSeq (·.setIfInBounds j u) { cls := .type "list", data := .seq its.toArray n } = { cls := .type "list", data := .seq (its.set j u).toArray n } := by
  simp [Obj.mapSeq]
theorem Inv.lst {pins : List (Addr × Obj)} {σ : St} {H : Hp} {s : Shared} {p : Addr} {xs : List V} (I : Inv X pins σ H s) (h : H p = some (.lst xs)) :
    ∃ (its : List Value) (n : Nat), Vals xs its /\ s.heap.get? p = some { cls := .type "list", data := .seq its.toArray n } /\ xs.length <= sizeLine := by
  obtain ⟨z, its, n, r, e⟩ := I.hok p _ h
  exact ⟨its, n, r, e, z⟩
theorem Inv.lstUpd {pins : List (Addr × Obj)} {σ : St} {H : Hp} {s : Shared} {p : Addr} {xs ys : List V} {its its' : List Value} {n n' : Nat} {f : Obj -> Obj} (I : Inv X pins σ H s) (h : H p = some (.lst xs))
    (ho : s.heap.get? p = some { cls := .type "list", data := .seq its.toArray n }) (hf : f { cls := .type "list", data := .seq its.toArray n } = { cls := .type "list", data := .seq its'.toArray n' }) (r : Vals ys its') (hz : ys.length <= sizeLine) (t : Nat) :
    Inv X pins σ (upd H p (.lst ys)) { s with heap := s.heap.update p f, toks := t } := by
  have e : (s.heap.update p f).get? p = some { cls := .type "list", data := .seq its'.toArray n' } := by
    rw [Heap.get?_update_self f ho (by rw [hf] <;> rfl), hf]
  refine I.write (x := p) (e := p) (by rw [h]; trivial) (.inl rfl) (fun b u hb q => (Heap.get?_update_other _ _ (Ne.symm hb)).trans q) ⟨_, e⟩ ?_
  exact ⟨hz, its', n', r, e⟩
def B8c : V -> V -> V -> Hp -> (Hp -> Prop) -> Prop := fun o i v H Q => ∃ p xs k j, o = .ref p /\ i = .int k /\ H p = some (.lst xs) /\ ixN xs.length k = some j /\ Q (upd H p (.lst (xs.set j v)))
theorem N3 : PSet X B8c := by
  intro pins s σ H o i v ov iv u Q I ro ri rv h
  obtain ⟨p, xs, k, j, rfl, rfl, hp, hj, q⟩ := h
  cases ro
  obtain ⟨t, rfl⟩ := ri
  obtain ⟨its, n, r, ho, hz⟩ := I.lst hp
  obtain ⟨h1, h2, h3, h4⟩ := A9d hj
  have hl := r.length
  have hn := U7
  have I' : Inv X pins σ (upd H p (.lst (xs.set j v))) { s with heap := s.heap.update p (Obj.mapSeq (·.setIfInBounds j u)) } :=
    I.lstUpd hp ho (A4s its n j u) (r.set rv j) (by rw [List.length_set]; exact hz) s.toks
  by_cases h0 : 0 <= k
  · have hk : k.toNat = j := by
      rw [seqIndex_of h0 h4] at h1
      exact Option.some.inj h1
    exact PySem.W.ki_setAt ho h0 (by omega) (by rw [List.size_toArray, <- hl]; exact h4) (by rw [hk]; exact ⟨_, I', q⟩)
  · have hk : (k + (its.toArray.size : Int)).toNat = j := by
      rw [seqIndex_neg (by omega) h3] at h1
      rw [List.size_toArray, <- hl]
      exact Option.some.inj h1
    exact PySem.W.ki_setBack ho (by omega) (by rw [List.size_toArray, <- hl]; exact h3) (by omega) (by rw [hk]; exact ⟨_, I', q⟩)
theorem Y9 (lo hi : Option Int) (n : Nat) : (sliceBounds lo hi none n).1 = ((HT.sIx n 0 lo : Nat) : Int) /\ (sliceBounds lo hi none n).2.1 = ((HT.sIx n n hi : Nat) : Int) /\ (sliceBounds lo hi none n).2.2 = 1 := by
  refine ⟨?_, ?_, rfl⟩
  · cases lo with
    | none => simp [sliceBounds, HT.sIx]
    | some i =>
      simp only [sliceBounds, HT.sIx, Option.getD_none, show (1 : Int) > 0 by decide, if_true]
      by_cases h : i < 0
      · simp only [h, if_true] <;> omega
      · simp only [h, if_false] <;> omega
  · cases hi with
    | none => simp [sliceBounds, HT.sIx]
    | some i =>
      simp only [sliceBounds, HT.sIx, Option.getD_none, show (1 : Int) > 0 by decide, if_true]
      by_cases h : i < 0
      · simp only [h, if_true] <;> omega
      · simp only [h, if_false] <;> omega
theorem W0 (its : List Value) (lo hi : Option Int) : slicePick its.toArray lo hi none = ((its.drop (HT.sIx its.length 0 lo)).take (HT.sIx its.length its.length hi - HT.sIx its.length 0 lo)).toArray := by
  obtain ⟨h1, h2, h3⟩ := Y9 lo hi its.toArray.size
  unfold slicePick
  rw [h1, h2, h3]
  simp only [sliceRange_one, pick_run, List.size_toArray] <;> rfl
def rSlL (K : PySem.W.Frag) : V -> Option Int -> Option Int -> Hp -> VK -> Prop := fun x lo hi H Q => ∃ a xs, x = .ref a /\ SqL K H a xs /\ ∀ p, H p = none -> Q (.ref p) (upd H p (.lst (cutV xs lo hi)))
theorem B5q : SlR X (rSlL X.K) := by
  intro pins s σ H x v vl vu lo hi sl Q I rx hs pl pu h
  obtain ⟨a, xs, rfl, hx, q⟩ := h
  cases rx
  obtain ⟨its, r, ht, hz⟩ := I.list hx
  have hlen := r.length
  refine ⟨"list", _, slot_list_getitem.lookup, ht.isList.typeIs, ?_⟩
  refine wpAny_getItem_list_slice ht.isList hs pl pu .none (by simp) ?_ (by rw [List.size_toArray] <;> omega)
  rw [W0, <- hlen]
  refine ⟨.ref s.heap.objs.size, _, I.laid (t' := s.toks) (o := .lst (cutV xs lo hi)) (fun b ob q => Heap.get?_push_of_some _ q) (Nat.le_refl _) ?_, rfl, q _ (I.hok.fresh (Nat.le_refl _))⟩
  exact ⟨Nat.le_trans (A1r xs lo hi) hz, _, 0, (r.drop (HT.sIx xs.length 0 lo)).take (HT.sIx xs.length xs.length hi - HT.sIx xs.length 0 lo), Heap.get?_push_size _ rfl⟩
theorem call_len_seq : CallR X (.builtin "len") (fun xs H Q => ∃ p ys, xs = [.ref p] /\ (SqL X.K H p ys \/ SqT X.K H p ys) /\ Q (.int ys.length) H) := by
  intro pins s σ H xs us Q I r h
  obtain ⟨p, ys, rfl, hq, q⟩ := h
  obtain ⟨u, rfl, rx⟩ := A1d r
  cases rx
  have hn := U7
  rcases hq with hq | hq
  · obtain ⟨its, r', pl, hz⟩ := I.list hq
    have hlen := r'.length
    exact Calls.call_len_list pl.isList (by simp only [List.size_toArray] <;> omega) ⟨.int ys.length, H, I.tok _, ⟨s.toks + 1, by rw [List.size_toArray, hlen]⟩, q⟩
  · obtain ⟨its, r', pl, hz⟩ := I.tuple hq
    have hlen := r'.length
    exact len_tuple pl (by simp only [List.size_toArray] <;> omega) ⟨.int ys.length, H, I.tok _, ⟨s.toks + 1, by rw [List.size_toArray, hlen]⟩, q⟩
theorem A0x : CallR X (.builtin "len") (fun xs H Q => ∃ z, xs = [.str z] /\ z.length <= sizeLine /\ Q (.int z.length) H) := by
  intro pins s σ H xs us Q I r h
  obtain ⟨z, rfl, hz, q⟩ := h
  obtain ⟨u, rfl, t, rfl⟩ := A1d r
  have hn := U7
  exact len_str (by omega) ⟨.int z.length, H, I.tok _, ⟨_, rfl⟩, q⟩
theorem CallR.or {f : Value} {r r' : List V -> Hp -> VK -> Prop} (h : CallR X f r) (h' : CallR X f r') : CallR X f (fun xs H Q => r xs H Q \/ r' xs H Q) := by
  intro pins s σ H xs us Q I rs q
  rcases q with q | q
  · exact h pins s σ H xs us Q I rs q
  · exact h' pins s σ H xs us Q I rs q
theorem A0w : CallR X (.type "list") (fun xs H Q => ∃ p ys, xs = [.ref p] /\ (SqL X.K H p ys \/ SqT X.K H p ys) /\ ∀ l, H l = none -> Q (.ref l) (upd H l (.lst ys))) := by
  intro pins s σ H xs us Q I r h
  obtain ⟨p, ys, rfl, hq, q⟩ := h
  obtain ⟨u, rfl, rx⟩ := A1d r
  cases rx
  have fin : ∀ (its : List Value), Vals ys its -> ys.length <= sizeLine -> ∀ (h' : Heap) (c' : Nat), (∀ b o', s.heap.get? b = some o' -> h'.get? b = some o') ->
      h'.get? s.heap.objs.size = some { cls := .type "list", dict := none, data := .seq its.toArray c', slots := #[] } -> EP X pins σ Q (.ref s.heap.objs.size) { s with heap := h' } := fun its r' hz h' c' kp e =>
    ⟨.ref s.heap.objs.size, _, I.laid (t' := s.toks) kp (Nat.le_refl _) (show ObjOk X.prog X.w _ h' _ (.lst ys) from ⟨hz, its, c', r', e⟩), rfl, q _ (I.hok.fresh (Nat.le_refl _))⟩
  rcases hq with hq | hq
  · obtain ⟨its, r', pl, hz⟩ := I.list hq
    have hlen := r'.length
    obtain ⟨o, ho, hc, n, hd⟩ := pl.isList
    exact call_list_seq p (.inl rfl) ho hc hd (fun h' c' kp e => fin its r' hz h' c' kp e) (by simp only [List.size_toArray] <;> omega)
  · obtain ⟨its, r', pl, hz⟩ := I.tuple hq
    have hlen := r'.length
    obtain ⟨o, ho, hc, n, hd⟩ := pl
    exact call_list_seq p (.inr rfl) ho hc hd (fun h' c' kp e => fin its r' hz h' c' kp e) (by simp only [List.size_toArray] <;> omega)
def tyV (K : PySem.W.Frag) (T : String) (x : V) (H : Hp) : Prop := match x with
  | .str _ => T = "str"
  | .int _ => T = "int"
  | .ref p => (T = "list" /\ ∃ xs, SqL K H p xs) \/ (T = "tuple" /\ ∃ o, K.lookup p = some o /\ o.cls = .type "tuple" /\ o.dict = none) \/
      (T = "dict" /\ ((∃ kvs, H p = some (.dK kvs)) \/ ∃ kvs, H p = some (.dT kvs))) \/ (T = "set" /\ ∃ S n, H p = some (.set S n))
  | _ => False
theorem B7z {pins : List (Addr × Obj)} {σ : St} {H : Hp} {s : Shared} {T : String} {x : V} {v : Value} (I : Inv X pins σ H s) (r : RelV x v) (ty : tyV X.K T x H) :
    s.TypeIs v T /\ ∀ a, v = .ref a -> ∃ ob, s.heap.get? a = some ob /\ ob.dict = none := by
  cases x with
  | str z =>
    obtain ⟨t, rfl⟩ := r
    cases (show T = "str" from ty)
    exact ⟨typeIs_str s z t, fun _ e => nomatch e⟩
  | int i =>
    obtain ⟨t, rfl⟩ := r
    cases (show T = "int" from ty)
    exact ⟨typeIs_int s i t, fun _ e => nomatch e⟩
  | ref p =>
    cases r
    rcases ty with ⟨rfl, xs, hq⟩ | ⟨rfl, o, hk, hc, hd⟩ | ⟨rfl, hk⟩ | ⟨rfl, S, n, hk⟩
    · obtain ⟨its, _, pl, _⟩ := I.list hq
      refine ⟨pl.isList.typeIs, fun a e => ?_⟩
      cases e
      obtain ⟨o, n, e, c, hd, _⟩ := pl
      exact ⟨o, e, hd⟩
    · refine ⟨⟨o, I.kIn p o hk, hc⟩, fun a e => ?_⟩
      cases e
      exact ⟨o, I.kIn _ o hk, hd⟩
    · have z : ∃ o, s.heap.get? p = some o /\ o.ExactDict := by
        rcases hk with ⟨kvs, hk⟩ | ⟨kvs, hk⟩
        · obtain ⟨_, _, _, _, o, _, _, e, ex, _⟩ := I.hok p _ hk
          exact ⟨o, e, ex⟩
        · obtain ⟨_, _, _, _, o, _, _, e, ex, _⟩ := I.hok p _ hk
          exact ⟨o, e, ex⟩
      obtain ⟨o, e, ex⟩ := z
      refine ⟨⟨o, e, ex.1⟩, fun a e2 => ?_⟩
      cases e2
      exact ⟨o, e, ex.2.1⟩
    · obtain ⟨o, _, _, _, e, ex, _⟩ := I.hok p _ hk
      refine ⟨⟨o, e, ex.1⟩, fun a e2 => ?_⟩
      cases e2
      exact ⟨o, e, ex.2.1⟩
  | _ => exact False.elim ty
def tBM (K : PySem.W.Frag) (T : String) (r : V -> List V -> Hp -> VK -> Prop) (to : TE) (t : TA) : TE := fun σ H Q => to σ H fun x H1 => tyV K T x H1 /\ t σ H1 fun xs H2 => r x xs H2 Q
variable {o e : Expr} {es : List Expr} {to : TE} {t : TA} {name : Str} {apos cpos : Pos} {T id : String} {r : V -> List V -> Hp -> VK -> Prop}
theorem C1i (pa : PlainAttrs T) (slot : Slot T name id) (hty : typeOf (.builtin id) = pure (.type "method_descriptor")) (hm : MtR X id r) (ho : PE X o to) (ha : PA X (e :: es) t)
    (hbase : attributeBase o name X.env (eval o X.env) = eval o X.env := by rfl)
    (hfew : ((backTo cpos (starEach (e :: es) X.env)).all (fun x => !x.1) && (backToKw cpos (keywordEach [] X.env)).all (fun x => x.1.isSome)
      && decide ((e :: es).length + ([] : List Keyword).length + (if ([] : List Keyword).isEmpty then 0 else 1) < 30)) = true := by rfl)
    (hline : (apos.endLine == cpos.line) = true := by rfl) (hs : starEach (e :: es) X.env = (false, eval e X.env) :: starEach es X.env := by rfl) (hplain : (backTo cpos (starEach es X.env)).any (·.1) = false := by rfl) :
    PE X (.Call (.Attribute o name apos) (e :: es) [] cpos) (tBM X.K T r to t) := by
  intro pins s σ H Q I h
  refine wpAny_Call_method_late hbase hfew hline rfl (thn (ho pins s σ H _ I h) fun v s1 ⟨x, H1, I1, r1, ty, q1⟩ => ?_)
  obtain ⟨h1, h2⟩ := B7z I1 r1 ty
  refine ⟨T, id, pa, slot, hty, h1, h2, ?_⟩
  have hA := ha cpos pins s1 σ H1 _ I1 q1
  rw [hs] at hA ⊢
  refine Calls.callWith_builtin (by show (false || (backTo cpos (starEach es X.env)).any (·.1)) = false; rw [hplain] <;> rfl) (Calls.evalArgs_plain ?_)
  exact thn hA fun us s2 ⟨vs, H2, I2, r2, q2⟩ => hm pins s2 σ H2 x vs v us Q I2 r1 r2 q2
end
end L2
namespace L2
open PySem PySem.Spec PyProof.Rows
def MtM (X : Cx) (id : String) (r : V -> List V -> Hp -> VK -> Prop) : Prop :=
  ∀ (pins : List (Addr × Obj)) (s : Shared) (σ : St) (H : Hp) (x : V) (xs : List V) (v : Value) (us : List Value) (Q : VK), Inv X pins σ H s -> RelV x v -> Vals xs us -> r x xs H Q ->
    wpAny (model X.prog X.w) X.A (call (.builtin id) (v :: us)) (EP X pins σ Q) X.xe s
theorem Vals.one : ∀ {x : V} {us : List Value}, Vals [x] us -> ∃ u, us = [u] /\ RelV x u
  | _, _, .cons r .nil => ⟨_, rfl, r⟩
theorem Vals.two : ∀ {x y : V} {us : List Value}, Vals [x, y] us -> ∃ u v, us = [u, v] /\ RelV x u /\ RelV y v
  | _, _, _, .cons r (.cons q .nil) => ⟨_, _, rfl, r, q⟩
theorem Vals.zero : ∀ {us : List Value}, Vals [] us -> us = []
  | _, .nil => rfl
theorem Vals.dropLast {xs : List V} {us : List Value} (h : Vals xs us) : Vals xs.dropLast us.dropLast := by
  induction h with
  | nil => exact .nil
  | cons r t ih =>
    cases t with
    | nil => exact .nil
    | cons q t' => exact .cons r ih
theorem Vals.eraseIdx : ∀ {xs : List V} {us : List Value} (i : Nat), Vals xs us -> Vals (xs.eraseIdx i) (us.eraseIdx i)
  | _, _, _, .nil => .nil
  | _, _, 0, .cons _ t => t
  | _, _, i + 1, .cons r t => .cons r (Vals.eraseIdx i t)
theorem Vals.reverse {xs : List V} {us : List Value} (h : Vals xs us) : Vals xs.reverse us.reverse := by
  induction h with
  | nil => exact .nil
  | cons r t ih => rw [List.reverse_cons, List.reverse_cons]; exact Vals.append ih (.cons r .nil)
theorem Vals.rep {xs : List V} {us : List Value} (h : Vals xs us) : ∀ k : Nat, Vals (List.replicate k xs).flatten (List.replicate k us).flatten
  | 0 => .nil
  | k + 1 => by
    rw [List.replicate_succ, List.replicate_succ, List.flatten_cons, List.flatten_cons]
    exact Vals.append h (Vals.rep h k)
theorem A0d {α : Type} : ∀ (l : List α) (i : Nat), (l.eraseIdx i).length <= l.length
  | [], _ => Nat.le_refl _
  | _ :: _, 0 => Nat.le_succ _
  | _ :: r, i + 1 => Nat.succ_le_succ (A0d r i)
section
variable {X : Cx} {pins : List (Addr × Obj)} {σ : St} {H : Hp} {s : Shared} {l b : Addr} {xs ys zs : List V}
theorem Inv.lset {its its' : List Value} {n : Nat} {f : Array Value -> Array Value} {t' : Nat} (I : Inv X pins σ H s) (hH : H l = some (.lst xs))
    (e : s.heap.get? l = some { cls := .type "list", data := .seq its.toArray n }) (hf : f its.toArray = its'.toArray) (hv : Vals ys its') (hz : ys.length <= sizeLine) :
    Inv X pins σ (upd H l (.lst ys)) { s with heap := s.heap.update l (Obj.mapSeq f), toks := t' } := by
  have q := PySem.IsL.update e f
  rw [hf] at q
  refine I.write (x := l) (e := l) (by rw [hH]; exact trivial) (.inl rfl) (fun b' u hb hu => (Heap.get?_update_other s.heap (Obj.mapSeq f) (Ne.symm hb)).trans hu) ⟨_, q⟩ ?_
  exact ⟨hz, its', _, hv, q⟩
theorem Inv.lnew {its : List Value} {t' : Nat} (I : Inv X pins σ H s) (hv : Vals ys its) (hz : ys.length <= sizeLine) :
    Inv X pins σ (upd H s.heap.objs.size (.lst ys)) { s with heap := s.heap.push { cls := .type "list", data := .seq its.toArray }, toks := t' } :=
  I.laid (fun _ _ q => Heap.get?_push_of_some _ q) (Nat.le_refl _) ⟨hz, its, 0, hv, Heap.get?_push_size _ rfl⟩
theorem Inv.fresh (I : Inv X pins σ H s) : H s.heap.objs.size = none := I.hok.fresh (Nat.le_refl _)
theorem Inv.lstM (I : Inv X pins σ H s) (hH : H l = some (.lst xs)) : xs.length <= sizeLine /\ ∃ (its : List Value) (n : Nat), Vals xs its /\ xs.length = its.length /\ s.heap.get? l = some { cls := .type "list", data := .seq its.toArray n } := by
  obtain ⟨z, its, n, r, e⟩ := I.hok l _ hH
  exact ⟨z, its, n, r, r.length, e⟩
end
section
variable {X : Cx}
def A1h : V -> List V -> Hp -> VK -> Prop := fun x vs H Q => ∃ l xs y, x = .ref l /\ vs = [y] /\ H l = some (.lst xs) /\ xs.length < sizeLine /\ Q .non (upd H l (.lst (xs ++ [y])))
theorem F4 : MtM X "list.append" A1h := by
  intro pins s σ H x vs v us Q I rx rv h
  obtain ⟨l, xs, y, rfl, rfl, hH, hz, q⟩ := h
  cases rx
  obtain ⟨u, rfl, ru⟩ := rv.one
  obtain ⟨z, its, n, r, hl, e⟩ := I.lstM hH
  refine call_meets F.slot_list_append ⟨_, e, rfl⟩ F.entry_list_append (F.args_list_append_2 _ _) (PySem.list_append l its.toArray n u (by rw [List.size_toArray]; omega)) ⟨e, ?_⟩
  refine ⟨.non, _, I.lset (its' := its ++ [u]) hH e (by simp) (r.append (.cons ru .nil)) ?_, rfl, q⟩
  rw [List.length_append, List.length_singleton]
  omega
def B2v : V -> List V -> Hp -> VK -> Prop := fun x vs H Q => ∃ l xs i k y, x = .ref l /\ vs = [.int i] /\ H l = some (.lst xs) /\ -(2 ^ 63) <= i /\ i < 2 ^ 63 /\ seqIndex? i xs.length = some k /\ xs[k]? = some y /\ Q y (upd H l (.lst (xs.eraseIdx k)))
theorem B1r : MtM X "list.pop" B2v := by
  intro pins s σ H x vs v us Q I rx rv h
  obtain ⟨l, xs, i, k, y, rfl, rfl, hH, h1, h2, hk, hy, q⟩ := h
  cases rx
  obtain ⟨u, rfl, ru⟩ := rv.one
  obtain ⟨t, rfl⟩ := ru
  obtain ⟨z, its, n, r, hl, e⟩ := I.lstM hH
  obtain ⟨w, hw, rw'⟩ := r.get hy
  refine call_meets F.slot_list_pop ⟨_, e, rfl⟩ F.entry_list_pop (F.args_list_pop_2 _ _)
    (MeetsSeq.list_pop_at l its.toArray n i t k w (fitsIndex_both h1 h2) (by rw [List.size_toArray, <- hl]; exact hk) (by rw [<- Array.getElem?_toList]; exact hw) (by rw [List.size_toArray]; omega)) ⟨e, ?_⟩
  refine ⟨y, _, I.lset (its' := its.eraseIdx k) hH e ?_ (r.eraseIdx k) ?_, rw', q⟩
  · show its.toArray.eraseIdxIfInBounds k = (its.eraseIdx k).toArray
    rw [List.eraseIdxIfInBounds_toArray]
  · have := A0d xs k
    omega
end
section
variable {prog : Program} {w : World} {A : Around} {E : Value -> Shared -> Prop} {s : Shared}
end
section
variable {X : Cx}
end
end L2
namespace Att
open PySem PySem.W PySem.Calls PyProof.Rows
theorem S4 {P : Params} {h : Heap} : ∀ (ns : List Int) (vs : List Value), WellAll P h vs (ns.map WData.int) -> IntsAre vs ns := by
  intro ns
  induction ns with
  | nil =>
    intro vs w
    rw [List.map_nil] at w
    cases w
    exact .nil
  | cons n ns ih =>
    intro vs w
    rw [List.map_cons] at w
    cases w with
    | cons a b =>
      cases a
      exact .cons _ _ (ih _ b)
theorem A5j {l : OpenLaw} {n : Nat} (hn : l.most = some n) {P : Params} {h : Heap} {args : List WData} {vals : List Value}
    (hpre : l.row.toRowW.claim.pre args = true) (hwl : WellAll P h vals args) :
    ∃ a vs ns, vals = [Value.ref a] /\ args = [WData.list (ns.map WData.int)] /\ h.get? a = some { cls := .type "list", data := .seq vs.toArray } /\ IntsAre vs ns /\ ns.length <= n := by
  have hsh : WShape.hasAll [] args [.list .int] = true := (pre_splitW hpre).1
  have hc : l.pre.holds [] { args := args } = true := (pre_splitW hpre).2
  obtain ⟨d, r, rfl, h1, h2⟩ := hasAllW_cons hsh
  obtain rfl := hasAllW_nil h2
  obtain ⟨xs, rfl, h3⟩ := hasW_list h1
  obtain ⟨ns, rfl⟩ := items_int h3
  have hlen : ns.length <= n := by
    unfold OpenLaw.pre at hc
    have h4 : (WTm.not (.lt (.lit (.int (n : Int))) (.len (.arg 0)))).holds [] { args := [.list (ns.map .int)] } = true := by
      have h4 := (holds_andW hc).1
      rw [hn] at h4
      exact h4
    have h5 := condW_of h4 (w_not (w_lt w_lit (w_len_list (w_arg rfl))))
    rw [List.length_map] at h5
    refine Nat.le_of_not_lt fun q => ?_
    have q' : (n : Int) < ((ns.length : Nat) : Int) := by omega
    first
      | (rw [decide_eq_true q'] at h5; exact absurd h5 (by decide))
      | (simp at h5; omega)
  cases hwl with
  | cons w1 w2 =>
    cases w2
    cases w1 with
    | list ho hall => exact ⟨_, _, ns, rfl, rfl, ho, S4 ns _ hall, hlen⟩
theorem A59 (l : OpenLaw) (args : List WData) : l.row.toRowW.claim.post args (.bool true) args = true :=
  postW_of (r := l.row.toRowW) (X := (true == true))
    (show WShape.has [] (.bool true) .bool = true by first | rfl | decide | simp [WShape.has, WShape.arms, WShape.armsAll])
    (show (WTm.eq .res (.lit (.bool true))).value [] { args := args, res := some (.bool true), after := args } = some (.bool (true == true)) from w_eq_bool (w_res rfl) w_lit) rfl
theorem attach_call {l : OpenLaw} {n : Nat} {q : Program} {loose : List Str} {XP : (Str -> Option Value) -> Heap -> Prop} {YP : World -> Heap -> Prop} {d : DefRec}
    (hn : l.most = some n) (hdf : d.params.defaults = [])
    (call : ∀ (w : World) (s₀ s₁ : Shared) (mg mb : Str -> Option Value) (fa : Addr) (o : Obj) (pm cd doc : Value) (a : Addr) (vs : List Value) (ns : List Int),
      Ground q loose [] XP w s₀ mg mb s₁.heap -> YP w s₁.heap ->
      s₁.heap.get? fa = some o -> o.data = .func (docDef d.name d.params d.body d.scope pm cd doc) -> s₁.heap.CodeRec cd d.name -> mg d.name = some (.ref fa) ->
      s₁.heap.get? a = some { cls := .type "list", data := .seq vs.toArray } -> IntsAre vs ns -> ns.length <= n -> s₁.gens = #[] ->
      codeAny (model l.prog w) callerA (.call (.ref fa) ⟨[.ref a], []⟩) (fun r s' => r = .ok (.ret (.bool true)) /\ OldK s₁.heap s'.heap /\ s'.os = s₁.os /\ AllBare s'.gens) s₁) :
    WalkO q loose XP YP l.row.toRowW d [] (fun f vs => PySem.call f vs) := by
  intro w s₀ s₁ mg mb G Y fa o pm cd doc dV kV ho hd hcd hD hmg hg args vals as hpre hlay hrd hwl hlo
  obtain rfl : dV = .none := Dflts.none hD hdf
  obtain rfl : kV = .none := Dflts.noKw hD
  obtain ⟨a, vs, ns, rfl, rfl, hobj, hints, hlen⟩ := A5j hn hpre hwl
  refine enter_call (codeAny_mono (call w s₀ s₁ mg mb fa o pm cd doc a vs ns G Y ho (fd_plain hd) hcd hmg hobj hints hlen hg) fun r s' hq => ?_)
  obtain ⟨rfl, h2, h3, h4⟩ := hq
  exact ⟨.inl ⟨.bool true, .bool true, [], rfl, fun _ => rfl, .bool true, A59 l _, fun _ => ⟨List.Pairwise.nil, fun _ hm => (nomatch hm)⟩⟩, h2, h3, h4⟩
section
variable {prog : Program} {w : World} {A : Around} {E : Value -> Shared -> Prop} {s : Shared} {K : Frag}
def C2k (h : Heap) (L d : Addr) : List (Addr × Obj) := (List.range h.objs.size).filterMap fun a => if a = L \/ a = d then none else (h.get? a).map fun o => (a, o)
end
end Att
namespace L2
open PySem PySem.Spec PyProof.Rows
theorem Y1 : ∀ {vs : List Value} {ns : List Int}, IntsAre vs ns -> Vals (ns.map V.int) vs
  | _, _, .nil => .nil
  | _, _, .cons n t h => .cons ⟨t, rfl⟩ (Y1 h)
def Only (H : Hp) : Prop := ∀ b, H b = none \/ ∃ o xs, H b = some (.frz o (.lst xs))
theorem B1x {P : Program} {w : World} {K : PySem.W.Frag} {mg mb : Str -> Option Value} {CX : CXT} {k : Nat} {fa a : Addr} {fd : FuncData} {x : Str} {sp : Sp} {s₁ : Shared} {vs : List Value} {ns : List Int}
    (KX : K.In s₁.heap) (hns : s₁.heap.Ns mainGlobals mg) (hb : s₁.heap.Ns builtinsNs mb) (hbb : ∀ x : Str, x ≠ "__name__" -> mb x = bootBuiltins x) (hlim : s₁.heap.NoLimit) (hg : s₁.gens = #[])
    (ha : s₁.heap.get? a = some { cls := .type "list", data := .seq vs.toArray }) (hi : IntsAre vs ns) (hl : ns.length <= sizeLine) (hr : Room k callerA)
    (F : ∀ base : Heap, K.In base -> base.Ns mainGlobals mg -> FnOk P w K mg base CX k fa fd [x] sp) (hbind : ∀ (s : Shared) (u : Value), BindsTo s fd ⟨[u], []⟩ [(x, u)])
    (hsp : ∀ H : Hp, Only H -> SqL K H a (ns.map V.int) -> sp [.ref a] H (fun v _ => v = .bl true) fun _ _ _ => False)
    (hCX : ∀ H e s', CX [] H s₁ (fun _ _ _ => False) e s' -> False) :
    codeAny (model P w) callerA (.call (.ref fa) ⟨[.ref a], []⟩) (fun r s' => r = .ok (.ret (.bool true)) /\ OldK s₁.heap s'.heap /\ s'.os = s₁.os /\ AllBare s'.gens) s₁ := by
  have rv := Y1 hi
  have lenV := hi.length
  have core : ∀ H : Hp, Only H -> SqL K H a (ns.map V.int) -> HOk P w H s₁.heap -> (∀ b, H b ≠ none -> b = a) -> (H a ≠ none -> K.lookup a = none) ->
      codeAny (model P w) callerA (.call (.ref fa) ⟨[.ref a], []⟩) (fun r s' => r = .ok (.ret (.bool true)) /\ OldK s₁.heap s'.heap /\ s'.os = s₁.os /\ AllBare s'.gens) s₁ := by
    intro H hO hS hok hA hK
    have base_of : ∀ {b : Addr} {o : Obj}, s₁.heap.get? b = some o -> H b = none -> (hidT s₁.heap H).get? b = some o := fun e n => B11 e n
    have noA : ∀ {b : Addr} {o : Obj} {es : Array DictEntry} {ep : Nat}, s₁.heap.get? b = some o -> o.data = .dict es ep -> H b = none := fun {b o es ep} e d => by
      cases q : H b with
      | none => rfl
      | some u =>
        have e' : b = a := hA b (by rw [q]; simp)
        subst e'
        rw [ha] at e; cases e
        have d' : Data.seq vs.toArray _ = Data.dict es ep := d
        cases d'
    have nsK : ∀ {b : Addr} {m : Str -> Option Value}, s₁.heap.Ns b m -> (hidT s₁.heap H).Ns b m := fun {b m} ⟨o, es, ep, e, d, r⟩ => ⟨o, es, ep, base_of e (noA e d), d, r⟩
    have hKb : K.In (hidT s₁.heap H) := fun b o e => base_of (KX b o e) (by
      cases q : H b with
      | none => rfl
      | some u =>
        have e' : b = a := hA b (by rw [q]; simp)
        subst e'
        rw [hK (by rw [q]; simp)] at e; cases e)
    have hM : Mod K mg (hidT s₁.heap H) := ⟨hKb, nsK hns, ⟨mb, nsK hb, hbb⟩, let ⟨mc, h1, h2⟩ := hlim; ⟨mc, nsK h1, h2⟩⟩
    have e0 : Env0 P w K mg (hidT s₁.heap H) callerA [] s₁ H := ⟨rfl, hM, fun b o e => B65 e, Nat.le_of_eq (A9j _ _), trivial, fun b hb => absurd (show b ∈ ([] : List Addr) from hb) (by simp), hok, .of_eq hg⟩
    refine codeAny_mono ((F _ hKb (nsK hns)).run callerA [] s₁ H ⟨[.ref a], []⟩ [.ref a] [.ref a] _ _ hr e0 (hbind s₁ (.ref a)) (.cons rfl .nil) (hsp H hO hS)) fun r s' h => ?_
    cases r with
    | error e => exact (hCX H e s' h).elim
    | ok fl =>
      cases fl with
      | next => exact False.elim h
      | brk => exact False.elim h
      | cont => exact False.elim h
      | ret u =>
        obtain ⟨v, H', os, bare, un, hok', r', q⟩ := h
        have q' : v = .bl true := q
        subst q'
        obtain rfl : u = Value.bool true := r'
        refine ⟨rfl, OldK.of_keep fun b o e => ?_, os, bare⟩
        cases q : H b with
        | none => exact un.keep b o e q (by intro z; exact absurd (show b ∈ ([] : List Addr) from z) (by simp)) (by simp)
        | some u =>
          rcases hO b with z | ⟨ob, xs, z⟩
          · rw [q] at z; cases z
          · have z2 := un.frzs b ob _ z
            obtain ⟨e1, _⟩ := hok b _ z
            obtain ⟨e2, _⟩ := hok' b _ z2
            rw [e] at e1; cases e1
            exact e2
  cases hk : K.lookup a with
  | some o =>
    have e := KX a o hk
    rw [ha] at e
    cases e
    refine core (fun _ => none) (fun _ => .inl rfl) (.inr ⟨_, vs.toArray, _, hk, rfl, rfl, rfl, by rw [List.size_toArray, lenV]; exact hl, by simpa using rv⟩) (fun b u z => by have z' : (none : Option HO) = some u := z; cases z') (fun b z => absurd rfl z) fun z => absurd rfl z
  | none =>
    refine core (fun b => if b = a then some (.frz { cls := .type "list", data := .seq vs.toArray } (.lst (ns.map V.int))) else none) (fun b => ?_) (.inl (.inr ⟨{ cls := .type "list", data := .seq vs.toArray }, if_pos rfl⟩)) (fun b u z => ?_) (fun b z => ?_) fun _ => hk
    · by_cases hb : b = a
      · exact .inr ⟨_, _, if_pos hb⟩
      · exact .inl (if_neg hb)
    · by_cases hb : b = a
      · have z' := (if_pos hb).symm.trans z
        cases z'
        subst hb
        exact ⟨ha, by rw [List.length_map]; exact hl, vs, _, rv, ha⟩
      · have z' := (if_neg hb).symm.trans z
        cases z'
    · by_cases hb : b = a
      · exact hb
      · exact absurd (if_neg hb) z
end L2
namespace L2
open PySem PySem.Spec PyProof.Rows
abbrev KOf {K : PySem.W.Frag} {h : Heap} (_ : K.In h) : PySem.W.Frag := K
theorem B5c {l : PySem.W.OpenLaw} {n k : Nat} {q : Program} {loose : List Str} {XP : (Str -> Option Value) -> Heap -> Prop} {YP : World -> Heap -> Prop} {d : DefRec} {K : Params -> PySem.W.Frag} {CX : World -> CXT} {sp : World -> Sp} {x : Str}
    (hn : l.most = some n) (hn2 : n <= sizeLine) (hdf : d.params.defaults = []) (hr : Room k callerA)
    (hY : ∀ (w : World) (h : Heap), YP w h -> (K w.params).In h)
    (F : ∀ (w : World) (mg : Str -> Option Value) (fa : Addr) (h : Heap), (K w.params).In h -> h.Ns mainGlobals mg -> mg d.name = some (.ref fa) ->
      ∃ fd : FuncData, (∀ (s : Shared) (u : Value), BindsTo s fd ⟨[u], []⟩ [(x, u)]) /\
        ∀ base : Heap, (K w.params).In base -> base.Ns mainGlobals mg -> FnOk l.prog w (K w.params) mg base (CX w) k fa fd [x] (sp w))
    (hsp : ∀ (w : World) (H : Hp) (a : Addr) (ns : List Int), ns.length <= n -> Only H -> SqL (K w.params) H a (ns.map V.int) -> sp w [.ref a] H (fun v _ => v = .bl true) fun _ _ _ => False)
    (hCX : ∀ (w : World) (H : Hp) (s : Shared) (e : Value) (s' : Shared), CX w [] H s (fun _ _ _ => False) e s' -> False) :
    PySem.W.WalkO q loose XP YP l.row.toRowW d [] (fun f vs => PySem.call f vs) := by
  refine Att.attach_call hn hdf fun w s₀ s₁ mg mb fa o pm cd doc a vs ns G Y ho hd hcd hmg hobj hints hlen hg => ?_
  have KX := hY w _ Y
  obtain ⟨fd, hb, hF⟩ := F w mg fa _ KX G.T.g hmg
  exact B1x KX G.T.g G.T.b G.T.builtins G.T.nolimit hg hobj hints (Nat.le_trans hlen hn2) hr hF hb (fun H hO hS => hsp w H a ns hlen hO hS) fun H e s' => hCX w H s₁ e s'
end L2
namespace L2
open PySem PySem.Spec PyProof.Rows
abbrev CX0 : CXT := fun _ _ _ _ _ _ => False
abbrev E0 : XK := fun _ _ _ => False
theorem B4 {X : Cx} : V6 CX0 X E0 := fun _ _ _ _ _ _ _ h => h.elim
structure Fun (K : PySem.W.Frag) (x qual : Str) (st : Stmt) (f : Addr) (fd : FuncData) : Prop where
  ex : ∃ (oc : Value) (od : Option Addr) (kV doc pm : Value) (an : Option Addr) (cdv ct : Value) (osl : Array (Option Value)),
    fd = PySem.W.fnOf x qual (B0 st) (A9 st) (A5 st) .none kV doc pm an cdv ct /\ K.lookup f = some ⟨oc, od, .func fd, osl⟩ /\ PySem.W.codeIn K cdv qual = true
  kp : PySem.W.keepIn K (.ref f) = true
section
variable {P : Program} {w : World} {K : PySem.W.Frag} {mg : Str -> Option Value} {base : Heap}
theorem Fun.ok {x qual : Str} {st : Stmt} {f : Addr} {fd : FuncData} {N ps : List Str} {k : Nat} {sp : Sp} (F : Fun K x qual st f fd) (S : FnScope N ps (A5 st)) (len : ∀ vs H Q E, sp vs H Q E -> vs.length = ps.length)
    (hbody : ∀ (cdv : Value) (A : Around) (outer : List Env) (s : Shared) (H : Hp) (vs : List V) (Q : VK) (E : XK), Room k (A.deeper (envOfC qual (A5 st) s.heap.objs.size f cdv)) -> sp vs H Q E ->
      ∃ t, PSs (cxOf CX0 P w K mg base N qual (A5 st) f cdv A outer s H E).nox (A9 st) t /\ t { nx := fun _ H' => Q .non H', rt := Q } (start N vs) H) : FnOk P w K mg base CX0 (k + 1) f fd ps sp := by
  obtain ⟨oc, od, kV, doc, pm, an, cdv, ct, osl, rfl, lk, hcd⟩ := F.ex
  refine C0j lk hcd S len fun A outer s H vs Q E hr hsp => ?_
  obtain ⟨t, h, q⟩ := hbody cdv A outer s H vs Q E hr hsp
  exact ⟨t, h.nox, q⟩
theorem Fun.binds {x qual : Str} {st : Stmt} {f : Addr} {fd : FuncData} {ps : List Str} (F : Fun K x qual st f fd)
    (h : ∀ (kV doc pm : Value) (an : Option Addr) (cdv ct : Value) (us : List Value), us.length = ps.length -> bindArgs (PySem.W.fnOf x qual (B0 st) (A9 st) (A5 st) .none kV doc pm an cdv ct) ⟨us, []⟩ = pure (ps.zip us)) : Binds K fd ps [] := by
  obtain ⟨oc, od, kV, doc, pm, an, cdv, ct, osl, rfl, lk, hcd⟩ := F.ex
  exact .all (h kV doc pm an cdv ct)
theorem D0 {x qual : Str} {st : Stmt} {f : Addr} {oc : Value} {od an : Option Addr} {osl : Array (Option Value)} {kV doc pm cdv ct : Value} (l : K.lookup f = some ⟨oc, od, .func (PySem.W.fnOf x qual (B0 st) (A9 st) (A5 st) .none kV doc pm an cdv ct), osl⟩)
    (c : PySem.W.codeIn K cdv qual = true) (k : PySem.W.keepIn K (.ref f) = true) : Fun K x qual st f (PySem.W.fnOf x qual (B0 st) (A9 st) (A5 st) .none kV doc pm an cdv ct) := ⟨⟨oc, od, kV, doc, pm, an, cdv, ct, osl, rfl, l, c⟩, k⟩
end
theorem R1 {n : Nat} (h : n <= 1000) : n < sizeLine := Nat.lt_of_le_of_lt h (by decide)
section
variable {X : Cx}
theorem pv (i : Nat) {x : Str} {pos : Pos} (hN : X.N[i]? = some x := by rfl) (hv : Vis X.env.scope x := by first | exact Or.inl rfl | exact Or.inr (Or.inl rfl) | exact Or.inr (Or.inr rfl)) (hd : (x == ("__debug__" : Str)) = false := by decide)
    (hcd : (x == ("__classdict__" : Str)) = false := by decide) : PE X (.Name x pos) (tVar i) := A6b hN hv hd hcd
end
theorem iteF {A B : Prop} (h : B) : if false = true then A else B := by
  rw [if_neg Bool.false_ne_true]
  exact h
theorem iteT {A B : Prop} (h : A) : if true = true then A else B := by
  rw [if_pos rfl]
  exact h
theorem ite2 {c A B : Prop} [Decidable c] (h1 : c -> A) (h2 : ¬ c -> B) : if c then A else B := by
  by_cases h : c
  · rw [if_pos h]
    exact h1 h
  · rw [if_neg h]
    exact h2 h
def Same (H H' : Hp) : Prop := ∀ b o, H b = some o -> H' b = some o
theorem Same.refl (H : Hp) : Same H H := fun _ _ h => h
theorem Same.trans {H H1 H2 : Hp} (a : Same H H1) (b : Same H1 H2) : Same H H2 := fun c o h => b c o (a c o h)
theorem Same.seq {K : PySem.W.Frag} {H H' : Hp} {a : Addr} {xs : List V} (e : Same H H') (h : SqL K H a xs) : SqL K H' a xs := by
  rcases h with (h | ⟨o, h⟩) | h
  · exact .inl (.inl (e _ _ h))
  · exact .inl (.inr ⟨o, e _ _ h⟩)
  · exact .inr h
end L2
namespace My
def Sm (k : Nat) (x : Int) : Prop := x.natAbs < 2 ^ k
theorem Sm.mono {k l : Nat} {x : Int} (h : Sm k x) (e : k <= l) : Sm l x := Nat.lt_of_lt_of_le h (Nat.pow_le_pow_right (by decide) e)
theorem Sm.mul {k l : Nat} {x y : Int} (h : Sm k x) (g : Sm l y) : Sm (k + l) (x * y) := by
  unfold Sm at *
  rw [Int.natAbs_mul, Nat.pow_add]
  rcases Nat.eq_zero_or_pos y.natAbs with e | e
  · rw [e, Nat.mul_zero]; exact Nat.mul_pos (Nat.two_pow_pos _) (Nat.two_pow_pos _)
  · exact Nat.lt_of_lt_of_le (Nat.mul_lt_mul_of_pos_right h e) (Nat.mul_le_mul_left _ (Nat.le_of_lt g))
theorem Sm.add {k : Nat} {x y : Int} (h : Sm k x) (g : Sm k y) : Sm (k + 1) (x + y) := by
  unfold Sm at *
  rw [Nat.pow_succ]
  have := Int.natAbs_add_le x y
  omega
theorem Sm.neg {k : Nat} {x : Int} (h : Sm k x) : Sm k (-x) := by
  unfold Sm at *
  rw [Int.natAbs_neg]; exact h
theorem Sm.sub {k : Nat} {x y : Int} (h : Sm k x) (g : Sm k y) : Sm (k + 1) (x - y) := by
  rw [Int.sub_eq_add_neg]; exact h.add g.neg
theorem Sm.le {k : Nat} {x y : Int} (h : Sm k x) (g : y.natAbs <= x.natAbs) : Sm k y := Nat.lt_of_le_of_lt g h
theorem Sm.log {k : Nat} {x : Int} (h : Sm k x) (hk : 0 < k) : x.natAbs.log2 < k := by
  by_cases h0 : x.natAbs = 0
  · rw [h0]; exact hk
  · exact (Nat.log2_lt h0).mpr h
theorem A9l (a b : Int) : Int.gcd b (a % b) = Int.gcd a b := by
  have h : a % b = a + b * (-(a / b)) := by
    have := Int.emod_def a b
    rw [this, Int.mul_neg]; omega
  rw [h, Int.gcd_add_mul_left_right, Int.gcd_comm]
theorem B7f (a b : Int) : Int.gcd (if a < 0 then -a else a) (if b < 0 then -b else b) = Int.gcd a b := by
  unfold Int.gcd
  congr 1
  · split <;> omega
  · split <;> omega
theorem A3k (a : Int) (h : 0 <= a) : ((Int.gcd a 0 : Nat) : Int) = a := by
  rw [Int.gcd_zero_right]; omega
def sh (t b : Int) : Int := if b < 0 then -((Int.gcd t b : Nat) : Int) else ((Int.gcd t b : Nat) : Int)
theorem B77 {t b : Int} (h : b ≠ 0) : sh t b ≠ 0 := by
  have : Int.gcd t b ≠ 0 := fun e => h (Int.gcd_eq_zero_iff.mp e).2
  unfold sh; split <;> omega
theorem B78 (t b : Int) : (sh t b).natAbs = Int.gcd t b := by
  unfold sh; split <;> omega
theorem A2a (t b : Int) : sh t b ∣ t := by
  unfold sh; split
  · exact Int.neg_dvd.mpr (Int.gcd_dvd_left ..)
  · exact Int.gcd_dvd_left ..
theorem B0v (t b : Int) : sh t b ∣ b := by
  unfold sh; split
  · exact Int.neg_dvd.mpr (Int.gcd_dvd_right ..)
  · exact Int.gcd_dvd_right ..
theorem A8f {t b : Int} (h : b ≠ 0) : t.fdiv (sh t b) = (Rat.divInt t b).num := by
  rw [Int.fdiv_eq_ediv_of_dvd (A2a t b), Rat.num_divInt, Int.gcd_comm b t]
  unfold sh
  split
  · rename_i h1
    rw [Int.sign_eq_neg_one_of_neg h1, Int.ediv_neg, Int.neg_one_mul, Int.neg_ediv_of_dvd (Int.gcd_dvd_left ..)]
  · rename_i h1
    rw [Int.sign_eq_one_of_pos (by omega), Int.one_mul]
theorem B69 {t b : Int} (h : b ≠ 0) : b.fdiv (sh t b) = ((Rat.divInt t b).den : Int) := by
  rw [Int.fdiv_eq_ediv_of_dvd (B0v t b), Rat.den_divInt, if_neg h, Int.gcd_comm b t]
  unfold sh
  split
  · rename_i h1
    rw [Int.ediv_neg, Int.natCast_ediv]
    have e : (b.natAbs : Int) = -b := by omega
    rw [e, Int.neg_ediv_of_dvd (Int.gcd_dvd_right ..)]
  · rename_i h1
    rw [Int.natCast_ediv]
    have e : (b.natAbs : Int) = b := by omega
    rw [e]
theorem B9v (t b : Int) : (Rat.divInt t b).num.natAbs <= t.natAbs := by
  by_cases h : b = 0
  · subst h; simp [Rat.divInt_zero]
  · rw [<- A8f h, Int.fdiv_eq_ediv_of_dvd (A2a t b)]
    have := Int.natAbs_ediv_le_natAbs t (sh t b)
    exact this
theorem C0r {t b : Int} (h : b ≠ 0) : (Rat.divInt t b).den <= b.natAbs := by
  rw [Rat.den_divInt, if_neg h]
  exact Nat.div_le_self _ _
def SmQ (k : Nat) (q : Rat) : Prop := Sm k q.num /\ Sm k (q.den : Int)
theorem den0 (q : Rat) : (q.den : Int) ≠ 0 := by have := q.den_nz; omega
theorem denp (q : Rat) : 0 < (q.den : Int) := by have := q.den_nz; omega
theorem den2 (p q : Rat) : (p.den : Int) * (q.den : Int) ≠ 0 := Int.mul_ne_zero (den0 p) (den0 q)
theorem B8k (p q : Rat) : Rat.divInt (p.num * q.den + q.num * p.den) ((p.den : Int) * q.den) = p + q := by
  rw [<- Rat.divInt_add_divInt _ _ (den0 p) (den0 q), Rat.num_divInt_den, Rat.num_divInt_den]
theorem B8h (p q : Rat) : Rat.divInt (p.num * q.den - q.num * p.den) ((p.den : Int) * q.den) = p - q := by
  rw [<- Rat.divInt_sub_divInt _ _ (den0 p) (den0 q), Rat.num_divInt_den, Rat.num_divInt_den]
theorem B8i (p q : Rat) : Rat.divInt (p.num * q.num) ((p.den : Int) * q.den) = p * q := by
  rw [<- Rat.divInt_mul_divInt, Rat.num_divInt_den, Rat.num_divInt_den]
theorem B8j (p q : Rat) : Rat.divInt (p.num * q.den) ((p.den : Int) * q.num) = p / q := by
  rw [Rat.div_def, Rat.inv_def, <- Rat.divInt_mul_divInt, Rat.num_divInt_den]
def W : List Rat -> Nat
  | [] => 1
  | q :: r => q.den * W r
def S : List Rat -> Rat
  | [] => 0
  | q :: r => q + S r
theorem C19 (a b : List Rat) : S (a ++ b) = S a + S b := by
  induction a with
  | nil => simp only [List.nil_append, S, Rat.zero_add]
  | cons q r ih => simp only [List.cons_append, S, ih, Rat.add_assoc]
end My
namespace My
def SmR (n d : Nat) (q : Rat) : Prop := Sm n q.num /\ Sm d (q.den : Int)
theorem SmR.mono {n d n' d' : Nat} {q : Rat} (h : SmR n d q) (h1 : n <= n') (h2 : d <= d') : SmR n' d' q := ⟨h.1.mono h1, h.2.mono h2⟩
theorem SmR.q {n d : Nat} {q : Rat} (h : SmR n d q) (h1 : n <= 3900) (h2 : d <= 3900) : SmQ 3900 q := ⟨h.1.mono h1, h.2.mono h2⟩
theorem SmR.low {n d : Nat} {t b : Int} (h : Sm n t) (g : Sm d b) (hb : b ≠ 0) : SmR n d (Rat.divInt t b) :=
  ⟨h.le (B9v t b), g.le (by simpa using C0r hb)⟩
theorem SmR.add {a b c e : Nat} {p q : Rat} (h : SmR a b p) (g : SmR c e q) : SmR (max (a + e) (c + b) + 1) (b + e) (p + q) := by
  rw [<- B8k]
  exact SmR.low (((h.1.mul g.2).mono (Nat.le_max_left ..)).add ((g.1.mul h.2).mono (Nat.le_max_right ..))) (h.2.mul g.2) (den2 p q)
theorem SmR.sub {a b c e : Nat} {p q : Rat} (h : SmR a b p) (g : SmR c e q) : SmR (max (a + e) (c + b) + 1) (b + e) (p - q) := by
  rw [<- B8h]
  exact SmR.low (((h.1.mul g.2).mono (Nat.le_max_left ..)).sub ((g.1.mul h.2).mono (Nat.le_max_right ..))) (h.2.mul g.2) (den2 p q)
theorem SmR.mul {a b c e : Nat} {p q : Rat} (h : SmR a b p) (g : SmR c e q) : SmR (a + c) (b + e) (p * q) := by
  rw [<- B8i]
  exact SmR.low (h.1.mul g.1) (h.2.mul g.2) (den2 p q)
theorem A79 {q : Rat} (h : q ≠ 0) : q.num ≠ 0 := fun e => h (Rat.num_eq_zero.mp e)
theorem B66 {q : Rat} (h : 0 < q) : 0 < q.num := by
  have := (Rat.lt_iff 0 q).mp h
  simpa using this
theorem SmR.div {a b c e : Nat} {p q : Rat} (h : SmR a b p) (g : SmR c e q) (hq : q ≠ 0) : SmR (a + e) (b + c) (p / q) := by
  rw [<- B8j]
  exact SmR.low (h.1.mul g.2) (h.2.mul g.1) (Int.mul_ne_zero (den0 p) (A79 hq))
theorem N9 {t b : Int} (h : 0 <= t) (hb : 0 < b) : 0 <= Rat.divInt t b := (Rat.divInt_nonneg_iff_of_pos_right hb).mpr h
theorem C1e {t b : Int} (h : 0 < t) (hb : 0 < b) : 0 < Rat.divInt t b := by
  refine Rat.lt_of_le_of_ne (N9 (by omega) hb) fun e => ?_
  have h1 : Rat.divInt 0 b = Rat.divInt t b := by rw [Rat.zero_divInt]; exact e
  have := (Rat.divInt_eq_divInt_iff (by omega) (by omega)).mp h1
  have h2 : t * b = 0 := by simpa using this.symm
  rcases Int.mul_eq_zero.mp h2 with z | z <;> omega
theorem A23 (p q : Rat) : decide (p.num * q.den < q.num * p.den) = decide (p < q) := by
  rw [Bool.eq_iff_iff, decide_eq_true_iff, decide_eq_true_iff, Rat.lt_iff]
def Dec : List (Rat × Rat) -> Prop
  | [] => True
  | [_] => True
  | c :: d :: r => d.1 < c.1 /\ Dec (d :: r)
theorem Dec.tail {c : Rat × Rat} {r : List (Rat × Rat)} (h : Dec (c :: r)) : Dec r := by
  cases r with
  | nil => trivial
  | cons d r => exact h.2
theorem Dec.lt {c : Rat × Rat} {r : List (Rat × Rat)} (h : Dec (c :: r)) : ∀ d ∈ r, d.1 < c.1 := by
  induction r generalizing c with
  | nil => intro d hd; exact absurd hd (by simp)
  | cons e r ih =>
    intro d hd
    rcases List.mem_cons.mp hd with rfl | hd
    · exact h.1
    · have h3 := ih h.2 d hd
      have h4 : e.1 < c.1 := h.1
      grind
theorem Dec.snoc : ∀ {r : List (Rat × Rat)} {c d : Rat × Rat}, Dec (r ++ [c]) -> d.1 < c.1 -> Dec (r ++ [c] ++ [d])
  | [], c, d, _, h => ⟨h, trivial⟩
  | [e], c, d, hd, h => ⟨hd.1, h, trivial⟩
  | e :: f :: r, c, d, hd, h => ⟨hd.1, Dec.snoc (r := f :: r) hd.2 h⟩
theorem Dec.get : ∀ {l : List (Rat × Rat)} {i j : Nat} {c d : Rat × Rat}, Dec l -> l[i]? = some c -> l[j]? = some d -> i < j -> d.1 < c.1
  | [], i, j, c, d, _, h, _, _ => by simp at h
  | e :: r, 0, j + 1, c, d, hd, h, g, _ => by
    have h' : e = c := by simpa using h
    subst h'
    exact hd.lt d (List.mem_of_getElem? (by simpa using g))
  | e :: r, i + 1, j + 1, c, d, hd, h, g, hij => Dec.get (l := r) hd.tail (by simpa using h) (by simpa using g) (by omega)
end My
namespace L2
open PySem PySem.Spec PyProof.Rows
section
variable {X : Cx}
theorem V1 {x : Int} (h : My.Sm 8000 x) : Builtin.Int.intBits x <= 2 ^ 20 := by
  have e : (2 : Nat) ^ 20 = 1048576 := by decide
  have h2 := h.log (by decide)
  unfold Builtin.Int.intBits
  split <;> omega
def B7v (i j : Int) : Prop := My.Sm 8000 i /\ My.Sm 8000 j
def C2b (_ j : Int) : Prop := j ≠ 0 /\ My.Sm 8000 j
theorem D2 : OpR X (binaryOp .Mult) (rI B7v fun i j => .int (i * j)) := opI fun _ _ _ _ _ _ _ hc q => mul_int q (.of_bits (V1 hc.1) (V1 hc.2))
theorem G4 : OpR X (binaryOp .FloorDiv) (rI C2b fun i j => .int (i.fdiv j)) := opI fun _ _ _ _ _ _ _ hc q =>
  floordiv_int hc.1 q (.inl (PyProof.noPylong_of_log2 (Nat.lt_of_lt_of_le (hc.2.log (by decide)) (by decide))))
def kitB (T c : String) : Option Bool := if (Value.type T == Value.type c) = true then some true else if PySem.W.kitMeta c = true then (fastBuiltinMro T).map (·.contains (Value.type c)) else none
theorem A3c (K : PySem.W.Frag) {T c : String} {b : Bool} (h : kitB T c = some b) : PySem.W.kitOne K (.type T) (.type c) = some b := h
def TyV (K : PySem.W.Frag) (H : Hp) (x : V) (T : String) : Prop := match x with
  | .non => T = "NoneType"
  | .bl _ => T = "bool"
  | .int _ => T = "int"
  | .str _ => T = "str"
  | .ref a => (T = "list" /\ ∃ xs, SqL K H a xs) \/ (T = "tuple" /\ ∃ xs, SqT K H a xs) \/ (T = "dict" /\ ∃ kvs, H a = some (.dK kvs))
  | _ => False
theorem A1t : CallR X (.builtin "isinstance") (fun xs H Q => ∃ x c T b, xs = [x, .ty c] /\ TyV X.K H x T /\ kitB T c = some b /\ Q (.bl b) H) := by
  intro pins s σ H xs us Q I r h
  obtain ⟨x, c, T, b, rfl, ty, e, q⟩ := h
  obtain ⟨u, v, rfl, ru, rv⟩ := Vals.two r
  cases (show v = Value.type c from rv)
  have fin : ∀ tk, EP X pins σ Q (.bool b) { s with toks := tk } := fun tk => ⟨.bl b, H, I.tok tk, rfl, q⟩
  have e' := A3c X.K e
  cases x with
  | non => cases (show T = _ from ty); cases (show u = Value.none from ru); exact PySem.W.kia_one PySem.W.kitx_none I.kIn True.intro e' (fun z => nomatch z) fin
  | bl y => cases (show T = _ from ty); cases (show u = Value.bool y from ru); exact PySem.W.kia_one PySem.W.kitx_bool I.kIn True.intro e' (fun z => nomatch z) fin
  | int i => cases (show T = _ from ty); obtain ⟨t, q'⟩ := (show ∃ t, u = Value.int i t from ru); cases q'; exact PySem.W.kia_one PySem.W.kitx_int I.kIn True.intro e' (fun z => nomatch z) fin
  | str y => cases (show T = _ from ty); obtain ⟨t, q'⟩ := (show ∃ t, u = Value.str y t from ru); cases q'; exact PySem.W.kia_one PySem.W.kitx_str I.kIn True.intro e' (fun z => nomatch z) fin
  | ref a =>
    cases (show u = Value.ref a from ru)
    rcases (show _ \/ _ \/ _ from ty) with ⟨rfl, xs, h⟩ | ⟨rfl, xs, h⟩ | ⟨rfl, kvs, h⟩
    · obtain ⟨its, _, ⟨o, n, h1, h2, _⟩, _⟩ := I.list h
      exact PySem.W.kia_one PySem.W.kitx_list I.kIn ⟨o, h1, h2⟩ e' (fun z => nomatch z) fin
    · obtain ⟨its, _, ⟨o, h1, h2, _⟩, _⟩ := I.tuple h
      exact PySem.W.kia_one PySem.W.kitx_tuple I.kIn ⟨o, h1, h2⟩ e' (fun z => nomatch z) fin
    · obtain ⟨_, _, vs, _, p⟩ := (show ObjOk X.prog X.w H s.heap a (.dK kvs) from I.hok a _ h)
      obtain ⟨o, es, ep, h1, h2, _⟩ := p
      exact PySem.W.kia_one PySem.W.kitx_dict I.kIn ⟨o, h1, h2.1⟩ e' (fun z => nomatch z) fin
  | byt _ => exact (show False from ty).elim
  | flt _ => exact (show False from ty).elim
  | ty _ => exact (show False from ty).elim
end
mutual
inductive Den (K : PySem.W.Frag) (H : Hp) : V -> PyData -> Prop
  | non : Den K H .non .none
  | bl (b : Bool) : Den K H (.bl b) (.bool b)
  | int (i : Int) : Den K H (.int i) (.int i)
  | str (x : Str) : Den K H (.str x) (.str x)
  | lst {a : Addr} {xs : List V} {ds : List PyData} : SqL K H a xs -> DenAll K H xs ds -> Den K H (.ref a) (.list ds)
  | tup {a : Addr} {xs : List V} {ds : List PyData} : SqT K H a xs -> DenAll K H xs ds -> Den K H (.ref a) (.tuple ds)
  | dct {a : Addr} {kvs : List (Key × V)} : H a = some (.dK kvs) -> Den K H (.ref a) (.dict (kvs.map fun _ => (.none, .none)))
inductive DenAll (K : PySem.W.Frag) (H : Hp) : List V -> List PyData -> Prop
  | nil : DenAll K H [] []
  | cons {x : V} {xs : List V} {d : PyData} {ds : List PyData} : Den K H x d -> DenAll K H xs ds -> DenAll K H (x :: xs) (d :: ds)
end
section
variable {X : Cx} {pins : List (Addr × Obj)} {σ : St} {H : Hp} {s : Shared}
mutual
theorem Den.reads (I : Inv X pins σ H s) : ∀ {x : V} {d : PyData} {u : Value}, Den X.K H x d -> RelV x u -> d.canLay0 = true -> ∃ as, Reads s.heap u d as
  | _, _, u, .non, r, _ => by cases (show u = Value.none from r); exact ⟨_, .none⟩
  | _, _, u, .bl b, r, _ => by cases (show u = Value.bool b from r); exact ⟨_, .bool b⟩
  | _, _, u, .int i, r, _ => by obtain ⟨t, q⟩ := (show ∃ t, u = Value.int i t from r); cases q; exact ⟨_, .int i t⟩
  | _, _, u, .str x, r, _ => by obtain ⟨t, q⟩ := (show ∃ t, u = Value.str x t from r); cases q; exact ⟨_, .str x t⟩
  | _, _, u, .lst (a := a) h ds, r, cl => by
    cases (show u = Value.ref a from r)
    obtain ⟨its, rv, ⟨o, n, h1, h2, _, h3⟩, _⟩ := I.list h
    obtain ⟨as, q⟩ := DenAll.reads I ds rv cl
    exact ⟨_, .list h1 h2 h3 (by simpa using q)⟩
  | _, _, u, .tup (a := a) h ds, r, cl => by
    cases (show u = Value.ref a from r)
    obtain ⟨its, rv, ⟨o, h1, h2, n, h3⟩, _⟩ := I.tuple h
    obtain ⟨as, q⟩ := DenAll.reads I ds rv cl
    exact ⟨_, .tuple h1 h2 h3 (by simpa using q)⟩
  | _, _, _, .dct _, _, cl => absurd (show false = true from cl) Bool.false_ne_true
theorem DenAll.reads (I : Inv X pins σ H s) : ∀ {xs : List V} {ds : List PyData} {us : List Value}, DenAll X.K H xs ds -> Vals xs us -> PyData.canLayAll0 ds = true -> ∃ as, ReadsAll s.heap us ds as
  | _, _, _, .nil, .nil, _ => ⟨_, .nil⟩
  | _, d :: ds, _, .cons h t, .cons r rs, cl => by
    have cl' : (d.canLay0 && PyData.canLayAll0 ds) = true := cl
    rw [Bool.and_eq_true] at cl'
    obtain ⟨as, q⟩ := Den.reads I h r cl'.1
    obtain ⟨bs, q'⟩ := DenAll.reads I t rs cl'.2
    exact ⟨_, .cons q q'⟩
end
end
section
variable {X : Cx}
def rEqD (K : PySem.W.Frag) : R2 := fun x y H Q => ∃ dx dy, Den K H x dx /\ Den K H y dy /\ dx.canLay0 = true /\ dy.canLay0 = true /\ dx.depth <= 60 /\ Q (.bl (PyData.eqv dx dy)) H
def rNeD (K : PySem.W.Frag) : R2 := fun x y H Q => ∃ dx dy, Den K H x dx /\ Den K H y dy /\ dx.canLay0 = true /\ dy.canLay0 = true /\ dx.depth <= 60 /\ Q (.bl (!PyData.eqv dx dy)) H
theorem B9n (hu : X.A.units + 64 < cLine) : OpR X (compareOp .Eq) (rEqD X.K) := by
  intro pins s σ H x y v u Q I rx ry h
  obtain ⟨dx, dy, h1, h2, c1, c2, hd, q⟩ := h
  obtain ⟨as, r1⟩ := h1.reads I rx c1
  obtain ⟨bs, r2⟩ := h2.reads I ry c2
  exact PySem.SeqAt.compareEq_reads r1 r2 c1 c2 (by omega) ⟨.bl _, H, I, rfl, q⟩
theorem B9k (hu : X.A.units + 64 < cLine) : OpR X (compareOp .NotEq) (rNeD X.K) := by
  intro pins s σ H x y v u Q I rx ry h
  obtain ⟨dx, dy, h1, h2, c1, c2, hd, q⟩ := h
  obtain ⟨as, r1⟩ := h1.reads I rx c1
  obtain ⟨bs, r2⟩ := h2.reads I ry c2
  exact PySem.SeqAt.compareNe_reads r1 r2 c1 c2 (by omega) ⟨.bl _, H, I, rfl, q⟩
end
def Kp (p : Addr) (H H' : Hp) : Prop := ∀ b o, b ≠ p -> H b = some o -> H' b = some o
theorem Kp.upd {p : Addr} {H : Hp} {o : HO} : Kp p H (upd H p o) := fun b u n e => by rw [C9 n]; exact e
theorem Kp.trans {p : Addr} {H H1 H2 : Hp} (a : Kp p H H1) (b : Kp p H1 H2) : Kp p H H2 := fun c o n e => b c o n (a c o n e)
theorem Kp.refl {p : Addr} {H : Hp} : Kp p H H := fun _ _ _ e => e
theorem Same.kp {p : Addr} {H H' : Hp} (a : Same H H') : Kp p H H' := fun b o _ e => a b o e
theorem Same.upd {p : Addr} {H : Hp} {o : HO} (h : H p = none) : Same H (upd H p o) := fun b u e => by rw [C9 (D5 e h)]; exact e
theorem SqT.same {K : PySem.W.Frag} {H H' : Hp} {a : Addr} {xs : List V} (e : Same H H') (h : SqT K H a xs) : SqT K H' a xs := by
  rcases h with (h | ⟨o, h⟩) | h
  · exact .inl (.inl (e _ _ h))
  · exact .inl (.inr ⟨o, e _ _ h⟩)
  · exact .inr h
theorem at0 {α : Type} {x : α} {xs : List α} : atI (x :: xs) 0 = some x := F5 (j := 0) rfl
theorem at1 {α : Type} {x y : α} {xs : List α} : atI (x :: y :: xs) 1 = some y := F5 (j := 1) rfl
theorem at2 {α : Type} {x y z : α} {xs : List α} : atI (x :: y :: z :: xs) 2 = some z := F5 (j := 2) rfl
theorem at3 {α : Type} {x y z w : α} {xs : List α} : atI (x :: y :: z :: w :: xs) 3 = some w := F5 (j := 3) rfl
end L2
namespace L2
open PySem PySem.Spec PyProof.Rows
theorem A0s {prog : Program} {w : World} {A : Around} {R : Result -> Shared -> Prop} {s : Shared} {elt target iter : Expr} {ifs : List Expr} {scope : Scope} {pos : Pos} {it acc : Value} {env : Env} (I : Nat -> Shared -> Prop)
    (turn : ∀ n s, I n s -> wpAny (model prog w) A (pyNext it) (fun r s₁ => match r with
      | none => R (.ok .next) s₁
      | some v => wpAny (model prog w) A (letOwnedTupleGo target it v) (fun _ s₁' => wpAny (model prog w) A (assign target env v) (fun _ s₂ =>
          wpAny (model prog w) A (forIn ifs true fun c r => if r = true then do let ok <- isTrue c env (eval c env); pure (ForInStep.yield ok) else pure (ForInStep.yield r)) (fun ok s₃ =>
            if ok = true then wpAny (model prog w) A (eval elt env) (fun x s₄ =>
              wpAny (model prog w) A (call (.builtin "list.append") [acc, x]) (fun _ s₅ => ∃ m, m < n /\ I m s₅) (fun _ _ => False) s₄) (fun _ _ => False) s₃
            else ∃ m, m < n /\ I m s₃) (fun _ _ => False) s₂) (fun _ _ => False) s₁') (fun _ _ => False) s₁) (fun _ _ => False) s)
    (n : Nat) (h : I n s) : codeAny (model prog w) A (.compLoop (.ListComp elt [⟨target, iter, ifs, 0⟩] scope pos) 0 it acc env) R s := by
  refine codeAny_loop rfl I (fun n s hI => ?_) n h
  show wpAny _ A ((compTurn (.ListComp elt [⟨target, iter, ifs, 0⟩] scope pos) 0 it acc env).onRaise (fun x => do noteFrame x env; theTreesLotGoes x)) _ _ s
  refine wpAny_noted ?_
  rw [compTurn_list]
  refine wpAny_bind (wpAny_standAt (wpAny_bind (wpAny_mono (turn n s hI) (fun r s₁ h₁ => ?_) fun _ _ h' => h'.elim)))
  cases r with
  | none => exact wpAny_pure h₁
  | some v =>
    refine wpAny_bind (wpAny_mono h₁ (fun _ s₁' h₁' => ?_) fun _ _ h' => h'.elim)
    refine wpAny_bind (wpAny_mono h₁' (fun _ s₂ h₂ => wpAny_bind (wpAny_mono h₂ (fun ok s₃ h₃ => ?_) fun _ _ h' => h'.elim)) fun _ _ h' => h'.elim)
    cases ok with
    | false => exact wpAny_pure ⟨rfl, h₃⟩
    | true =>
      exact wpAny_bind (wpAny_bind (wpAny_mono h₃ (fun x s₄ h₄ => wpAny_bind (wpAny_mono h₄ (fun _ s₅ h₅ => wpAny_pure (wpAny_pure ⟨rfl, h₅⟩)) fun _ _ h' => h'.elim)) fun _ _ h' => h'.elim))
def PTs (X : Cx) (ifs : List Expr) (t : TT) : Prop :=
  ∀ (pins : List (Addr × Obj)) (s : Shared) (σ : St) (H : Hp) (Q : Bool -> Hp -> Prop), Inv X pins σ H s -> t σ H Q ->
    wpAny (model X.prog X.w) X.A (forIn ifs true fun c r => if r = true then do let ok <- isTrue c X.env (eval c X.env); pure (ForInStep.yield ok) else pure (ForInStep.yield r)) (TP X pins σ Q) X.xe s
def tYes : TT := fun _ H Q => Q true H
theorem B5z {X : Cx} : PTs X [] tYes := fun pins s σ H Q I h => wpAny_tests_nil ⟨H, I, h⟩
theorem B5y {X : Cx} {c : Expr} {t : TT} (h : PT X c t) : PTs X [c] t := fun pins s σ H Q I hw => wpAny_tests_one (h pins s σ H Q I hw)
def Cx.block (X : Cx) (scope : Scope) (cl : List (Str × Addr)) (N' : List Str) (s2 : Shared) (H2 : Hp) (fp : List Addr) : Cx where
  prog := X.prog
  w := X.w
  K := X.K
  mg := X.mg
  base := X.base
  A := X.A
  N := N'
  s₀ := s2
  H₀ := H2
  env := compEnvC scope cl s2.heap.objs.size X.env
  outer := X.stack
  stack := X.stack
  ex := fp
  fn := fun _ => false
  calm := X.calm
  pn := []
  xe := fun _ _ => False
structure CompSc (X : Cx) (scope : Scope) (cl : List (Str × Addr)) (N' : List Str) (cap : List (Option Nat)) : Prop where
  clos : closureFor scope X.env = pure cl
  sub : ∀ x c, cl.lookup x = some c -> X.env.cells.lookup x = some c
  has : ∀ x, ((relabel scope X.env).names.lookup x = some .cell \/ (relabel scope X.env).names.lookup x = some .free) -> ∃ c, cl.lookup x = some c
  kind : scope.kind = .function
  cell : ∀ y ∈ scope.names, y.2 ≠ .cell
  names : ∀ y ∈ scope.names, y.2 = .local -> scope.names.lookup y.1 = some .local
  nd : N'.Nodup
  len : cap.length = N'.length
  noloc : ∀ x c, cl.lookup x = some c -> X.env.kindOf x ≠ some .local
  capt : ∀ (i : Nat) (x : Str) (j : Nat), N'[i]? = some x -> cap[i]? = some (some j) -> X.N[j]? = some x /\ ((relabel scope X.env).names.lookup x = some .cell \/ (relabel scope X.env).names.lookup x = some .free) /\ Vis X.env.scope x /\ ∃ c, cl.lookup x = some c
def capσ (cap : List (Option Nat)) (σ : St) : St := cap.map fun o => o.bind fun j => (σ[j]?).join
section
variable {X : Cx} {pins : List (Addr × Obj)} {σ : St} {H : Hp} {s : Shared} {scope : Scope} {cl : List (Str × Addr)} {N' : List Str} {cap : List (Option Nat)} {fp : List Addr}
theorem B2e (I : Inv X pins σ H s) (C : CompSc X scope cl N' cap) (hf : ∀ b ∈ fp, FpOk X pins H b) (ho : ∀ b ∈ fp, ∃ o, s.heap.get? b = some o) : (X.block scope cl N' s H fp).Ok where
  mod := I.ok.mod
  kind := C.kind
  glob := I.ok.glob
  blt := I.ok.blt
  above := Nat.le_refl _
  inj := fun x y c h1 h2 => I.ok.inj x y c (C.sub x c h1) (C.sub y c h2)
  has := fun x h => C.has x h
  cab := fun x c h _ => absurd (show false = true from h) Bool.false_ne_true
  hd := I.ok.hd
  frames := I.ok.frames
  stk := .inl rfl
  exf := fun b hb => ⟨fun z => by
    obtain ⟨o, e⟩ := ho b hb
    exact absurd (Heap.lt_size e) (by rw [z]; exact Nat.lt_irrefl _), fun x c h => (hf b hb).2.2.2.2.1 x c (C.sub x c h)⟩
  bs := I.bs
  bsz := Nat.le_trans I.ok.bsz I.sz
  noex := fun b o e hb => by
    rcases (hf b hb).2.2.2.1 with z | z
    · exact I.ok.noex b o e z
    · exact absurd (Nat.lt_of_lt_of_le (Heap.lt_size e) (Nat.le_trans I.ok.bsz z)) (Nat.lt_irrefl _)
  exfs := fun b hb z => by
    rcases List.mem_cons.mp (I.stkSub b z) with e | e
    · exact (hf b hb).2.1 e
    · exact (hf b hb).2.2.1 e
  funs := I.stack
  frf := I.stkFree
theorem A02 {h1 : Heap} {tk : Nat} {m : Str -> Option Value} (I : Inv X pins σ H s) (C : CompSc X scope cl N' cap) (hf : ∀ b ∈ fp, FpOk X pins H b) (ho : ∀ b ∈ fp, ∃ o, s.heap.get? b = some o)
    (hn : h1.Ns s.heap.objs.size m) (hk : ∀ b o, s.heap.get? b = some o -> h1.get? b = some o) : Inv (X.block scope cl N' s H fp) [] (capσ cap σ) H { s with heap := h1, toks := tk } where
  ok := B2e I C hf ho
  os := rfl
  bare := I.bare
  base := Un.kept hk
  loc := ⟨m, hn, fun i x v h1' h2 h3 => by
    unfold capσ at h2
    rw [List.getElem?_map] at h2
    cases e : cap[i]? with
    | none => rw [e] at h2; cases h2
    | some o =>
      rw [e] at h2
      cases o with
      | none => cases h2
      | some j =>
        obtain ⟨q1, q2, q3, c, q4⟩ := C.capt i x j h1' e
        have hv : (σ[j]?).join = some v := Option.some.inj h2
        have hσ : σ[j]? = some (some v) := by
          cases z : σ[j]? with
          | none => rw [z] at hv; cases hv
          | some y => rw [z] at hv; cases (show y = some v from hv); rfl
        obtain ⟨m0, hn0, hl0⟩ := I.loc
        obtain ⟨u, r, l⟩ := hl0 j x v q1 hσ q3
        refine ⟨u, r, .inr ⟨q2, c, q4, ?_⟩⟩
        rcases l with ⟨l1, _⟩ | ⟨_, c', l2, l3⟩
        · exact absurd l1 (C.noloc x c q4)
        · have := C.sub x c q4
          rw [l2] at this
          cases this
          exact l3.keeps hk⟩
  cell := fun x c h => by
    obtain ⟨v, z⟩ := I.cell x c (C.sub x c h)
    exact ⟨v, z.keeps hk⟩
  free := I.hok.fresh (Nat.le_refl _)
  freeC := fun x c h => I.freeC x c (C.sub x c h)
  pin := fun p hp => absurd (show p ∈ ([] : List (Addr × Obj)) from hp) (by simp)
  hok := I.hok.kept hk
  len := by unfold capσ; rw [List.length_map]; exact C.len
theorem S8 {H' : Hp} {s' : Shared} {h' : Heap} {σ' : St} {pl : List (Addr × Obj)} (I : Inv X pins σ H s) (J : Inv (X.block scope cl N' s H fp) pl σ' H' s') (hf : ∀ b ∈ fp, FpOk X pins H b) (hs : Heap.SameBut s.heap.objs.size s'.heap h') :
    Inv X pins σ H' { s' with heap := h' } := by
  have ne : ∀ b o, s.heap.get? b = some o -> b ≠ s.heap.objs.size := fun b o e => Nat.ne_of_lt (Heap.lt_size e)
  have B : Un (frs X.stack) fp H H' s.heap s'.heap := J.base
  refine I.call' (s' := { s' with heap := h' }) (ch := fp) J.os ⟨fun b o e n h1 h2 => ?_, fun b o e n h1 h2 => ?_, B.free, fun b o e h2 => ?_, B.tups, B.frzs, B.tbls⟩ ?_ J.bare (fun b hb => ?_)
  · show h'.get? b = some o
    rw [hs.2 b (ne b o e)]; exact B.keep b o e n h1 h2
  · show ∃ sl, h'.get? b = _
    rw [hs.2 b (ne b o e)]; exact B.slot b o e n h1 h2
  · show ∃ o', h'.get? b = _
    rw [hs.2 b (ne b o e)]; exact B.there b o e h2
  · intro b u e
    have hfree : H' s.heap.objs.size = none := J.free
    have nC : ∀ c v, H' c = some v -> c ≠ s.heap.objs.size := fun c v q z => by rw [z, hfree] at q; cases q
    refine (J.hok b u e).stay (fun c v hc q => ?_) (fun _ q => q) fun _ _ q => q
    show h'.get? c = some v
    have : c ≠ s.heap.objs.size := by
      rcases hc with z | z
      · rw [z]; exact nC b u e
      · exact nC c _ z
    rw [hs.2 c this]; exact q
  · obtain ⟨f0, f1, f2, f3, f4, f5⟩ := hf b hb
    exact ⟨f3, f1, f4, f5⟩
end
def U9 (J : It) (g : TG) (tt : TT) (te : TE) (D : Addr) (Fin : Hp -> Prop) (σ0 : St) (H1 : Hp) : Prop :=
  ∃ W : Nat -> Nat -> St -> Hp -> List V -> Prop, (∃ m, W 0 m σ0 (upd H1 D (.lst [])) []) /\ ∀ i m σ' H' ys, W i m σ' H' ys -> H' D = some (.lst ys) /\ ys.length < sizeLine /\
    ((J.stop i H' /\ Fin H') \/ (J.go i H' /\ ∀ x H2, J.yld i H' x H2 -> g x σ' H2 fun σ2 H3 => tt σ2 H3 fun b H4 => if b = true then
      te σ2 H4 fun y H5 => ∃ zs, H5 D = some (.lst zs) /\ zs.length < sizeLine /\ ∃ m', m' < m /\ W (i + 1) m' σ2 (upd H5 D (.lst (zs ++ [y]))) (zs ++ [y])
      else ∃ m', m' < m /\ W (i + 1) m' σ2 H4 ys))
def A37 (wi : TI) (g : TG) (tt : TT) (te : TE) (cap : List (Option Nat)) : TE := fun σ H Q => wi σ H fun J H1 => ∀ D, H1 D = none -> U9 J g tt te D (fun H' => Q (.ref D) H') (capσ cap σ) H1
section
variable {X : Cx} {scope : Scope} {cl : List (Str × Addr)} {N' : List Str} {cap : List (Option Nat)} {elt tg iter : Expr} {ifs : List Expr} {wi : TI} {g : TG} {tt : TT} {te : TE} {pos : Pos}
theorem A01 {pins : List (Addr × Obj)} {σ : St} {H2 : Hp} {s2 : Shared} {it : Addr} {fp : List Addr} {tn : Nat -> Heap -> Prop} {J : It} {E : Value -> Shared -> Prop} {RR : Value -> Addr -> Result -> Shared -> Prop} {Fin : Addr -> Hp -> Prop}
    (hc : X.calm = true) (C : CompSc X scope cl N' cap) (I2 : Inv X pins σ H2 s2) (T : Turn X.prog X.w X.K tg J fp it tn) (st2 : tn 0 s2.heap) (f2 : ∀ b ∈ fp, FpOk X pins H2 b)
    (hg : ∀ s3 H3 fp, PG (X.block scope cl N' s3 H3 fp) tg g) (ht : ∀ s3 H3 fp, PTs (X.block scope cl N' s3 H3 fp) ifs tt) (he : ∀ s3 H3 fp, PE (X.block scope cl N' s3 H3 fp) elt te)
    (go : ∀ D, H2 D = none -> U9 J g tt te D (Fin D) (capσ cap σ) H2)
    (out : ∀ (D C : Addr) (s' : Shared) (m : Str -> Option Value) (H' : Hp), s'.heap.Ns C m -> C ≠ X.env.locals -> H' C = none -> X.s₀.heap.objs.size <= C -> (∀ x c, X.env.cells.lookup x = some c -> c ≠ C) -> (∀ p ∈ X.pn ++ pins, p.1 ≠ C) -> Fin D H' -> Inv X pins σ H' s' -> RR (.ref D) C (.ok .next) s') :
    wpAny (model X.prog X.w) X.A (newList []) (fun acc s₃ => wpAny (model X.prog X.w) X.A (newFunctionEnv scope X.env.globals cl [] X.env.qual none .none (some X.env)) (fun cenv s₄ =>
      codeAny (model X.prog X.w) X.A (.compStart (.ListComp elt [⟨tg, iter, ifs, 0⟩] scope pos) 0 (.ref it) acc { cenv with scope := relabel scope X.env }) (RR acc cenv.locals) s₄) E s₃) E s2 := by
  refine wpAny_newObj_type (wpAny_newFunctionEnv C.cell (by intro y hy; simp at hy) (fun h₁ hns₁ hsb₁ => ?_) C.kind)
  have hD : H2 s2.heap.objs.size = none := I2.hok.fresh (Nat.le_refl _)
  obtain ⟨W, ⟨m0, w0⟩, turn⟩ := go _ hD
  have I3 : Inv X pins σ (upd H2 s2.heap.objs.size (.lst [])) { s2 with heap := s2.heap.push { cls := .type "list", dict := none, data := .seq ([] : List Value).toArray } } :=
    I2.laid (t' := s2.toks) (o := .lst []) (fun b u e => Heap.get?_push_of_some _ e) (Nat.le_refl _) ⟨Nat.zero_le _, [], 0, .nil, Heap.get?_push_size _ rfl⟩
  have f3 : ∀ b ∈ fp, FpOk X pins (upd H2 s2.heap.objs.size (.lst [])) b := fun b hb => by
    obtain ⟨f0, fr⟩ := f2 b hb
    obtain ⟨o, e, _⟩ := T.obj _ _ st2 b hb
    exact ⟨by rw [C9 (Nat.ne_of_lt (Heap.lt_size e))]; exact f0, fr⟩
  generalize hs3 : ({ s2 with heap := s2.heap.push { cls := .type "list", dict := none, data := .seq ([] : List Value).toArray } } : Shared) = s3 at hns₁ hsb₁ I3 ⊢
  have o3 : ∀ b o, s2.heap.get? b = some o -> s3.heap.get? b = some o := fun b o e => by rw [<- hs3]; exact Heap.get?_push_of_some _ e
  have hk : ∀ b o, s3.heap.get? b = some o -> h₁.get? b = some o := fun b o e => by
    rw [hsb₁.2 b (Nat.ne_of_lt (Heap.lt_size e))]; exact Heap.get?_push_of_some _ e
  have st3 : tn 0 s3.heap := T.keep _ _ _ st2 fun b _ o e => o3 b o e
  have ho : ∀ b ∈ fp, ∃ o, s3.heap.get? b = some o := fun b hb => let ⟨o, e, _⟩ := T.obj _ _ st3 b hb; ⟨o, e⟩
  have I4 := A02 (tk := s3.toks + ([] : List (Str × Value)).length) I3 C f3 ho hns₁ hk
  have st4 : tn 0 h₁ := T.keep _ _ _ st3 fun b _ o e => hk b o e
  have hX : ∀ {H' : Hp} {pl : List (Addr × Obj)}, (∀ b ∈ fp, H' b = none) -> (∀ p ∈ pl, p.1 ∉ fp) -> ∀ b ∈ fp, FpOk (X.block scope cl N' s3 (upd H2 s2.heap.objs.size (.lst [])) fp) pl H' b := fun {H' pl} hn hp b hb => by
    refine ⟨hn b hb, I4.ok.exf b hb |>.1, I4.ok.exfs b hb, .inl hb, (I4.ok.exf b hb).2, fun p hp' z => ?_⟩
    have hp'' : p ∈ pl := by simpa [Cx.block] using hp'
    exact hp p hp'' (by rw [z]; exact hb)
  have fr3 : ∀ b ∈ fp, (upd H2 s2.heap.objs.size (.lst [])) b = none := fun b hb => (f3 b hb).1
  have loop : ∀ s₅ : Shared, s₅ = { s3 with heap := h₁, toks := s3.toks + ([] : List (Str × Value)).length } ->
      codeAny (model X.prog X.w) X.A (.compLoop (.ListComp elt [⟨tg, iter, ifs, 0⟩] scope pos) 0 (.ref it) (.ref s2.heap.objs.size) (compEnvC scope cl s3.heap.objs.size X.env)) (RR (.ref s2.heap.objs.size) s3.heap.objs.size) s₅ := by
    rintro s₅ rfl
    refine A0s (fun n s' => ∃ i σ' H' ys, Inv (X.block scope cl N' s3 (upd H2 s2.heap.objs.size (.lst [])) fp) [] σ' H' s' /\ tn i s'.heap /\ (∀ b ∈ fp, H' b = none) /\ W i n σ' H' ys) ?_ m0 ⟨0, _, _, [], I4, st4, fr3, w0⟩
    rintro n s6 ⟨i, σ6, H6, ys, I6, st6, fr6, w6⟩
    obtain ⟨hl6, hz6, hgo⟩ := turn i n σ6 H6 ys w6
    rcases hgo with ⟨stop, fin⟩ | ⟨go', step⟩
    · refine wpAny_mono (T.done (X.block scope cl N' s3 (upd H2 s2.heap.objs.size (.lst [])) fp) rfl rfl rfl hc i [] s6 σ6 H6 (fun _ _ => False) I6 (hX fr6 (fun _ z => nomatch z)) st6 stop) (fun r s7 ⟨hr, I7⟩ => ?_) fun _ _ z => z.elim
      subst hr
      obtain ⟨m7, hn7, _⟩ := id I7.loc
      refine out _ _ s7 m7 H6 hn7 (Nat.ne_of_gt I3.lt) I7.free I3.sz (fun x c e z => ?_) (fun p hp z => ?_) fin (S8 I3 I7 f3 (.refl ..))
      · obtain ⟨v, q⟩ := I3.cell x c e
        exact absurd q.lt (by rw [z]; exact Nat.lt_irrefl _)
      · exact absurd (Heap.lt_size (I3.pin p hp).1) (by rw [z]; exact Nat.lt_irrefl _)
    · refine wpAny_mono (T.item (X.block scope cl N' s3 (upd H2 s2.heap.objs.size (.lst [])) fp) rfl rfl rfl hc i [] s6 σ6 H6 (fun _ _ => False) I6 (hX fr6 (fun _ z => nomatch z)) st6 go') (fun r s7 ⟨u, hr, h7⟩ => ?_) fun _ _ z => z.elim
      subst hr
      refine wpAny_mono h7 (fun _ s8 ⟨x, H8, I8, r8, y8, st8, fr8⟩ => ?_) fun _ _ z => z.elim
      have I8' := I8.pinned (hX fr8 (fun _ z => nomatch z)) (T.obj _ _ st8)
      have again : ∀ {s9 : Shared} {σ9 : St} {H9 : Hp}, Inv (X.block scope cl N' s3 (upd H2 s2.heap.objs.size (.lst [])) fp) ([] ++ U2 fp s8.heap) σ9 H9 s9 -> ∀ {zs : List V}, (∃ m', m' < n /\ W (i + 1) m' σ9 H9 zs) ->
          ∃ m, m < n /\ ∃ i σ' H' ys, Inv (X.block scope cl N' s3 (upd H2 s2.heap.objs.size (.lst [])) fp) [] σ' H' s9 /\ tn i s9.heap /\ (∀ b ∈ fp, H' b = none) /\ W i m σ' H' ys := fun {s9 σ9 H9} I9 {zs} ⟨m', hm, w9⟩ => by
        refine ⟨m', hm, i + 1, σ9, H9, zs, I9.unpinned, T.keep _ _ _ st8 fun b hb o e => (I9.pin (b, o) (List.mem_append_right _ (List.mem_append_right _ (K0 hb e)))).1, fun b hb => ?_, w9⟩
        obtain ⟨o, e, d⟩ := T.obj _ _ st8 b hb
        exact (I9.pin (b, o) (List.mem_append_right _ (List.mem_append_right _ (K0 hb e)))).2.1
      refine wpAny_mono (hg _ _ _ _ s8 σ6 H8 x u _ I8' r8 (step x H8 y8)) (fun _ s9 ⟨σ9, H9, I9, q9⟩ => ?_) fun _ _ z => z.elim
      refine wpAny_mono (ht _ _ _ _ s9 σ9 H9 _ I9 q9) (fun ok s10 ⟨H10, I10, q10⟩ => ?_) fun _ _ z => z.elim
      cases ok with
      | false => exact again I10 q10
      | true =>
        rw [if_pos rfl]
        refine wpAny_mono (he _ _ _ _ s10 σ9 H10 _ I10 q10) (fun yv s11 ⟨y, H11, I11, r11, zs, hz, hlen, q11⟩ => ?_) fun _ _ z => z.elim
        refine wpAny_mono (F4 (X := X.block scope cl N' s3 (upd H2 s2.heap.objs.size (.lst [])) fp) _ s11 σ9 H11 (.ref s2.heap.objs.size) [y] (.ref s2.heap.objs.size) [yv] (fun _ H' => ∃ m', m' < n /\ W (i + 1) m' σ9 H' (zs ++ [y])) I11 rfl (.cons r11 .nil) ⟨_, zs, y, rfl, rfl, hz, hlen, q11⟩) (fun _ s12 ⟨_, H12, I12, _, q12⟩ => ?_) fun _ _ z => z.elim
        exact again I12 q12
  exact codeAny_compStart_list (loop _ rfl) (T.self _ 0 _ _ _ st4 (loop _ rfl))
theorem B6b (hc : X.calm = true) (C : CompSc X scope cl N' cap) (hi : PI X tg iter wi) (hg : ∀ s3 H3 fp, PG (X.block scope cl N' s3 H3 fp) tg g) (ht : ∀ s3 H3 fp, PTs (X.block scope cl N' s3 H3 fp) ifs tt)
    (he : ∀ s3 H3 fp, PE (X.block scope cl N' s3 H3 fp) elt te) (hs : ∀ x, foldedSetIterable iter X.env x = pure x := by intro _; rfl) : PE X (.ListComp elt [⟨tg, iter, ifs, 0⟩] scope pos) (A37 wi g tt te cap) := by
  intro pins s σ H Q I h
  rw [eval_ListComp]
  refine wpAny_comprehension_free (use := none) rfl hs C.clos C.kind C.names (thn (hi pins s σ H _ I h) fun v s1 h1 => thn h1 fun itv s2 h2 => ?_)
  obtain ⟨it, fp, tn, J, H2, e, I2, T, st2, f2, go⟩ := h2
  subst e
  refine A01 (RR := fun acc C => compPost (model X.prog X.w) X.A X.xe none (EP X pins σ Q) acc C) (Fin := fun D H' => Q (.ref D) H') hc C I2 T st2 f2 hg ht he go ?_
  intro D C' s' m H' hn n1 n2 n3 n4 n5 fin inv
  exact ⟨m, hn, fun h' hs' => ⟨.ref D, H', inv.turned (t' := s'.toks) (fun b o hb e => (hs'.2 b hb).trans e) n2 n1 (.inr n3) n4 n5, rfl, fin⟩⟩
end
end L2
namespace L2
open PySem PySem.Spec PyProof.Rows
def A0u (env : Env) : List (Str × NameKind) -> List (Str × Addr) -> List (Str × Addr)
  | [], acc => acc
  | (n, k) :: r, acc => A0u env r (if (k == .free) = true then (n, (env.cells.lookup n).getD 0) :: acc else acc)
theorem X6 {env : Env} : ∀ (l : List (Str × NameKind)) (acc : List (Str × Addr)), (∀ p ∈ l, p.2 = .free -> (env.cells.lookup p.1).isSome = true) ->
    (forIn l acc (fun x s => match x with
      | (name, kind) => if (kind == NameKind.free) = true then do
          let a <- cellOf env name
          pure (ForInStep.yield ((name, a) :: s))
        else pure (ForInStep.yield s)) : Sem (List (Str × Addr))) = pure (A0u env l acc)
  | [], acc, _ => rfl
  | (n, k) :: r, acc, h => by
    rw [List.forIn_cons]
    have hr := fun p hp => h p (List.mem_cons_of_mem _ hp)
    by_cases hk : (k == NameKind.free) = true
    · have h1 := h (n, k) List.mem_cons_self (by simpa using hk)
      obtain ⟨c, hc⟩ := Option.isSome_iff_exists.mp h1
      have hc : env.cells.lookup n = some c := hc
      have e1 : cellOf env n = pure c := by unfold cellOf; rw [hc]
      simp only [hk, if_true, e1, pure_bind]
      rw [X6 r _ hr]
      show _ = pure (A0u env r (if (k == .free) = true then (n, (env.cells.lookup n).getD 0) :: acc else acc))
      rw [if_pos hk, hc]
      rfl
    · simp only [hk, Bool.false_eq_true, if_false, pure_bind]
      rw [X6 r _ hr]
      show _ = pure (A0u env r (if (k == .free) = true then (n, (env.cells.lookup n).getD 0) :: acc else acc))
      rw [if_neg hk]
theorem A0t {env : Env} : ∀ (l : List (Str × NameKind)) (acc : List (Str × Addr)) (p : Str × Addr), p ∈ A0u env l acc -> p ∈ acc \/ ((p.1, NameKind.free) ∈ l /\ p.2 = (env.cells.lookup p.1).getD 0)
  | [], acc, p, h => .inl h
  | (n, k) :: r, acc, p, h => by
    rcases A0t r _ p h with z | ⟨z, e⟩
    · by_cases hk : (k == NameKind.free) = true
      · rw [if_pos hk] at z
        rcases List.mem_cons.mp z with rfl | z
        · right
          have : k = .free := by simpa using hk
          subst this
          exact ⟨List.mem_cons_self, rfl⟩
        · exact .inl z
      · rw [if_neg hk] at z
        exact .inl z
    · exact .inr ⟨List.mem_cons_of_mem _ z, e⟩
theorem S7 {env : Env} : ∀ (l : List (Str × NameKind)) (acc : List (Str × Addr)) (x : Str), ((∃ c, (x, c) ∈ acc) \/ (x, NameKind.free) ∈ l) -> ∃ c, (x, c) ∈ A0u env l acc
  | [], acc, x, h => by
    rcases h with h | h
    · exact h
    · exact absurd h (by simp)
  | (n, k) :: r, acc, x, h => by
    refine S7 r _ x ?_
    rcases h with ⟨c, h⟩ | h
    · left
      by_cases hk : (k == NameKind.free) = true
      · rw [if_pos hk]; exact ⟨c, List.mem_cons_of_mem _ h⟩
      · rw [if_neg hk]; exact ⟨c, h⟩
    · rcases List.mem_cons.mp h with e | h
      · left
        cases e
        rw [if_pos (by rfl)]
        exact ⟨_, List.mem_cons_self⟩
      · exact .inr h
theorem L3 {β : Type} {x : Str} : ∀ {l : List (Str × β)} {c : β}, (x, c) ∈ l -> ∃ c', l.lookup x = some c'
  | (n, d) :: r, c, h => by
    by_cases e : x = n
    · subst e; exact ⟨d, by simp [List.lookup_cons]⟩
    · rcases List.mem_cons.mp h with z | z
      · cases z; exact absurd rfl e
      · obtain ⟨c', q⟩ := L3 z
        refine ⟨c', ?_⟩
        rw [List.lookup_cons]
        have : (x == n) = false := by simpa using e
        rw [this]; exact q
theorem M3 {scope : Scope} {env : Env} {x : Str} {k : NameKind} (hcell : ∀ y ∈ scope.names, y.2 ≠ .cell) (h : (relabel scope env).names.lookup x = some k) (hk : k = .cell \/ k = .free) : (x, NameKind.free) ∈ scope.names := by
  have h1 := PySem.mem_of_lookup h
  obtain ⟨⟨n, k'⟩, hm, e⟩ := List.mem_map.mp (show (x, k) ∈ scope.names.map _ from h1)
  dsimp only at e
  split at e
  · rename_i q
    cases e
    simp only [Bool.and_eq_true] at q
    have : k' = .free := by simpa using q.1.1
    subst this
    exact hm
  · cases e
    rcases hk with rfl | rfl
    · exact absurd rfl (hcell _ hm)
    · exact hm
theorem L8 {env : Env} {x : Str} : ∀ {l : List (Str × NameKind)}, l.lookup x = some .free ->
    (l.map fun (n, k) => if (k == NameKind.free && env.scope.kind == .function && env.kindOf n == some .cell) then (n, NameKind.cell) else (n, k)).lookup x = some .cell \/
    (l.map fun (n, k) => if (k == NameKind.free && env.scope.kind == .function && env.kindOf n == some .cell) then (n, NameKind.cell) else (n, k)).lookup x = some .free
  | [], h => by simp at h
  | (n, k) :: r, h => by
    rw [List.lookup_cons] at h
    rw [List.map_cons]
    dsimp only
    by_cases e : (x == n) = true
    · rw [e] at h
      have hk : k = .free := by simpa using h
      subst hk
      by_cases q : (NameKind.free == NameKind.free && env.scope.kind == .function && env.kindOf n == some .cell) = true
      · left; rw [if_pos q, List.lookup_cons, e]
      · right; rw [if_neg q, List.lookup_cons, e]
    · have e' : (x == n) = false := by simpa using e
      rw [e'] at h
      have := L8 (env := env) h
      by_cases q : (k == NameKind.free && env.scope.kind == .function && env.kindOf n == some .cell) = true
      · rw [if_pos q, List.lookup_cons, e']; exact this
      · rw [if_neg q, List.lookup_cons, e']; exact this
theorem Z0 {scope : Scope} {env : Env} {x : Str} (h : scope.names.lookup x = some .free) : (relabel scope env).names.lookup x = some .cell \/ (relabel scope env).names.lookup x = some .free := L8 h
theorem D7 {X : Cx} {scope : Scope} {N' : List Str} {cap : List (Option Nat)}
    (h1 : scope.names.all (fun p => !(p.2 == .free) || ((X.env.cells.lookup p.1).isSome && !(X.env.kindOf p.1 == some .local))) = true)
    (hk : scope.kind = .function) (h2 : scope.names.all (fun p => !(p.2 == .cell)) = true) (h3 : scope.names.all (fun p => !(p.2 == .local) || scope.names.lookup p.1 == some .local) = true)
    (nd : N'.Nodup) (len : cap.length = N'.length)
    (h4 : (N'.zip cap).all (fun q => match q.2 with | none => true | some j => (X.N[j]? == some q.1) && (scope.names.lookup q.1 == some .free) && (X.env.scope.names.lookup q.1 == some .cell || X.env.scope.names.lookup q.1 == some .free)) = true) :
    CompSc X scope (A0u X.env scope.names []) N' cap := by
  have hfree : ∀ p ∈ scope.names, p.2 = .free -> (X.env.cells.lookup p.1).isSome = true /\ X.env.kindOf p.1 ≠ some .local := fun p hp e => by
    have := List.all_eq_true.mp h1 p hp
    rw [e] at this
    have this : ((X.env.cells.lookup p.1).isSome && !(X.env.kindOf p.1 == some .local)) = true := this
    rw [Bool.and_eq_true] at this
    refine ⟨this.1, fun z => ?_⟩
    rw [z] at this
    exact absurd this.2 (by decide)
  have hcell : ∀ y ∈ scope.names, y.2 ≠ .cell := fun y hy e => by
    have := List.all_eq_true.mp h2 y hy
    rw [e] at this
    exact absurd this (by decide)
  have memsub : ∀ x c, (A0u X.env scope.names []).lookup x = some c -> (x, NameKind.free) ∈ scope.names /\ X.env.cells.lookup x = some c := fun x c h => by
    rcases A0t _ _ _ (PySem.mem_of_lookup h) with z | ⟨z, e⟩
    · exact absurd z (by simp)
    · refine ⟨z, ?_⟩
      obtain ⟨c', hc'⟩ := Option.isSome_iff_exists.mp (hfree _ z rfl).1
      have hc' : X.env.cells.lookup x = some c' := hc'
      have e : c = (X.env.cells.lookup x).getD 0 := e
      rw [hc'] at e ⊢
      exact congrArg some e.symm
  refine ⟨?_, fun x c h => (memsub x c h).2, fun x h => ?_, hk, hcell, fun y hy e => ?_, nd, len, fun x c h => (hfree _ (memsub x c h).1 rfl).2, fun i x j hi hc => ?_⟩
  · unfold closureFor
    show (forIn scope.names [] _ >>= fun r => pure r) = _
    rw [X6 scope.names [] fun p hp e => (hfree p hp e).1]
    rfl
  · have hm : (x, NameKind.free) ∈ scope.names := by
      rcases h with h | h
      · exact M3 hcell h (.inl rfl)
      · exact M3 hcell h (.inr rfl)
    obtain ⟨c, hc⟩ := S7 (env := X.env) scope.names [] x (.inr hm)
    exact L3 hc
  · have := List.all_eq_true.mp h3 y hy
    rw [e] at this
    simpa using this
  · have hz : (x, some j) ∈ N'.zip cap := by
      refine List.mem_iff_getElem?.mpr ⟨i, ?_⟩
      rw [List.getElem?_zip_eq_some]
      exact ⟨hi, hc⟩
    have := List.all_eq_true.mp h4 _ hz
    simp only [Bool.and_eq_true, Bool.or_eq_true, beq_iff_eq] at this
    obtain ⟨⟨q1, q2⟩, q3⟩ := this
    refine ⟨q1, Z0 q2, ?_, ?_⟩
    · rcases q3 with q | q
      · exact .inr (.inl q)
      · exact .inr (.inr q)
    · obtain ⟨c, hc⟩ := S7 (env := X.env) scope.names [] x (.inr (PySem.mem_of_lookup q2))
      exact L3 hc
def V7 (wi : TI) (g : TG) (tt : TT) (te : TE) (cap : List (Option Nat)) (i : Nat) : TS := fun D σ H => wi σ H fun J H1 => ∀ l, H1 l = none -> U9 J g tt te l (fun H' => D.nx (σ.set i (some (.ref l))) H') (capσ cap σ) H1
section
variable {X : Cx} {scope : Scope} {cl : List (Str × Addr)} {N' : List Str} {cap : List (Option Nat)} {elt tg iter : Expr} {ifs : List Expr} {wi : TI} {g : TG} {tt : TT} {te : TE} {pos spos py : Pos} {y : Str} {i : Nat}
theorem A4b (hc : X.calm = true) (hN : X.N.Nodup) (hi : X.N[i]? = some y) (hy : X.env.scope.names.lookup y = some .local) (C : CompSc X scope cl N' cap) (hit : PI X tg iter wi) (hg : ∀ s3 H3 fp, PG (X.block scope cl N' s3 H3 fp) tg g)
    (ht : ∀ s3 H3 fp, PTs (X.block scope cl N' s3 H3 fp) ifs tt) (he : ∀ s3 H3 fp, PE (X.block scope cl N' s3 H3 fp) elt te)
    (hsw : swapsWith (.ListComp elt [⟨tg, iter, ifs, 0⟩] scope pos) (some (.Name y py)) spos.line X.env = pure true) (hs : ∀ x, foldedSetIterable iter X.env x = pure x := by intro _; rfl) :
    PS X (.Assign [.Name y py] (.ListComp elt [⟨tg, iter, ifs, 0⟩] scope pos) spos) (V7 wi g tt te cap i) := by
  intro pins s σ H D I h
  rw [exec_Assign_Name_used _ _ _ _ hsw]
  refine wpAny_bind (wpAny_standAt (wpAny_bind ?_))
  show wpAny _ X.A (do let _ <- comprehension (.ListComp elt [⟨tg, iter, ifs, 0⟩] scope pos) scope X.env _ (newList []) false (eval iter X.env) (some (assign (.Name y py) X.env))) _ _ s
  refine wpAny_bind (wpAny_mono (wpAny_comprehension_free (use := some (assign (.Name y py) X.env)) (Q := fun _ s' => SP X pins D .next s') rfl hs C.clos C.kind C.names
    (thn (hit pins s σ H _ I h) fun v s1 h1 => thn h1 fun itv s2 h2 => ?_)) (fun _ s' hq => wpAny_pure (wpAny_pure hq)) fun _ _ e => e)
  obtain ⟨it, fp, tn, J, H2, e, I2, T, st2, f2, go⟩ := h2
  subst e
  refine A01 (RR := fun acc C => compPost (model X.prog X.w) X.A X.xe (some (assign (.Name y py) X.env)) (fun _ s' => SP X pins D .next s') acc C) (Fin := fun l H' => D.nx (σ.set i (some (.ref l))) H') hc C I2 T st2 f2 hg ht he go ?_
  intro l C' s' m H' hn n1 n2 n3 n4 n5 fin inv
  show wpAny _ X.A (assign (.Name y py) X.env (.ref l)) _ _ _
  refine wpAny_assign_Name (Y7 (v := .ref l) inv hN hi (.inl hy) rfl (fun s'' I'' ⟨a, sb, ha⟩ => ?_) (.inr hy))
  have na : C' ≠ a := by
    rcases ha with e | e
    · rw [e]; exact n1
    · exact (n4 _ _ e).symm
  exact ⟨m, hn.sameBut sb na, fun h' hs' => ⟨_, H', I''.turned (t' := s''.toks) (fun b o hb e => (hs'.2 b hb).trans e) n2 n1 (.inr n3) n4 n5, fin⟩⟩
end
section
variable {X : Cx} {K : PySem.W.Frag}
theorem B6a {pos : Pos} {es : List Expr} {k : Nat} {t : TGs} {n : Nat} (h : X.K = K) (hc : X.calm = true) (hg : PGs X es t)
    (hn : (assignEach es X.env).length = n := by rfl) (hst : (assignEach es X.env).findIdx? (·.1) = none := by rfl) : PG X (.Tuple es k pos) (gTup K n t) := by subst h; exact B8t hc hg hn hst
end
end L2
namespace Prf
open PySem L2 My
abbrev Hpp := L2.Hp
theorem ifD {p : Prop} [Decidable p] {A B : Prop} (h1 : p -> A) (h2 : ¬ p -> B) : if decide p = true then A else B := by
  by_cases h : p
  · rw [decide_eq_true h]; exact h1 h
  · rw [decide_eq_false h]; exact h2 h
structure StAt (H : Hpp) (p : Addr) : Prop where
  ex : ∃ (c m : Int) (f : Bool), H p = some (.lst [.int c, .int m, .bl f]) /\ 0 <= m /\ m < 2147483648
theorem StAt.same {H H' : Hpp} {p : Addr} (h : StAt H p) (e : Same H H') : StAt H' p := by
  obtain ⟨c, m, f, h, r⟩ := h.ex; exact ⟨c, m, f, e _ _ h, r⟩
theorem StAt.kp {H H' : Hpp} {p l : Addr} (h : StAt H p) (n : p ≠ l) (e : Kp l H H') : StAt H' p := by
  obtain ⟨c, m, f, h, r⟩ := h.ex; exact ⟨c, m, f, e _ _ n h, r⟩
def A17 (K : PySem.W.Frag) : Sp := fun vs H Q _ => ∃ (a : Addr) (ns : List Int) (k : Int), vs = [.ref a, .int k] /\ SqL K H a (ns.map V.int) /\ 0 <= k /\ k <= 63 /\ ∀ p H', H p = none -> StAt H' p -> Kp p H H' -> Q (.ref p) H'
def A5e : Sp := fun vs H Q _ => ∃ (p : Addr) (n : Int), vs = [.ref p, .int n] /\ StAt H p /\ 0 < n /\ Sm 4000 n /\ ∀ d H', 0 <= d -> d < n -> StAt H' p -> Kp p H H' -> Q (.int d) H'
def B5n (K : PySem.W.Frag) : Sp := fun vs H Q _ => ∃ (a : Addr) (ns : List Int), vs = [.ref a] /\ SqL K H a (ns.map V.int) /\ ns.length <= 63 /\ ∀ H', Q (.bl true) H'
theorem sm32 {m : Int} (h0 : 0 <= m) (h1 : m < 2147483648) : Sm 8000 m := Sm.mono (k := 32) (by unfold Sm; omega) (by decide)
theorem T9 {m : Int} (n : Nat) (h : m.natAbs < 2 ^ 64 := by decide) : Sm 8000 m := Sm.mono (k := 64) h (by decide)
theorem Y8 {k : Nat} {t b : Int} (h : Sm k b) (hb : b ≠ 0) : Sm k ((Int.gcd t b : Nat) : Int) := by
  have h1 : Int.gcd t b ∣ b.natAbs := Nat.gcd_dvd_right _ _
  have h2 := Nat.le_of_dvd (by omega) h1
  exact h.le (by simpa using h2)
theorem B72 {k : Nat} {t b : Int} (h : Sm k b) (hb : b ≠ 0) : Sm k (sh t b) := by
  have h1 : Int.gcd t b ∣ b.natAbs := Nat.gcd_dvd_right _ _
  have h2 := Nat.le_of_dvd (by omega) h1
  exact h.le (by rw [B78]; exact h2)
end Prf
namespace Prf
open PySem L2 My
theorem A94 (n : Nat) (h : (n : Int) <= 1000000 := by decide) : CPow 10 (n : Int) := ⟨by omega, h, by decide⟩
theorem sm4 (n : Int) (h : n.natAbs < 2 ^ 64 := by decide) : Sm 4000 n := Sm.mono (k := 64) h (by decide)
theorem A19 {k : Int} (h0 : 0 <= k) (h1 : k <= 63) : Sm 8000 k := sm32 h0 (by omega)
theorem B73 {k : Int} (h0 : 0 <= k) (h1 : k <= 63) : Sm 20 k := by unfold Sm; omega
theorem B74 (b : Bool) : Sm 8000 (if b = true then (1 : Int) else 0) := by cases b <;> exact T9 0
theorem B4m : kitB "tuple" "tuple" = some true := by decide +kernel
theorem B4w : kitB "int" "bool" = some false := by decide +kernel
end Prf
namespace Prf
open PySem L2 My
inductive R2L {α : Type} (P : Addr -> α -> Prop) : List V -> List α -> Prop
  | nil : R2L P [] []
  | cons {a : Addr} {q : α} {rs : List V} {qs : List α} : P a q -> R2L P rs qs -> R2L P (.ref a :: rs) (q :: qs)
section
variable {α : Type} {P P' : Addr -> α -> Prop}
theorem R2L.get : ∀ {rs qs} {i : Nat} {x : V}, R2L P rs qs -> rs[i]? = some x -> ∃ a q, x = .ref a /\ qs[i]? = some q /\ P a q
  | _, _, _, _, .nil, e => by simp at e
  | _, _, 0, _, .cons h _, e => by simp at e; subst e; exact ⟨_, _, rfl, rfl, h⟩
  | _, _, i + 1, x, .cons _ t, e => by
    obtain ⟨a, q, h1, h2, h3⟩ := R2L.get (i := i) (x := x) t (by simpa using e)
    exact ⟨a, q, h1, by simpa using h2, h3⟩
end
structure OfOk (cs : List (Rat × Rat)) (a b c d : Nat) : Prop where
  ne : 1 <= cs.length
  le : cs.length <= 5
  dec : Dec cs
  sm : ∀ x ∈ cs, SmR a b x.1 /\ SmR c d x.2
def dq (q : Rat) : PyData := .tuple [.int q.num, .int q.den]
theorem B43 (q : Rat) : (dq q).canLay0 = true := rfl
def dcn (c : Rat × Rat) : PyData := .tuple [dq c.1, dq c.2]
theorem A93 : ∀ cs : List (Rat × Rat), PyData.canLayAll0 (cs.map dcn) = true
  | [] => rfl
  | c :: r => by
    show ((dcn c).canLay0 && PyData.canLayAll0 (r.map dcn)) = true
    rw [show (dcn c).canLay0 = true from rfl, A93 r]; rfl
theorem A0q : ∀ cs : List (Rat × Rat), PyData.depthAll (cs.map dcn) <= 2
  | [] => Nat.zero_le _
  | c :: r => by
    show max (dcn c).depth (PyData.depthAll (r.map dcn)) <= 2
    have h1 := A0q r
    have h2 : (dcn c).depth = 2 := rfl
    omega
theorem L6 {k : Nat} {z : Int} {B : Nat} (h0 : -(B : Int) <= z) (h1 : z <= B) (hB : B < 2 ^ k) : Sm k z := by
  unfold Sm; omega
end Prf
set_option maxHeartbeats 4000000
namespace L2
open PySem
mutual
theorem Den.same {K : PySem.W.Frag} {F F' : Hp} (e : Same F F') : ∀ {v : V} {x : PyData}, Den K F v x -> Den K F' v x
  | _, _, .non => .non
  | _, _, .bl b => .bl b
  | _, _, .int i => .int i
  | _, _, .str x => .str x
  | _, _, .lst h t => .lst (e.seq h) (DenAll.same e t)
  | _, _, .tup h t => .tup (SqT.same e h) (DenAll.same e t)
  | _, _, .dct h => .dct (e _ _ h)
theorem DenAll.same {K : PySem.W.Frag} {F F' : Hp} (e : Same F F') : ∀ {vs : List V} {xs : List PyData}, DenAll K F vs xs -> DenAll K F' vs xs
  | _, _, .nil => .nil
  | _, _, .cons h t => .cons (Den.same e h) (DenAll.same e t)
end
section
variable {K : PySem.W.Frag} {F : Hp}
theorem Den.intE {v : V} {i : Int} (h : Den K F v (.int i)) : v = .int i := by cases h; rfl
theorem Den.blE {v : V} {b : Bool} (h : Den K F v (.bool b)) : v = .bl b := by cases h; rfl
theorem Den.nonE {v : V} (h : Den K F v .none) : v = .non := by cases h; rfl
theorem Den.tupE {v : V} {xs : List PyData} (h : Den K F v (.tuple xs)) : ∃ a vs, v = .ref a /\ SqT K F a vs /\ DenAll K F vs xs := by cases h; exact ⟨_, _, rfl, ‹_›, ‹_›⟩
theorem Den.lstE {v : V} {xs : List PyData} (h : Den K F v (.list xs)) : ∃ a vs, v = .ref a /\ SqL K F a vs /\ DenAll K F vs xs := by cases h; exact ⟨_, _, rfl, ‹_›, ‹_›⟩
theorem DenAll.len : ∀ {vs : List V} {xs : List PyData}, DenAll K F vs xs -> vs.length = xs.length
  | _, _, .nil => rfl
  | _, _, .cons _ t => congrArg (· + 1) (DenAll.len t)
theorem DenAll.get : ∀ {vs : List V} {xs : List PyData} {i : Nat} {v : V}, DenAll K F vs xs -> vs[i]? = some v -> ∃ x, xs[i]? = some x /\ Den K F v x
  | _, _, _, _, .nil, e => by simp at e
  | _, _, 0, _, .cons h _, e => by simp at e; subst e; exact ⟨_, rfl, h⟩
  | _, _, i + 1, v, .cons _ t, e => by
    obtain ⟨x, h1, h2⟩ := DenAll.get (i := i) (v := v) t (by simpa using e)
    exact ⟨x, by simpa using h1, h2⟩
theorem DenAll.at : ∀ {vs : List V} {xs : List PyData} {i : Nat} {x : PyData}, DenAll K F vs xs -> xs[i]? = some x -> ∃ v, vs[i]? = some v /\ Den K F v x
  | _, _, _, _, .nil, e => by simp at e
  | _, _, 0, _, .cons h _, e => by simp at e; subst e; exact ⟨_, rfl, h⟩
  | _, _, i + 1, x, .cons _ t, e => by
    obtain ⟨v, h1, h2⟩ := DenAll.at (i := i) (x := x) t (by simpa using e)
    exact ⟨v, by simpa using h1, h2⟩
theorem DenAll.app : ∀ {vs us : List V} {xs ys : List PyData}, DenAll K F vs xs -> DenAll K F us ys -> DenAll K F (vs ++ us) (xs ++ ys)
  | _, _, _, _, .nil, h => h
  | _, _, _, _, .cons h t, h' => .cons h (DenAll.app t h')
theorem DenAll.drop : ∀ {vs : List V} {xs : List PyData} (n : Nat), DenAll K F vs xs -> DenAll K F (vs.drop n) (xs.drop n)
  | _, _, 0, h => by simpa using h
  | _, _, _ + 1, .nil => by simpa using DenAll.nil
  | _, _, n + 1, .cons _ t => by simpa using DenAll.drop n t
theorem DenAll.take : ∀ {vs : List V} {xs : List PyData} (n : Nat), DenAll K F vs xs -> DenAll K F (vs.take n) (xs.take n)
  | _, _, 0, _ => by simpa using DenAll.nil
  | _, _, _ + 1, .nil => by simpa using DenAll.nil
  | _, _, n + 1, .cons h t => by simpa using DenAll.cons h (DenAll.take n t)
theorem DenAll.dropLast {vs : List V} {xs : List PyData} (h : DenAll K F vs xs) : DenAll K F vs.dropLast xs.dropLast := by
  rw [List.dropLast_eq_take, List.dropLast_eq_take, h.len]; exact h.take _
theorem DenAll.atIE {vs : List V} {xs : List PyData} {i : Int} {x : PyData} (h : DenAll K F vs xs) (e : L2.atI xs i = some x) : ∃ v, L2.atI vs i = some v /\ Den K F v x := by
  unfold L2.atI at *
  rw [h.len]
  cases q : ixN xs.length i with
  | none => rw [q] at e; cases e
  | some j => rw [q] at e; exact DenAll.at h e
end
end L2
namespace Pu
open PySem L2 My Prf
abbrev Frag := PySem.W.Frag
inductive OT where
  | leaf (x : PyData) | nd (b : Bool) (a : Addr) (k : OT) | nil | cons (h t : OT)
def OT.fp : OT -> List Addr
  | .leaf _ => []
  | .nd _ a k => a :: k.fp
  | .nil => []
  | .cons h t => h.fp ++ t.fp
def OT.dat : OT -> List PyData
  | .leaf x => [x]
  | .nd true _ k => [.list k.dat]
  | .nd false _ k => [.tuple k.dat]
  | .nil => []
  | .cons h t => h.dat ++ t.dat
def OT.put (a : Addr) (n : OT) : OT -> OT
  | .leaf x => .leaf x
  | .nd b a' k => .nd b a' (if a' = a then n else OT.put a n k)
  | .nil => .nil
  | .cons h t => .cons (OT.put a n h) (OT.put a n t)
inductive SV where
  | d (x : PyData) | own (xs : List PyData) | bor (xs : List PyData) | st | tr (t : OT) | bt (t : OT)
def SV.foot (v : V) : SV -> Addr -> Prop
  | .own _, a => v = .ref a
  | .tr t, a => a ∈ t.fp
  | _, _ => False
def SV.isRes : SV -> Bool
  | .bor _ => false
  | .bt _ => false
  | _ => true
abbrev PEnv := List (Option SV)
structure Wd where
  M : Addr -> Prop
  H : Hpp
  F : Hpp
structure Wd.Ok (w : Wd) : Prop where
  sub : Same w.F w.H
  st : ∀ p, w.M p -> StAt w.H p
  nf : ∀ p, w.M p -> w.F p = none
structure Lw (w w' : Wd) : Prop where
  f : Same w.F w'.F
  h : ∀ b o, w.H b = some o -> ¬ w.M b -> w'.H b = some o
  m : ∀ b, w.M b -> w'.M b
  mn : ∀ b, w'.M b -> w.M b \/ w.H b = none
  dom : ∀ b, w'.H b = none -> w.H b = none
structure Le (w w' : Wd) : Prop extends Lw w w' where
  n : ∀ a o, w'.F a = some o -> w.F a = some o \/ w.H a = none
theorem Lw.refl (w : Wd) : Lw w w := ⟨Same.refl _, fun _ _ h _ => h, fun _ h => h, fun _ h => .inl h, fun _ h => h⟩
theorem Le.refl (w : Wd) : Le w w := ⟨Lw.refl w, fun _ _ h => .inl h⟩
theorem Lw.nm {w w' : Wd} (a : Lw w w') {b : Addr} (h : w.H b ≠ none) (n : ¬ w.M b) : ¬ w'.M b := fun z => (a.mn b z).elim n h
theorem Lw.trans {w w1 w2 : Wd} (a : Lw w w1) (b : Lw w1 w2) : Lw w w2 :=
  ⟨a.f.trans b.f, fun c o h n => b.h c o (a.h c o h n) (a.nm (by rw [h]; simp) n), fun c h => b.m c (a.m c h),
   fun c h => (b.mn c h).elim (a.mn c) fun z => .inr (a.dom c z), fun c h => a.dom c (b.dom c h)⟩
theorem Le.trans {w w1 w2 : Wd} (a : Le w w1) (b : Le w1 w2) : Le w w2 :=
  ⟨a.toLw.trans b.toLw, fun c o h => (b.n c o h).elim (a.n c o) fun z => .inr (a.dom c z)⟩
theorem Le.fnone {w w' : Wd} (a : Le w w') {l : Addr} (h : w.F l = none) (h' : w.H l ≠ none) : w'.F l = none := by
  cases q : w'.F l with
  | none => rfl
  | some o => rcases a.n l o q with z | z
              · rw [h] at z; cases z
              · exact absurd z h'
structure Ct where
  K : Frag
  w0 : Wd
  Z : Addr -> Prop
def VV (K : Frag) (w : Wd) (v : V) (x : PyData) : Prop := Den K w.F v x \/ ∃ l vs xs, v = .ref l /\ x = .list xs /\ w.H l = some (.lst vs) /\ ¬ w.M l /\ DenAll K w.F vs xs
def ho : Bool -> List V -> HO
  | true, vs => .lst vs
  | false, vs => .tup vs
def Tre (K : Frag) (w : Wd) : OT -> List V -> Prop
  | .leaf x, vs => ∃ v, vs = [v] /\ Den K w.F v x
  | .nd b a k, vs => vs = [.ref a] /\ ∃ us, w.H a = some (ho b us) /\ Tre K w k us
  | .nil, vs => vs = []
  | .cons h t, vs => ∃ v r, vs = v :: r /\ Tre K w h [v] /\ Tre K w t r
theorem Tre.mono {K : Frag} {w w' : Wd} (a : Lw w w') : ∀ {t : OT} {vs : List V}, Tre K w t vs -> (∀ a ∈ t.fp, ¬ w.M a) -> Tre K w' t vs
  | .leaf _, _, ⟨v, e, h⟩, _ => ⟨v, e, Den.same a.f h⟩
  | .nd _ p _, _, ⟨e, us, h, k⟩, n => ⟨e, us, a.h _ _ h (n p (by simp [OT.fp])), Tre.mono a k fun q hq => n q (by simp [OT.fp, hq])⟩
  | .nil, _, e, _ => e
  | .cons _ _, _, ⟨v, r, e, h, t⟩, n => ⟨v, r, e, Tre.mono a h fun q hq => n q (by simp [OT.fp, hq]), Tre.mono a t fun q hq => n q (by simp [OT.fp, hq])⟩
theorem Tre.sameF {K : Frag} {M : Addr -> Prop} {H F F' : Hpp} (e : Same F F') : ∀ {t : OT} {vs : List V}, Tre K ⟨M, H, F⟩ t vs -> Tre K ⟨M, H, F'⟩ t vs
  | .leaf _, _, ⟨v, q, h⟩ => ⟨v, q, Den.same e h⟩
  | .nd _ _ _, _, ⟨q, us, h, k⟩ => ⟨q, us, h, Tre.sameF e k⟩
  | .nil, _, q => q
  | .cons _ _, _, ⟨v, r, q, h, t⟩ => ⟨v, r, q, Tre.sameF e h, Tre.sameF e t⟩
def VR (c : Ct) (w : Wd) (v : V) : SV -> Prop
  | .d x => Den c.K w.F v x
  | .own xs => ∃ l vs, v = .ref l /\ w.H l = some (.lst vs) /\ w.F l = none /\ ¬ w.M l /\ c.w0.H l = none /\ DenAll c.K w.F vs xs
  | .bor xs => Den c.K w.F v (.list xs) \/ ∃ l vs, v = .ref l /\ c.w0.H l = some (.lst vs) /\ ¬ c.w0.M l /\ DenAll c.K w.F vs xs
  | .st => ∃ p, v = .ref p /\ w.M p
  | .tr t => Tre c.K w t [v] /\ ∀ a ∈ t.fp, w.H a ≠ none /\ w.F a = none /\ ¬ w.M a /\ c.w0.H a = none
  | .bt t => Tre c.K ⟨c.w0.M, c.w0.H, w.F⟩ t [v] /\ ∀ a ∈ t.fp, ¬ c.w0.M a
theorem B0r {H : Hpp} {p b : Addr} {o : HO} (h : upd H p o b = none) : H b = none := by
  unfold upd at h; split at h
  · cases h
  · exact h
theorem VR.foot {c : Ct} {w : Wd} {v : V} {a : Addr} : ∀ {s : SV}, VR c w v s -> s.foot v a -> w.H a ≠ none /\ w.F a = none /\ ¬ w.M a /\ c.w0.H a = none
  | .own _, ⟨l, vs, e, h1, h2, h3, h4, _⟩, f => by
    have : V.ref l = .ref a := e.symm.trans f
    cases this
    exact ⟨by rw [h1]; simp, h2, h3, h4⟩
  | .tr _, h, f => h.2 a f
theorem VV.mono {K : Frag} {w w' : Wd} {v : V} {x : PyData} (a : Lw w w') (h : VV K w v x) : VV K w' v x := by
  rcases h with h | ⟨l, vs, xs, e, e', h1, h2, h3⟩
  · exact .inl (Den.same a.f h)
  · exact .inr ⟨l, vs, xs, e, e', a.h _ _ h1 h2, a.nm (by rw [h1]; simp) h2, DenAll.same a.f h3⟩
theorem VV.den {K : Frag} {w : Wd} {v : V} {x : PyData} (o : w.Ok) (h : VV K w v x) : Den K w.H v x := by
  rcases h with h | ⟨l, vs, xs, e, e', h1, h2, h3⟩
  · exact Den.same o.sub h
  · rw [e, e']; exact .lst (SqL.of h1) (DenAll.same o.sub h3)
theorem VR.mono {c : Ct} {w w' : Wd} {v : V} (a : Le w w') : ∀ {s : SV}, VR c w v s -> VR c w' v s
  | .d _, h => Den.same a.f h
  | .own xs, ⟨l, vs, e, h1, h2, h3, h4, h5⟩ => ⟨l, vs, e, a.h _ _ h1 h3, a.fnone h2 (by rw [h1]; simp), a.nm (by rw [h1]; simp) h3, h4, DenAll.same a.f h5⟩
  | .bor xs, .inl h => .inl (Den.same a.f h)
  | .bor xs, .inr ⟨l, vs, e, h1, h2, h3⟩ => .inr ⟨l, vs, e, h1, h2, DenAll.same a.f h3⟩
  | .st, ⟨p, e, h⟩ => ⟨p, e, a.m p h⟩
  | .bt t, ⟨h, o⟩ => ⟨h.sameF a.f, o⟩
  | .tr t, ⟨h, o⟩ => ⟨h.mono a.toLw fun q hq => (o q hq).2.2.1, fun q hq => let ⟨h1, h2, h3, h4⟩ := o q hq; ⟨fun z => h1 (a.dom q z), a.fnone h2 h1, a.nm h1 h3, h4⟩⟩
theorem Tre.writ {K : Frag} {w : Wd} {l : Addr} {us : List V} : ∀ {t : OT} {vs : List V}, Tre K w t vs -> l ∉ t.fp -> Tre K ⟨w.M, upd w.H l (.lst us), w.F⟩ t vs
  | .leaf _, _, h, _ => h
  | .nd _ p _, _, ⟨e, ys, h, k⟩, n => ⟨e, ys, by show upd w.H l _ p = _; rw [C9 (fun z => n (by simp [OT.fp, z]))]; exact h, Tre.writ k fun q => n (by simp [OT.fp, q])⟩
  | .nil, _, e, _ => e
  | .cons _ _, _, ⟨v, r, e, h, t⟩, n => ⟨v, r, e, Tre.writ h fun q => n (by simp [OT.fp, q]), Tre.writ t fun q => n (by simp [OT.fp, q])⟩
theorem VR.writ {c : Ct} {w : Wd} {v : V} {l : Addr} {us : List V} (hl : w.H l ≠ none) : ∀ {s : SV}, VR c w v s -> ¬ s.foot v l -> VR c ⟨w.M, upd w.H l (.lst us), w.F⟩ v s
  | .d _, h, _ => h
  | .own _, ⟨l', vs, e, k1, k2, k3, k4, k5⟩, n => ⟨l', vs, e, by show upd w.H l _ l' = _; rw [C9 (fun z => n (by rw [<- z]; exact e))]; exact k1, k2, k3, k4, k5⟩
  | .bor _, h, _ => h
  | .st, h, _ => h
  | .bt _, h, _ => h
  | .tr _, ⟨h, o⟩, n => ⟨h.writ n, fun a ha => ⟨fun z => (o a ha).1 (B0r z), (o a ha).2⟩⟩
structure EnvOk (c : Ct) (w : Wd) (env : PEnv) (σ : St) : Prop where
  wok : w.Ok
  le0 : Le c.w0 w
  len : env.length = σ.length
  at' : ∀ (i : Nat) s, env[i]? = some (some s) -> ∃ v, σ[i]? = some (some v) /\ VR c w v s
  own : ∀ (i j : Nat) s t v u a, env[i]? = some (some s) -> env[j]? = some (some t) -> σ[i]? = some (some v) -> σ[j]? = some (some u) -> s.foot v a -> t.foot u a -> i = j
  zf : ∀ a, c.Z a -> w.F a = none /\ w.H a ≠ none /\ ¬ w.M a
  zo : ∀ a (j : Nat) t u, c.Z a -> env[j]? = some (some t) -> σ[j]? = some (some u) -> ¬ t.foot u a
def New (c : Ct) (env : PEnv) (σ : St) (v : V) (s : SV) : Prop := ∀ a, s.foot v a -> (∀ (j : Nat) t u, env[j]? = some (some t) -> σ[j]? = some (some u) -> ¬ t.foot u a) /\ ¬ c.Z a
theorem EnvOk.look {c : Ct} {w : Wd} {env : PEnv} {σ : St} (E : EnvOk c w env σ) {j : Nat} {t : SV} {u : V} (h : env[j]? = some (some t)) (hu : σ[j]? = some (some u)) : VR c w u t := by
  obtain ⟨v, h1, h2⟩ := E.at' j t h
  rw [hu] at h1; cases h1; exact h2
theorem EnvOk.fresh {c : Ct} {w : Wd} {env : PEnv} {σ : St} (E : EnvOk c w env σ) {p : Addr} (hp : w.H p = none) : (∀ (j : Nat) t u, env[j]? = some (some t) -> σ[j]? = some (some u) -> ¬ t.foot u p) /\ ¬ c.Z p :=
  ⟨fun _ _ _ h hu f => ((E.look h hu).foot f).1 hp, fun z => (E.zf p z).2.1 hp⟩
theorem Lw.hsome {w w' : Wd} (a : Lw w w') {l : Addr} (h : w.H l ≠ none) : w'.H l ≠ none := fun z => h (a.dom l z)
theorem EnvOk.mono {c : Ct} {w w' : Wd} {env : PEnv} {σ : St} (E : EnvOk c w env σ) (ok : w'.Ok) (a : Le w w') : EnvOk c w' env σ :=
  ⟨ok, E.le0.trans a, E.len, fun i s e => let ⟨v, h1, h2⟩ := E.at' i s e; ⟨v, h1, h2.mono a⟩, E.own, fun b z => let ⟨h1, h2, h3⟩ := E.zf b z; ⟨a.fnone h1 h2, a.hsome h2, a.nm h2 h3⟩, E.zo⟩
structure Res (c : Ct) (w : Wd) (env : PEnv) (σ : St) (w' : Wd) (v : V) (s : SV) : Prop where
  ev : EnvOk c w' env σ
  lw : Lw w w'
  val : VR c w' v s
  new : New c env σ v s
  res : s.isRes = true
theorem Res.data {c : Ct} {w : Wd} {env : PEnv} {σ : St} {v : V} {x : PyData} (E : EnvOk c w env σ) (h : Den c.K w.F v x) : Res c w env σ w v (.d x) :=
  ⟨E, Lw.refl w, h, fun _ e => (nomatch e), rfl⟩
def Wd.tup (w : Wd) (p : Addr) (o : HO) : Wd := ⟨w.M, upd w.H p o, upd w.F p o⟩
def Wd.lay (w : Wd) (p : Addr) (o : HO) : Wd := ⟨w.M, upd w.H p o, w.F⟩
theorem Wd.Ok.fnone {w : Wd} (o : w.Ok) {p : Addr} (h : w.H p = none) : w.F p = none := by
  cases q : w.F p with
  | none => rfl
  | some u => have := o.sub p u q; rw [h] at this; cases this
theorem Wd.Ok.mne {w : Wd} (o : w.Ok) {p q : Addr} (h : w.H p = none) (hq : w.M q) : q ≠ p := by
  obtain ⟨c, m, f, e, _⟩ := (o.st q hq).ex
  exact D5 e h
theorem O5 {H : Hpp} {p b : Addr} {o : HO} (h : upd H p o b = none) : H b = none := by
  unfold upd at h; split at h
  · cases h
  · exact h
theorem Wd.tup_ok {w : Wd} {p : Addr} {o : HO} (ok : w.Ok) (h : w.H p = none) : (w.tup p o).Ok :=
  ⟨fun b u e => by
    show upd w.H p o b = some u
    have e' : upd w.F p o b = some u := e
    unfold upd at e' ⊢
    split at e'
    · rename_i z; rw [if_pos z]; exact e'
    · rename_i z; rw [if_neg z]; exact ok.sub b u e',
   fun q hq => (ok.st q hq).same (Same.upd h), fun q hq => by
    show upd w.F p o q = none
    rw [C9 (ok.mne h hq)]; exact ok.nf q hq⟩
theorem Wd.lay_ok {w : Wd} {p : Addr} {o : HO} (ok : w.Ok) (h : w.H p = none) : (w.lay p o).Ok :=
  ⟨ok.sub.trans (Same.upd h), fun q hq => (ok.st q hq).same (Same.upd h), ok.nf⟩
theorem Wd.tup_le {w : Wd} {p : Addr} {o : HO} (ok : w.Ok) (h : w.H p = none) : Le w (w.tup p o) :=
  ⟨⟨Same.upd (ok.fnone h), fun b u e _ => Same.upd h b u e, fun _ z => z, fun _ z => .inl z, fun b z => O5 z⟩, fun a u e => by
    have e' : upd w.F p o a = some u := e
    unfold upd at e'
    split at e'
    · rename_i z; rw [z]; exact .inr h
    · exact .inl e'⟩
theorem Wd.lay_le {w : Wd} {p : Addr} {o : HO} (h : w.H p = none) : Le w (w.lay p o) :=
  ⟨⟨Same.refl _, fun b u e _ => Same.upd h b u e, fun _ z => z, fun _ z => .inl z, fun b z => O5 z⟩, fun a u e => .inl e⟩
theorem Res.tup {c : Ct} {w : Wd} {env : PEnv} {σ : St} {p : Addr} {vs : List V} {xs : List PyData} (E : EnvOk c w env σ) (h : w.H p = none) (hd : DenAll c.K w.F vs xs) : Res c w env σ (w.tup p (.tup vs)) (.ref p) (.d (.tuple xs)) :=
  ⟨E.mono (Wd.tup_ok E.wok h) (Wd.tup_le E.wok h), (Wd.tup_le E.wok h).toLw, .tup (SqT.of C8) (DenAll.same (Wd.tup_le E.wok h).f hd), fun _ e => (nomatch e), rfl⟩
theorem Res.lst {c : Ct} {w : Wd} {env : PEnv} {σ : St} {p : Addr} {vs : List V} {xs : List PyData} (E : EnvOk c w env σ) (h : w.H p = none) (hd : DenAll c.K w.F vs xs) : Res c w env σ (w.lay p (.lst vs)) (.ref p) (.own xs) :=
  ⟨E.mono (Wd.lay_ok E.wok h) (Wd.lay_le h), (Wd.lay_le h).toLw, ⟨p, vs, rfl, C8, E.wok.fnone h, fun z => E.wok.mne h z rfl, E.le0.dom p h, hd⟩,
   fun a f => (by
    have : V.ref p = .ref a := f
    cases this
    exact E.fresh h), rfl⟩
theorem Res.frz {c : Ct} {w w1 : Wd} {env : PEnv} {σ : St} {v : V} {xs : List PyData} (R : Res c w env σ w1 v (.own xs)) : ∃ w', w'.H = w1.H /\ EnvOk c w' env σ /\ Lw w w' /\ Den c.K w'.F v (.list xs) := by
  obtain ⟨E, lw, ⟨l, vs, e, h1, h2, h3, h4, h5⟩, new, _⟩ := R
  subst e
  obtain ⟨n1, n2⟩ := new l rfl
  have up : Same w1.F (upd w1.F l (.lst vs)) := Same.upd h2
  have lw' : Lw w1 ⟨w1.M, w1.H, upd w1.F l (.lst vs)⟩ := ⟨up, fun _ _ h _ => h, fun _ h => h, fun _ h => .inl h, fun _ h => h⟩
  refine ⟨⟨w1.M, w1.H, upd w1.F l (.lst vs)⟩, rfl, ⟨⟨fun b u q => ?_, E.wok.st, fun p hp => ?_⟩, ⟨E.le0.toLw.trans lw', fun a u q => ?_⟩, E.len, fun i s q => ?_, E.own, fun a za => ?_, E.zo⟩, lw.trans lw', .lst (SqL.of C8) (DenAll.same up h5)⟩
  · have q' : upd w1.F l (.lst vs) b = some u := q
    unfold upd at q'
    split at q'
    · rename_i z; rw [z]; exact h1.trans q'
    · exact E.wok.sub b u q'
  · show upd w1.F l (.lst vs) p = none
    rw [C9 (fun z => h3 (by rw [<- z]; exact hp))]; exact E.wok.nf p hp
  · have q' : upd w1.F l (.lst vs) a = some u := q
    unfold upd at q'
    split at q'
    · rename_i z; rw [z]; exact .inr h4
    · exact E.le0.n a u q'
  · obtain ⟨v, g1, g2⟩ := E.at' i s q
    refine ⟨v, g1, ?_⟩
    cases s with
    | d x => exact Den.same up g2
    | own ys =>
      obtain ⟨l', us, e', k1, k2, k3, k4, k5⟩ := g2
      subst e'
      refine ⟨l', us, rfl, k1, ?_, k3, k4, DenAll.same up k5⟩
      show upd w1.F l (.lst vs) l' = none
      rw [C9 (fun z => n1 i _ _ q g1 (by subst z; rfl))]; exact k2
    | bor ys =>
      rcases g2 with g | ⟨l', us, e', k1, k2, k3⟩
      · exact .inl (Den.same up g)
      · exact .inr ⟨l', us, e', k1, k2, DenAll.same up k3⟩
    | st => exact g2
    | bt t => exact ⟨g2.1.sameF up, g2.2⟩
    | tr t =>
      obtain ⟨k1, k2⟩ := g2
      refine ⟨k1.mono lw' fun p hp => (k2 p hp).2.2.1, fun p hp => ⟨(k2 p hp).1, ?_, (k2 p hp).2.2⟩⟩
      show upd w1.F l (.lst vs) p = none
      rw [C9 (fun z => n1 i _ _ q g1 (by subst z; exact hp))]; exact (k2 p hp).2.1
  · obtain ⟨z1, z2, z3⟩ := E.zf a za
    refine ⟨?_, z2, z3⟩
    show upd w1.F l (.lst vs) a = none
    rw [C9 (fun z => n2 (by subst z; exact za))]; exact z1
theorem EnvOk.set {c : Ct} {w : Wd} {env : PEnv} {σ : St} {v : V} {s : SV} {i : Nat} (E : EnvOk c w env σ) (h : VR c w v s) (new : New c env σ v s) :
    EnvOk c w (env.set i (some s)) (σ.set i (some v)) := by
  have hl := E.len
  have hd : ∀ {j : Nat} {t : SV} {u : V}, (env.set i (some s))[j]? = some (some t) -> (σ.set i (some v))[j]? = some (some u) -> (i = j /\ t = s /\ u = v) \/ (i ≠ j /\ env[j]? = some (some t) /\ σ[j]? = some (some u)) := by
    intro j t u q q'
    rw [List.getElem?_set] at q q'
    by_cases e : i = j
    · subst e
      rw [if_pos rfl] at q q'
      split at q
      · rename_i z
        rw [if_pos (by omega)] at q'
        cases q; cases q'; exact .inl ⟨rfl, rfl, rfl⟩
      · cases q
    · rw [if_neg e] at q q'
      exact .inr ⟨e, q, q'⟩
  refine ⟨E.wok, E.le0, by simpa using hl, fun j t q => ?_, fun j k s1 t1 v1 u1 a q1 q2 q3 q4 f1 f2 => ?_, E.zf, fun a j t u za q q' => ?_⟩
  · rw [List.getElem?_set] at q ⊢
    by_cases e : i = j
    · subst e
      rw [if_pos rfl] at q ⊢
      split at q
      · rename_i z
        rw [if_pos (by omega)]
        cases q
        exact ⟨v, rfl, h⟩
      · cases q
    · rw [if_neg e] at q ⊢
      exact E.at' j t q
  · rcases hd q1 q3 with ⟨e1, rfl, rfl⟩ | ⟨e1, p1, p3⟩
    · rcases hd q2 q4 with ⟨e2, rfl, rfl⟩ | ⟨e2, q2, q4⟩
      · exact e1.symm.trans e2
      · exact absurd f2 ((new a f1).1 k _ _ q2 q4)
    · rcases hd q2 q4 with ⟨e2, rfl, rfl⟩ | ⟨e2, p2, p4⟩
      · exact absurd f1 ((new a f2).1 j _ _ p1 p3)
      · exact E.own j k _ _ _ _ a p1 p2 p3 p4 f1 f2
  · rcases hd q q' with ⟨_, rfl, rfl⟩ | ⟨_, q, q'⟩
    · exact fun f => (new a f).2 za
    · exact E.zo a j t u za q q'
end Pu
namespace Pu
open PySem L2 My Prf
abbrev PX := PEnv -> (SV -> PEnv -> Prop) -> Prop
abbrev PDt := PEnv -> (PyData -> PEnv -> Prop) -> Prop
abbrev PTt := PEnv -> (Bool -> PEnv -> Prop) -> Prop
abbrev PAr := PEnv -> (List PyData -> PEnv -> Prop) -> Prop
abbrev PAs := PEnv -> (List SV -> PEnv -> Prop) -> Prop
theorem Res.pre {c : Ct} {w w1 w2 : Wd} {env : PEnv} {σ : St} {v : V} {s : SV} (a : Lw w w1) (R : Res c w1 env σ w2 v s) : Res c w env σ w2 v s := ⟨R.ev, a.trans R.lw, R.val, R.new, R.res⟩
class RE (K : Frag) (te : TE) (pe : outParam PX) : Prop where
  ok : ∀ (c : Ct) (w : Wd) (env : PEnv) (σ : St) (Qp : SV -> PEnv -> Prop) (Q : VK), c.K = K -> EnvOk c w env σ -> pe env Qp -> (∀ v s env' w', Res c w env' σ w' v s -> Qp s env' -> Q v w'.H) -> te σ w.H Q
class RD (K : Frag) (te : TE) (pd : outParam PDt) : Prop where
  ok : ∀ (c : Ct) (w : Wd) (env : PEnv) (σ : St) (Qp : PyData -> PEnv -> Prop) (Q : VK), c.K = K -> EnvOk c w env σ -> pd env Qp -> (∀ v x env' w', EnvOk c w' env' σ -> Lw w w' -> Den K w'.F v x -> Qp x env' -> Q v w'.H) -> te σ w.H Q
class RW (K : Frag) (te : TE) (pd : outParam PDt) : Prop where
  ok : ∀ (c : Ct) (w : Wd) (env : PEnv) (σ : St) (Qp : PyData -> PEnv -> Prop) (Q : VK), c.K = K -> EnvOk c w env σ -> pd env Qp -> (∀ v x env' w', EnvOk c w' env' σ -> Lw w w' -> VV K w' v x -> Qp x env' -> Q v w'.H) -> te σ w.H Q
def SV.asD (s : SV) (k : PyData -> Prop) : Prop := match s with
  | .d x => k x
  | .own xs => k (.list xs)
  | _ => False
def pdat (pe : PX) (env : PEnv) (Q : PyData -> PEnv -> Prop) : Prop := pe env fun s e => s.asD fun x => Q x e
instance rd_of {K : Frag} {te : TE} {pe : PX} [h : RE K te pe] : RD K te (pdat pe) where
  ok := by
    rintro c w env σ Qp Q rfl E p k
    refine h.ok c w env σ _ Q rfl E p fun v s env' w' R q => ?_
    cases s with
    | d x => exact k v x env' w' R.ev R.lw R.val q
    | own xs =>
      obtain ⟨w2, e, E2, l2, d2⟩ := R.frz
      rw [<- e]
      exact k v _ env' w2 E2 l2 d2 q
    | bor xs => exact (show False from q).elim
    | st => exact (show False from q).elim
    | tr t => exact (show False from q).elim
    | bt t => exact (show False from q).elim
instance (priority := low) rw_of {K : Frag} {te : TE} {pd : PDt} [h : RD K te pd] : RW K te pd where
  ok := fun c w env σ Qp Q e E p k => h.ok c w env σ Qp Q e E p fun v x env' w' E' l d q => k v x env' w' E' l (.inl d) q
def pVar (i : Nat) (env : PEnv) (Q : SV -> PEnv -> Prop) : Prop := match env[i]? with
  | some (some (.d x)) => Q (.d x) env
  | some (some (.own xs)) => Q (.d (.list xs)) (env.set i (some (.d (.list xs))))
  | some (some .st) => Q .st env
  | _ => False
def B6h (i : Nat) (env : PEnv) (Q : PyData -> PEnv -> Prop) : Prop := match env[i]? with
  | some (some (.d x)) => Q x env
  | some (some (.own xs)) => Q (.list xs) env
  | some (some (.bor xs)) => Q (.list xs) env
  | _ => False
theorem EnvOk.frz {c : Ct} {w : Wd} {env : PEnv} {σ : St} {i : Nat} {xs : List PyData} (E : EnvOk c w env σ) (h : env[i]? = some (some (.own xs))) :
    ∃ w' v, w'.H = w.H /\ σ[i]? = some (some v) /\ EnvOk c w' (env.set i (some (.d (.list xs)))) σ /\ Lw w w' /\ Den c.K w'.F v (.list xs) := by
  obtain ⟨v, hv, hV⟩ := E.at' i _ h
  have hV' := hV
  obtain ⟨l, vs, e, h1, h2, h3, h4, h5⟩ := hV'
  have up : ∀ {j : Nat} {t : SV}, (env.set i none)[j]? = some (some t) -> i ≠ j /\ env[j]? = some (some t) := by
    intro j t q
    rw [List.getElem?_set] at q
    split at q
    · split at q <;> cases q
    · rename_i z; exact ⟨z, q⟩
  have E' : EnvOk c w (env.set i none) σ := ⟨E.wok, E.le0, by simpa using E.len, fun j s q => E.at' j s (up q).2, fun j k s t v u a q1 q2 => E.own j k s t v u a (up q1).2 (up q2).2, E.zf, fun a j t u za q => E.zo a j t u za (up q).2⟩
  have R : Res c w (env.set i none) σ w v (.own xs) := ⟨E', Lw.refl w, hV, fun a f => ⟨fun j t u q z g => (up q).1 (E.own i j _ _ _ _ a h (up q).2 hv z f g), fun za => E.zo a i _ _ za h hv f⟩, rfl⟩
  obtain ⟨w', e', E2, l2, d2⟩ := R.frz
  refine ⟨w', v, e', hv, ?_, l2, d2⟩
  have E3 := E2.set (i := i) (v := v) (s := .d (.list xs)) d2 (fun _ z => nomatch z)
  rw [List.set_set] at E3
  have hi : i < σ.length := (List.getElem?_eq_some_iff.mp hv).1
  rwa [show σ.set i (some v) = σ by
    refine List.ext_getElem? fun j => ?_
    rw [List.getElem?_set]
    split
    · rename_i z; subst z; simp [hv]
    · rfl] at E3
instance re_var {K : Frag} {i : Nat} : RE K (tVar i) (pVar i) where
  ok := by
    rintro c w env σ Qp Q rfl E p k
    unfold pVar at p
    split at p
    · rename_i x e
      obtain ⟨v, h1, h2⟩ := E.at' i _ e
      exact ⟨v, h1, k v _ env w (Res.data E h2) p⟩
    · rename_i xs e
      obtain ⟨w', v, e', hv, E', l, d⟩ := E.frz e
      refine ⟨v, hv, ?_⟩
      rw [<- e']
      exact k v (.d (.list xs)) _ w' ⟨E', l, d, fun _ z => (nomatch z), rfl⟩ p
    · rename_i e
      obtain ⟨v, h1, h2⟩ := E.at' i _ e
      exact ⟨v, h1, k v _ env w ⟨E, Lw.refl w, h2, fun _ z => (nomatch z), rfl⟩ p⟩
    · exact p.elim
theorem VR.vv {c : Ct} {w : Wd} {v : V} {xs : List PyData} (l : Le c.w0 w) (h : VR c w v (.bor xs)) : VV c.K w v (.list xs) := by
  rcases h with h | ⟨l', vs, e, h1, h2, h3⟩
  · exact .inl h
  · exact .inr ⟨l', vs, xs, e, rfl, l.h _ _ h1 h2, l.nm (by rw [h1]; simp) h2, h3⟩
instance rw_var {K : Frag} {i : Nat} : RW K (tVar i) (B6h i) where
  ok := by
    rintro c w env σ Qp Q rfl E p k
    unfold B6h at p
    split at p
    · rename_i x e
      obtain ⟨v, h1, h2⟩ := E.at' i _ e
      exact ⟨v, h1, k v _ env w E (Lw.refl w) (.inl h2) p⟩
    · rename_i xs e
      obtain ⟨v, h1, l, vs, e', g1, g2, g3, g4, g5⟩ := E.at' i _ e
      exact ⟨v, h1, k v _ env w E (Lw.refl w) (.inr ⟨l, vs, xs, e', rfl, g1, g3, g5⟩) p⟩
    · rename_i xs e
      obtain ⟨v, h1, h2⟩ := E.at' i _ e
      exact ⟨v, h1, k v _ env w E (Lw.refl w) (h2.vv E.le0) p⟩
    · exact p.elim
def pC (x : PyData) (env : PEnv) (Q : SV -> PEnv -> Prop) : Prop := Q (.d x) env
theorem N4 {K : Frag} {v : V} {x : PyData} (h : ∀ F, Den K F v x) : RE K (tC v) (pC x) where
  ok := by
    rintro c w env σ Qp Q rfl E p k
    exact k _ _ env w (Res.data E (h _)) p
instance re_int {K : Frag} {i : Int} : RE K (tC (.int i)) (pC (.int i)) := N4 fun _ => .int i
instance re_bl {K : Frag} {b : Bool} : RE K (tC (.bl b)) (pC (.bool b)) := N4 fun _ => .bl b
instance re_non {K : Frag} : RE K (tC .non) (pC .none) := N4 fun _ => .non
instance re_str {K : Frag} {x : Str} : RE K (tC (.str x)) (pC (.str x)) := N4 fun _ => .str x
class GD (K : Frag) (a : Addr) (x : outParam PyData) : Prop where
  ok : ∀ F, Den K F (.ref a) x
instance re_glob {K : Frag} {a : Addr} {x : PyData} [h : GD K a x] : RE K (tC (.ref a)) (pC x) := N4 h.ok
class RO (K : Frag) (r : R2) (pr : outParam (PyData -> PyData -> (SV -> Prop) -> Prop)) : Prop where
  ok : ∀ (c : Ct) (w : Wd) (env : PEnv) (σ : St) (x y : V) (dx dy : PyData) (Qp : SV -> Prop) (Q : VK), c.K = K -> EnvOk c w env σ -> VV K w x dx -> VV K w y dy -> pr dx dy Qp -> (∀ v s w', Res c w env σ w' v s -> Qp s -> Q v w'.H) -> r x y w.H Q
def pOp (pr : PyData -> PyData -> (SV -> Prop) -> Prop) (pa pb : PDt) (env : PEnv) (Q : SV -> PEnv -> Prop) : Prop := pa env fun x e1 => pb e1 fun y e2 => pr x y fun s => Q s e2
instance re_op {K : Frag} {r : R2} {ta tb : TE} {pr : PyData -> PyData -> (SV -> Prop) -> Prop} {pa pb : PDt} [h : RO K r pr] [ha : RW K ta pa] [hb : RW K tb pb] : RE K (tOp r ta tb) (pOp pr pa pb) where
  ok := by
    rintro c w env σ Qp Q rfl E p k
    refine ha.ok c w env σ _ _ rfl E p fun x dx e1 w1 E1 l1 v1 q1 => ?_
    refine hb.ok c w1 e1 σ _ _ rfl E1 q1 fun y dy e2 w2 E2 l2 v2 q2 => ?_
    exact h.ok c w2 e2 σ x y dx dy _ _ rfl E2 (v1.mono l2) v2 q2 fun v s w' R q => k v s e2 w' (R.pre (l1.trans l2)) q
class SG (g : Int -> Int -> V) (gd : outParam (Int -> Int -> PyData)) : Prop where
  ok : ∀ i j K F, Den K F (g i j) (gd i j)
instance sg_int {f : Int -> Int -> Int} : SG (fun i j => .int (f i j)) (fun i j => .int (f i j)) := ⟨fun _ _ _ _ => .int _⟩
instance sg_bl {f : Int -> Int -> Bool} : SG (fun i j => .bl (f i j)) (fun i j => .bool (f i j)) := ⟨fun _ _ _ _ => .bl _⟩
def pI (C : Int -> Int -> Prop) (gd : Int -> Int -> PyData) (x y : PyData) (Q : SV -> Prop) : Prop := match x, y with
  | .int i, .int j => C i j /\ Q (.d (gd i j))
  | _, _ => False
def pI0 (gd : Int -> Int -> PyData) (x y : PyData) (Q : SV -> Prop) : Prop := match x, y with
  | .int i, .int j => Q (.d (gd i j))
  | _, _ => False
theorem VV.intE {K : Frag} {w : Wd} {v : V} {i : Int} (h : VV K w v (.int i)) : v = .int i := by
  rcases h with h | ⟨l, vs, xs, e, e', _⟩
  · exact h.intE
  · cases e'
theorem VV.blE {K : Frag} {w : Wd} {v : V} {b : Bool} (h : VV K w v (.bool b)) : v = .bl b := by
  rcases h with h | ⟨l, vs, xs, e, e', _⟩
  · exact h.blE
  · cases e'
instance ro_I {K : Frag} {C : Int -> Int -> Prop} {g : Int -> Int -> V} {gd : Int -> Int -> PyData} [s : SG g gd] : RO K (rI C g) (pI C gd) where
  ok := by
    rintro c w env σ x y dx dy Qp Q rfl E vx vy p k
    unfold pI at p
    split at p
    · rename_i i j
      exact ⟨i, j, vx.intE, vy.intE, p.1, k _ _ w (Res.data E (s.ok i j _ _)) p.2⟩
    · exact p.elim
instance ro_I0 {K : Frag} {g : Int -> Int -> V} {gd : Int -> Int -> PyData} [s : SG g gd] : RO K (rI0 g) (pI0 gd) where
  ok := by
    rintro c w env σ x y dx dy Qp Q rfl E vx vy p k
    unfold pI0 at p
    split at p
    · rename_i i j
      exact ⟨i, j, vx.intE, vy.intE, k _ _ w (Res.data E (s.ok i j _ _)) p⟩
    · exact p.elim
def pEqD (x y : PyData) (Q : SV -> Prop) : Prop := x.canLay0 = true /\ y.canLay0 = true /\ x.depth <= 60 /\ Q (.d (.bool (PyData.eqv x y)))
def pNeD (x y : PyData) (Q : SV -> Prop) : Prop := x.canLay0 = true /\ y.canLay0 = true /\ x.depth <= 60 /\ Q (.d (.bool (!PyData.eqv x y)))
def isNo : PyData -> Bool
  | .none => true
  | _ => false
def rIsN : R2 := fun x y H Q => y = .non /\ Q (.bl (decide (x = .non))) H
theorem A1l {X : Cx} : OpR X (compareOp .Is) rIsN := B9l
theorem Den.no {K : Frag} {F : Hpp} {v : V} {x : PyData} (h : Den K F v x) : decide (v = .non) = isNo x := by cases h <;> rfl
theorem VV.no {K : Frag} {w : Wd} {v : V} {x : PyData} (h : VV K w v x) : decide (v = .non) = isNo x := by
  rcases h with h | ⟨l, vs, xs, e, e', _⟩
  · exact Den.no h
  · subst e; subst e'; rfl
def pIsN (x y : PyData) (Q : SV -> Prop) : Prop := y = .none /\ Q (.d (.bool (isNo x)))
def B86 (x y : PyData) (Q : SV -> Prop) : Prop := y = .none /\ Q (.d (.bool (!isNo x)))
theorem VV.nonE {K : Frag} {w : Wd} {v : V} (h : VV K w v .none) : v = .non := by
  rcases h with h | ⟨l, vs, xs, e, e', _⟩
  · exact h.nonE
  · cases e'
instance ro_isN {K : Frag} : RO K rIsN pIsN where
  ok := by
    rintro c w env σ x y dx dy Qp Q rfl E vx vy ⟨rfl, p⟩ k
    refine ⟨vy.nonE, k _ _ w (Res.data E ?_) p⟩
    rw [vx.no]; exact .bl _
def pGet (xs : List PyData) (i : Int) (Q : SV -> Prop) : Prop := match atI xs i with
  | some z => Q (.d z)
  | none => False
def pIx (x y : PyData) (Q : SV -> Prop) : Prop := match x, y with
  | .list xs, .int i => pGet xs i Q
  | .tuple xs, .int i => pGet xs i Q
  | _, _ => False
theorem VV.lst {K : Frag} {w : Wd} {v : V} {xs : List PyData} (o : w.Ok) (h : VV K w v (.list xs)) : ∃ a vs, v = .ref a /\ SqL K w.H a vs /\ DenAll K w.F vs xs := by
  rcases h with h | ⟨l, vs, ys, e, e', h1, h2, h3⟩
  · obtain ⟨a, vs, e, h1, h2⟩ := h.lstE
    exact ⟨a, vs, e, o.sub.seq h1, h2⟩
  · cases e'; exact ⟨l, vs, e, SqL.of h1, h3⟩
theorem VV.tup {K : Frag} {w : Wd} {v : V} {xs : List PyData} (o : w.Ok) (h : VV K w v (.tuple xs)) : ∃ a vs, v = .ref a /\ SqT K w.H a vs /\ DenAll K w.F vs xs := by
  rcases h with h | ⟨l, vs, ys, e, e', h1, h2, h3⟩
  · obtain ⟨a, vs, e, h1, h2⟩ := h.tupE
    exact ⟨a, vs, e, SqT.same o.sub h1, h2⟩
  · cases e'
instance ro_ix {K : Frag} : RO K (rIx K) pIx where
  ok := by
    rintro c w env σ x y dx dy Qp Q rfl E vx vy p k
    unfold pIx at p
    split at p
    · rename_i xs i
      unfold pGet at p
      split at p
      · rename_i z hz
        obtain ⟨a, vs, e, h1, h2⟩ := vx.lst E.wok
        obtain ⟨v, g1, g2⟩ := h2.atIE hz
        exact .inl ⟨a, vs, i, v, e, vy.intE, h1, g1, k _ _ w (Res.data E g2) p⟩
      · exact p.elim
    · rename_i xs i
      unfold pGet at p
      split at p
      · rename_i z hz
        obtain ⟨a, vs, e, h1, h2⟩ := vx.tup E.wok
        obtain ⟨v, g1, g2⟩ := h2.atIE hz
        exact .inr (.inl ⟨a, vs, i, v, e, vy.intE, h1, g1, k _ _ w (Res.data E g2) p⟩)
      · exact p.elim
    · exact p.elim
theorem A8 {X : Cx} {K : Frag} (h : X.K = K) : IxR X (rIx K) := by subst h; exact C0f
def pU (gd : Int -> PyData) (x : PyData) (Q : SV -> Prop) : Prop := match x with
  | .int i => Q (.d (gd i))
  | _ => False
def pUn (f : PyData -> (SV -> Prop) -> Prop) (pa : PDt) (env : PEnv) (Q : SV -> PEnv -> Prop) : Prop := pa env fun x e => f x fun s => Q s e
instance re_neg {K : Frag} {ta : TE} {pa : PDt} {f : Int -> Int} [ha : RW K ta pa] : RE K (tUn (rU fun i => .int (f i)) ta) (pUn (pU fun i => .int (f i)) pa) where
  ok := by
    rintro c w env σ Qp Q rfl E p k
    refine ha.ok c w env σ _ _ rfl E p fun x dx e1 w1 E1 l1 v1 q1 => ?_
    unfold pU at q1
    split at q1
    · rename_i i
      exact ⟨i, v1.intE, k _ _ e1 w1 ((Res.data E1 (.int _)).pre l1) q1⟩
    · exact q1.elim
inductive VVs (K : Frag) (w : Wd) : List V -> List PyData -> Prop
  | nil : VVs K w [] []
  | cons {v : V} {x : PyData} {vs : List V} {xs : List PyData} : VV K w v x -> VVs K w vs xs -> VVs K w (v :: vs) (x :: xs)
class RAv (K : Frag) (ta : TA) (pa : outParam PAr) : Prop where
  ok : ∀ (c : Ct) (w : Wd) (env : PEnv) (σ : St) (Qp : List PyData -> PEnv -> Prop) (Q : List V -> Hpp -> Prop), c.K = K -> EnvOk c w env σ -> pa env Qp -> (∀ vs xs env' w', EnvOk c w' env' σ -> Lw w w' -> VVs K w' vs xs -> Qp xs env' -> Q vs w'.H) -> ta σ w.H Q
class RAd (K : Frag) (ta : TA) (pa : outParam PAr) : Prop where
  ok : ∀ (c : Ct) (w : Wd) (env : PEnv) (σ : St) (Qp : List PyData -> PEnv -> Prop) (Q : List V -> Hpp -> Prop), c.K = K -> EnvOk c w env σ -> pa env Qp -> (∀ vs xs env' w', EnvOk c w' env' σ -> Lw w w' -> DenAll K w'.F vs xs -> Qp xs env' -> Q vs w'.H) -> ta σ w.H Q
def pNil (env : PEnv) (Q : List PyData -> PEnv -> Prop) : Prop := Q [] env
def B1g (pa : PDt) (pr : PAr) (env : PEnv) (Q : List PyData -> PEnv -> Prop) : Prop := pa env fun x e1 => pr e1 fun xs e2 => Q (x :: xs) e2
instance rav_nil {K : Frag} : RAv K tNil pNil := ⟨fun c w env σ Qp Q _ E p k => k [] [] env w E (Lw.refl w) .nil p⟩
instance rad_nil {K : Frag} : RAd K tNil pNil := ⟨fun c w env σ Qp Q _ E p k => k [] [] env w E (Lw.refl w) .nil p⟩
instance rav_cons {K : Frag} {ta : TE} {tr : TA} {pa : PDt} {pr : PAr} [ha : RW K ta pa] [hr : RAv K tr pr] : RAv K (K1 ta tr) (B1g pa pr) where
  ok := by
    rintro c w env σ Qp Q rfl E p k
    refine ha.ok c w env σ _ _ rfl E p fun x dx e1 w1 E1 l1 v1 q1 => ?_
    refine hr.ok c w1 e1 σ _ _ rfl E1 q1 fun vs xs e2 w2 E2 l2 v2 q2 => ?_
    exact k _ _ e2 w2 E2 (l1.trans l2) (.cons (v1.mono l2) v2) q2
instance rad_cons {K : Frag} {ta : TE} {tr : TA} {pa : PDt} {pr : PAr} [ha : RD K ta pa] [hr : RAd K tr pr] : RAd K (K1 ta tr) (B1g pa pr) where
  ok := by
    rintro c w env σ Qp Q rfl E p k
    refine ha.ok c w env σ _ _ rfl E p fun x dx e1 w1 E1 l1 v1 q1 => ?_
    refine hr.ok c w1 e1 σ _ _ rfl E1 q1 fun vs xs e2 w2 E2 l2 v2 q2 => ?_
    exact k _ _ e2 w2 E2 (l1.trans l2) (.cons (Den.same l2.f v1) v2) q2
def pTup (pa : PAr) (env : PEnv) (Q : SV -> PEnv -> Prop) : Prop := pa env fun xs e => xs.length <= 1000 /\ Q (.d (.tuple xs)) e
def pLst (pa : PAr) (env : PEnv) (Q : SV -> PEnv -> Prop) : Prop := pa env fun xs e => xs.length <= 1000 /\ Q (.own xs) e
instance re_tup {K : Frag} {ta : TA} {pa : PAr} [ha : RAd K ta pa] : RE K (tTup ta) (pTup pa) where
  ok := by
    rintro c w env σ Qp Q rfl E p k
    refine ha.ok c w env σ _ _ rfl E p fun vs xs e1 w1 E1 l1 v1 q1 => ⟨?_, fun p hp => ?_⟩
    · rw [v1.len]; exact Nat.le_of_lt (R1 q1.1)
    · exact k _ _ e1 _ ((Res.tup E1 hp v1).pre l1) q1.2
instance re_lst {K : Frag} {ta : TA} {pa : PAr} [ha : RAd K ta pa] : RE K (tLst ta) (pLst pa) where
  ok := by
    rintro c w env σ Qp Q rfl E p k
    refine ha.ok c w env σ _ _ rfl E p fun vs xs e1 w1 E1 l1 v1 q1 => ⟨?_, fun p hp => ?_⟩
    · rw [v1.len]; exact Nat.le_of_lt (R1 q1.1)
    · exact k _ _ e1 _ ((Res.lst E1 hp v1).pre l1) q1.2
class RB (K : Frag) (r : List V -> Hpp -> VK -> Prop) (pr : outParam (List PyData -> (SV -> Prop) -> Prop)) : Prop where
  ok : ∀ (c : Ct) (w : Wd) (env : PEnv) (σ : St) (vs : List V) (xs : List PyData) (Qp : SV -> Prop) (Q : VK), c.K = K -> EnvOk c w env σ -> VVs K w vs xs -> pr xs Qp -> (∀ v s w', Res c w env σ w' v s -> Qp s -> Q v w'.H) -> r vs w.H Q
def pCB (pr : List PyData -> (SV -> Prop) -> Prop) (pa : PAr) (env : PEnv) (Q : SV -> PEnv -> Prop) : Prop := pa env fun xs e => pr xs fun s => Q s e
instance re_cb {K : Frag} {r : List V -> Hpp -> VK -> Prop} {ta : TA} {pr : List PyData -> (SV -> Prop) -> Prop} {pa : PAr} [h : RB K r pr] [ha : RAv K ta pa] : RE K (tCB r ta) (pCB pr pa) where
  ok := by
    rintro c w env σ Qp Q rfl E p k
    refine ha.ok c w env σ _ _ rfl E p fun vs xs e1 w1 E1 l1 v1 q1 => ?_
    exact h.ok c w1 e1 σ vs xs _ _ rfl E1 v1 q1 fun v s w' R q => k v s e1 w' (R.pre l1) q
def rAbs : List V -> Hpp -> VK -> Prop := fun xs H Q => ∃ i, xs = [.int i] /\ Q (.int (if i < 0 then -i else i)) H
def rMax : List V -> Hpp -> VK -> Prop := fun xs H Q => ∃ i j, xs = [.int i, .int j] /\ Q (.int (if j > i then j else i)) H
def rMin : List V -> Hpp -> VK -> Prop := fun xs H Q => ∃ i j, xs = [.int i, .int j] /\ Q (.int (if j < i then j else i)) H
def rInt : List V -> Hpp -> VK -> Prop := fun xs H Q => (∃ i, xs = [.int i] /\ Q (.int i) H) \/ ∃ k, xs = [.bl k] /\ Q (.int (if k then 1 else 0)) H
def B2w (K : Frag) : List V -> Hpp -> VK -> Prop := fun xs H Q => ∃ p ys, xs = [.ref p] /\ (SqL K H p ys \/ SqT K H p ys) /\ ∀ l, H l = none -> Q (.ref l) (upd H l (.lst ys))
def rIsi (K : Frag) : List V -> Hpp -> VK -> Prop := fun xs H Q => ∃ x c T b, xs = [x, .ty c] /\ TyV K H x T /\ kitB T c = some b /\ Q (.bl b) H
section
variable {X : Cx}
theorem A00 : CallR X (.builtin "abs") rAbs := B2a
theorem A98 (hc : X.calm = true) : CallR X (.builtin "max") rMax := A99 hc
theorem A0v (hc : X.calm = true) : CallR X (.builtin "min") rMin := A97 hc
theorem A0y : CallR X (.type "int") rInt := A0z
theorem L1 {K : Frag} (h : X.K = K) : CallR X (.type "list") (B2w K) := by subst h; exact A0w
theorem J3 {K : Frag} (h : X.K = K) : CallR X (.builtin "isinstance") (rIsi K) := by subst h; exact A1t
end
def pLen (xs : List PyData) (Q : SV -> Prop) : Prop := match xs with
  | [.list ys] => Q (.d (.int ys.length))
  | [.tuple ys] => Q (.d (.int ys.length))
  | _ => False
def pAbs (xs : List PyData) (Q : SV -> Prop) : Prop := match xs with
  | [.int i] => Q (.d (.int (if i < 0 then -i else i)))
  | _ => False
def pMax (xs : List PyData) (Q : SV -> Prop) : Prop := match xs with
  | [.int i, .int j] => Q (.d (.int (if j > i then j else i)))
  | _ => False
def pMin (xs : List PyData) (Q : SV -> Prop) : Prop := match xs with
  | [.int i, .int j] => Q (.d (.int (if j < i then j else i)))
  | _ => False
def pInt (xs : List PyData) (Q : SV -> Prop) : Prop := match xs with
  | [.int i] => Q (.d (.int i))
  | [.bool k] => Q (.d (.int (if k then 1 else 0)))
  | _ => False
def A2l (xs : List PyData) (Q : SV -> Prop) : Prop := match xs with
  | [.list ys] => Q (.own ys)
  | [.tuple ys] => Q (.own ys)
  | _ => False
instance rb_abs {K : Frag} : RB K rAbs pAbs where
  ok := by
    rintro c w env σ vs xs Qp Q rfl E vv p k
    unfold pAbs at p
    split at p
    · cases vv with | cons h t => cases t; exact ⟨_, by rw [h.intE], k _ _ w (Res.data E (.int _)) p⟩
    · exact p.elim
instance rb_max {K : Frag} : RB K rMax pMax where
  ok := by
    rintro c w env σ vs xs Qp Q rfl E vv p k
    unfold pMax at p
    split at p
    · cases vv with | cons h t => cases t with | cons h' t => cases t; exact ⟨_, _, by rw [h.intE, h'.intE], k _ _ w (Res.data E (.int _)) p⟩
    · exact p.elim
instance rb_min {K : Frag} : RB K rMin pMin where
  ok := by
    rintro c w env σ vs xs Qp Q rfl E vv p k
    unfold pMin at p
    split at p
    · cases vv with | cons h t => cases t with | cons h' t => cases t; exact ⟨_, _, by rw [h.intE, h'.intE], k _ _ w (Res.data E (.int _)) p⟩
    · exact p.elim
instance rb_int {K : Frag} : RB K rInt pInt where
  ok := by
    rintro c w env σ vs xs Qp Q rfl E vv p k
    unfold pInt at p
    split at p
    · cases vv with | cons h t => cases t; exact .inl ⟨_, by rw [h.intE], k _ _ w (Res.data E (.int _)) p⟩
    · cases vv with | cons h t => cases t; exact .inr ⟨_, by rw [h.blE], k _ _ w (Res.data E (.int _)) p⟩
    · exact p.elim
instance rb_lst {K : Frag} : RB K (B2w K) A2l where
  ok := by
    rintro c w env σ vs xs Qp Q rfl E vv p k
    unfold A2l at p
    split at p
    · cases vv with | cons h t => cases t; obtain ⟨a, us, e, h1, h2⟩ := h.lst E.wok; exact ⟨a, us, by rw [e], .inl h1, fun l hl => k _ _ _ (Res.lst E hl h2) p⟩
    · cases vv with | cons h t => cases t; obtain ⟨a, us, e, h1, h2⟩ := h.tup E.wok; exact ⟨a, us, by rw [e], .inr h1, fun l hl => k _ _ _ (Res.lst E hl h2) p⟩
    · exact p.elim
def tyD : PyData -> String
  | .none => "NoneType"
  | .bool _ => "bool"
  | .int _ => "int"
  | .str _ => "str"
  | .list _ => "list"
  | .tuple _ => "tuple"
  | .dict _ => "dict"
theorem Den.ty {K : Frag} {H : Hpp} {v : V} {x : PyData} (h : Den K H v x) : TyV K H v (tyD x) := by
  cases h with
  | non => rfl
  | bl => rfl
  | int => rfl
  | str => rfl
  | lst h _ => exact .inl ⟨rfl, _, h⟩
  | tup h _ => exact .inr (.inl ⟨rfl, _, h⟩)
  | dct h => exact .inr (.inr ⟨rfl, _, h⟩)
def pIsi (c : String) (pa : PDt) (env : PEnv) (Q : SV -> PEnv -> Prop) : Prop := pa env fun x e => match kitB (tyD x) c with
  | some b => Q (.d (.bool b)) e
  | none => False
instance (priority := high) re_isi {K : Frag} {ta : TE} {pa : PDt} {c : String} [ha : RW K ta pa] : RE K (tCB (rIsi K) (K1 ta (K1 (tC (.ty c)) tNil))) (pIsi c pa) where
  ok := by
    rintro ct w env σ Qp Q rfl E p k
    refine ha.ok ct w env σ _ _ rfl E p fun x dx e1 w1 E1 l1 v1 q1 => ?_
    split at q1
    · rename_i b hb
      exact ⟨x, c, _, b, rfl, Den.ty (v1.den E1.wok), hb, k _ _ e1 w1 ((Res.data E1 (.bl _)).pre l1) q1⟩
    · exact q1.elim
end Pu
namespace Pu
open PySem L2 My Prf
class RT (K : Frag) (tt : TT) (pt : outParam PTt) : Prop where
  ok : ∀ (c : Ct) (w : Wd) (env : PEnv) (σ : St) (Qp : Bool -> PEnv -> Prop) (Q : Bool -> Hpp -> Prop), c.K = K -> EnvOk c w env σ -> pt env Qp -> (∀ b env' w', EnvOk c w' env' σ -> Lw w w' -> Qp b env' -> Q b w'.H) -> tt σ w.H Q
def asB (x : PyData) (k : Bool -> Prop) : Prop := match x with
  | .bool b => k b
  | _ => False
def B1f (pa : PDt) (env : PEnv) (Q : Bool -> PEnv -> Prop) : Prop := pa env fun x e => asB x fun b => Q b e
instance rt_test {K : Frag} {ta : TE} {pa : PDt} [ha : RW K ta pa] : RT K (B5i ta) (B1f pa) where
  ok := by
    rintro c w env σ Qp Q rfl E p k
    refine ha.ok c w env σ _ _ rfl E p fun x dx e1 w1 E1 l1 v1 q1 => ?_
    unfold asB at q1
    split at q1
    · exact ⟨_, v1.blE, k _ e1 w1 E1 l1 q1⟩
    · exact q1.elim
instance rt_B {K : Frag} {ta : TE} {pa : PDt} [ha : RW K ta pa] : RT K (tB ta) (B1f pa) where
  ok := by
    rintro c w env σ Qp Q rfl E p k
    refine ha.ok c w env σ _ _ rfl E p fun x dx e1 w1 E1 l1 v1 q1 => ?_
    unfold asB at q1
    split at q1
    · exact ⟨_, v1.blE, k _ e1 w1 E1 l1 q1⟩
    · exact q1.elim
def pYes (env : PEnv) (Q : Bool -> PEnv -> Prop) : Prop := Q true env
instance rt_yes {K : Frag} : RT K tYes pYes := ⟨fun c w env σ Qp Q _ E p k => k true env w E (Lw.refl w) p⟩
def pNot (pa : PTt) (env : PEnv) (Q : Bool -> PEnv -> Prop) : Prop := pa env fun b e => Q (!b) e
def pAnd (pa pb : PTt) (env : PEnv) (Q : Bool -> PEnv -> Prop) : Prop := pa env fun b e => if b = true then pb e Q else Q false e
def pOr (pa pb : PTt) (env : PEnv) (Q : Bool -> PEnv -> Prop) : Prop := pa env fun b e => if b = true then Q true e else pb e Q
instance rt_not {K : Frag} {ta : TT} {pa : PTt} [ha : RT K ta pa] : RT K (tNot ta) (pNot pa) where
  ok := by
    rintro c w env σ Qp Q rfl E p k
    exact ha.ok c w env σ _ _ rfl E p fun b e1 w1 E1 l1 q1 => k _ e1 w1 E1 l1 q1
instance rt_and {K : Frag} {ta tb : TT} {pa pb : PTt} [ha : RT K ta pa] [hb : RT K tb pb] : RT K (tAnd ta tb) (pAnd pa pb) where
  ok := by
    rintro c w env σ Qp Q rfl E p k
    refine ha.ok c w env σ _ _ rfl E p fun b e1 w1 E1 l1 q1 => ?_
    cases b with
    | true => exact hb.ok c w1 e1 σ _ _ rfl E1 q1 fun b e2 w2 E2 l2 q2 => k _ e2 w2 E2 (l1.trans l2) q2
    | false => exact k _ e1 w1 E1 l1 q1
instance rt_or {K : Frag} {ta tb : TT} {pa pb : PTt} [ha : RT K ta pa] [hb : RT K tb pb] : RT K (tOr ta tb) (pOr pa pb) where
  ok := by
    rintro c w env σ Qp Q rfl E p k
    refine ha.ok c w env σ _ _ rfl E p fun b e1 w1 E1 l1 q1 => ?_
    cases b with
    | false => exact hb.ok c w1 e1 σ _ _ rfl E1 q1 fun b e2 w2 E2 l2 q2 => k _ e2 w2 E2 (l1.trans l2) q2
    | true => exact k _ e1 w1 E1 l1 q1
def B6m (pa : PDt) (env : PEnv) (Q : SV -> PEnv -> Prop) : Prop := pa env fun x e => asB x fun b => Q (.d (.bool (!b))) e
def B6z (pa : PDt) (pb : PX) (env : PEnv) (Q : SV -> PEnv -> Prop) : Prop := pa env fun x e => asB x fun b => if b = true then pb e Q else Q (.d (.bool false)) e
def pOrV (pa : PDt) (pb : PX) (env : PEnv) (Q : SV -> PEnv -> Prop) : Prop := pa env fun x e => asB x fun b => if b = true then Q (.d (.bool true)) e else pb e Q
instance re_notV {K : Frag} {ta : TE} {pa : PDt} [ha : RW K ta pa] : RE K (B5k ta) (B6m pa) where
  ok := by
    rintro c w env σ Qp Q rfl E p k
    refine ha.ok c w env σ _ _ rfl E p fun x dx e1 w1 E1 l1 v1 q1 => ?_
    unfold asB at q1
    split at q1
    · exact ⟨_, v1.blE, k _ _ e1 w1 ((Res.data E1 (.bl _)).pre l1) q1⟩
    · exact q1.elim
instance re_andV {K : Frag} {ta tb : TE} {pa : PDt} {pb : PX} [ha : RW K ta pa] [hb : RE K tb pb] : RE K (B5m ta tb) (B6z pa pb) where
  ok := by
    rintro c w env σ Qp Q rfl E p k
    refine ha.ok c w env σ _ _ rfl E p fun x dx e1 w1 E1 l1 v1 q1 => ?_
    unfold asB at q1
    split at q1
    · rename_i b
      refine ⟨_, v1.blE, ?_⟩
      cases b with
      | true => exact hb.ok c w1 e1 σ _ _ rfl E1 q1 fun v s e2 w2 R q2 => k _ _ e2 w2 (R.pre l1) q2
      | false => exact k _ _ e1 w1 ((Res.data E1 (.bl _)).pre l1) q1
    · exact q1.elim
def pIfE (pt : PTt) (pa pb : PX) (env : PEnv) (Q : SV -> PEnv -> Prop) : Prop := pt env fun b e => if b = true then pa e Q else pb e Q
instance re_if {K : Frag} {tt : TT} {ta tb : TE} {pt : PTt} {pa pb : PX} [ht : RT K tt pt] [ha : RE K ta pa] [hb : RE K tb pb] : RE K (tIf tt ta tb) (pIfE pt pa pb) where
  ok := by
    rintro c w env σ Qp Q rfl E p k
    refine ht.ok c w env σ _ _ rfl E p fun b e1 w1 E1 l1 q1 => ?_
    cases b with
    | true => exact ha.ok c w1 e1 σ _ _ rfl E1 q1 fun v s e2 w2 R q2 => k _ _ e2 w2 (R.pre l1) q2
    | false => exact hb.ok c w1 e1 σ _ _ rfl E1 q1 fun v s e2 w2 R q2 => k _ _ e2 w2 (R.pre l1) q2
inductive Md where
  | dat | vw | st | bt
def TV (K : Frag) (w : Wd) (v : V) (t : OT) : Prop := Tre K w t [v] /\ ∀ a ∈ t.fp, ¬ w.M a
theorem Tre.has {K : Frag} {w : Wd} : ∀ {t : OT} {vs : List V}, Tre K w t vs -> ∀ a ∈ t.fp, w.H a ≠ none
  | .leaf _, _, _, _, z => nomatch z
  | .nd _ p _, _, ⟨_, _, h, k⟩, a, z => (List.mem_cons.mp z).elim (fun e => by rw [e, h]; simp) (Tre.has k a)
  | .nil, _, _, _, z => nomatch z
  | .cons _ _, _, ⟨_, _, _, h, t⟩, a, z => (List.mem_append.mp z).elim (Tre.has h a) (Tre.has t a)
inductive Args (K : Frag) (w : Wd) : List Md -> List V -> List SV -> Prop
  | nil : Args K w [] [] []
  | dat {v : V} {x : PyData} {md : List Md} {vs : List V} {as : List SV} : Den K w.F v x -> Args K w md vs as -> Args K w (.dat :: md) (v :: vs) (.d x :: as)
  | vw {v : V} {xs : List PyData} {md : List Md} {vs : List V} {as : List SV} : VV K w v (.list xs) -> Args K w md vs as -> Args K w (.vw :: md) (v :: vs) (.bor xs :: as)
  | bt {v : V} {t : OT} {md : List Md} {vs : List V} {as : List SV} : TV K w v t -> Args K w md vs as -> Args K w (.bt :: md) (v :: vs) (.bt t :: as)
  | st {v : V} {md : List Md} {vs : List V} {as : List SV} : (∃ p, v = .ref p /\ w.M p) -> Args K w md vs as -> Args K w (.st :: md) (v :: vs) (.st :: as)
theorem Args.len {K : Frag} {w : Wd} : ∀ {md vs as}, Args K w md vs as -> vs.length = md.length
  | _, _, _, .nil => rfl
  | _, _, _, .dat _ t => congrArg (· + 1) (Args.len t)
  | _, _, _, .vw _ t => congrArg (· + 1) (Args.len t)
  | _, _, _, .st _ t => congrArg (· + 1) (Args.len t)
  | _, _, _, .bt _ t => congrArg (· + 1) (Args.len t)
abbrev PSp := List SV -> (SV -> Prop) -> Prop
def noZ : Addr -> Prop := fun _ => False
def spOf (K : Frag) (md : List Md) (psp : PSp) : Sp := fun vs H Q _ => ∃ (w : Wd) (as : List SV) (Qp : SV -> Prop), w.H = H /\ w.Ok /\ Args K w md vs as /\ psp as Qp /\
  ∀ v s w', w'.Ok -> Le w w' -> VR ⟨K, w, noZ⟩ w' v s -> s.isRes = true -> Qp s -> Q v w'.H
theorem spOf.len {K : Frag} {md : List Md} {psp : PSp} {n : Nat} (h : md.length = n) : ∀ vs H Q E, spOf K md psp vs H Q E -> vs.length = n := by
  rintro vs H Q E ⟨w, as, Qp, _, _, a, _⟩
  exact a.len.trans h
class RAm (K : Frag) (md : List Md) (ta : TA) (pa : outParam PAs) : Prop where
  ok : ∀ (c : Ct) (w : Wd) (env : PEnv) (σ : St) (Qp : List SV -> PEnv -> Prop) (Q : List V -> Hpp -> Prop), c.K = K -> EnvOk c w env σ -> pa env Qp -> (∀ vs as env' w', EnvOk c w' env' σ -> Lw w w' -> Args K w' md vs as -> Qp as env' -> Q vs w'.H) -> ta σ w.H Q
def B6n (env : PEnv) (Q : List SV -> PEnv -> Prop) : Prop := Q [] env
def A63 (pa : PDt) (pr : PAs) (env : PEnv) (Q : List SV -> PEnv -> Prop) : Prop := pa env fun x e1 => pr e1 fun as e2 => Q (.d x :: as) e2
def asL (x : PyData) (k : List PyData -> Prop) : Prop := match x with
  | .list xs => k xs
  | _ => False
def A62 (pa : PDt) (pr : PAs) (env : PEnv) (Q : List SV -> PEnv -> Prop) : Prop := pa env fun x e1 => asL x fun xs => pr e1 fun as e2 => Q (.bor xs :: as) e2
def isSt (o : Option (Option SV)) (k : Prop) : Prop := match o with
  | some (some .st) => k
  | _ => False
def A2q (i : Nat) (pr : PAs) (env : PEnv) (Q : List SV -> PEnv -> Prop) : Prop := isSt env[i]? (pr env fun as e2 => Q (.st :: as) e2)
instance ram_nil {K : Frag} : RAm K [] tNil B6n := ⟨fun c w env σ Qp Q _ E p k => k [] [] env w E (Lw.refl w) .nil p⟩
instance ram_dat {K : Frag} {md : List Md} {ta : TE} {tr : TA} {pa : PDt} {pr : PAs} [ha : RD K ta pa] [hr : RAm K md tr pr] : RAm K (.dat :: md) (K1 ta tr) (A63 pa pr) where
  ok := by
    rintro c w env σ Qp Q rfl E p k
    refine ha.ok c w env σ _ _ rfl E p fun x dx e1 w1 E1 l1 v1 q1 => ?_
    refine hr.ok c w1 e1 σ _ _ rfl E1 q1 fun vs xs e2 w2 E2 l2 v2 q2 => ?_
    exact k _ _ e2 w2 E2 (l1.trans l2) (.dat (Den.same l2.f v1) v2) q2
instance ram_vw {K : Frag} {md : List Md} {ta : TE} {tr : TA} {pa : PDt} {pr : PAs} [ha : RW K ta pa] [hr : RAm K md tr pr] : RAm K (.vw :: md) (K1 ta tr) (A62 pa pr) where
  ok := by
    rintro c w env σ Qp Q rfl E p k
    refine ha.ok c w env σ _ _ rfl E p fun x dx e1 w1 E1 l1 v1 q1 => ?_
    unfold asL at q1
    split at q1
    · refine hr.ok c w1 e1 σ _ _ rfl E1 q1 fun vs xs e2 w2 E2 l2 v2 q2 => ?_
      exact k _ _ e2 w2 E2 (l1.trans l2) (.vw (v1.mono l2) v2) q2
    · exact q1.elim
instance ram_st {K : Frag} {md : List Md} {i : Nat} {tr : TA} {pr : PAs} [hr : RAm K md tr pr] : RAm K (.st :: md) (K1 (tVar i) tr) (A2q i pr) where
  ok := by
    rintro c w env σ Qp Q rfl E p k
    unfold A2q isSt at p
    split at p
    · rename_i e
      obtain ⟨v, h1, h2⟩ := E.at' i _ e
      refine ⟨v, h1, ?_⟩
      refine hr.ok c w env σ _ _ rfl E p fun vs xs e2 w2 E2 l2 v2 q2 => ?_
      obtain ⟨q, e', hm⟩ := h2
      exact k _ _ e2 w2 E2 l2 (.st ⟨q, e', l2.m _ hm⟩ v2) q2
    · exact p.elim
def B9i (psp : PSp) (pa : PAs) (env : PEnv) (Q : SV -> PEnv -> Prop) : Prop := pa env fun as e => psp as fun s => Q s e
theorem Res.called {c : Ct} {w w' : Wd} {env : PEnv} {σ : St} {v : V} {s : SV} (E : EnvOk c w env σ) (ok : w'.Ok) (l : Le w w') (h : VR ⟨c.K, w, noZ⟩ w' v s) (r : s.isRes = true) : Res c w env σ w' v s := by
  refine ⟨E.mono ok l, l.toLw, ?_, fun a f => E.fresh (h.foot f).2.2.2, r⟩
  cases s with
  | d x => exact h
  | own xs => obtain ⟨a, vs, e, h1, h2, h3, h4, h5⟩ := h; exact ⟨a, vs, e, h1, h2, h3, E.le0.dom _ h4, h5⟩
  | bor xs => cases r
  | bt t => cases r
  | st => exact h
  | tr t => exact ⟨h.1, fun a f => ⟨(h.2 a f).1, (h.2 a f).2.1, (h.2 a f).2.2.1, E.le0.dom _ (h.2 a f).2.2.2⟩⟩
instance re_call {K : Frag} {md : List Md} {psp : PSp} {E0' : XK} {ta : TA} {pa : PAs} [ha : RAm K md ta pa] : RE K (A38 (spOf K md psp) [] E0' ta) (B9i psp pa) where
  ok := by
    rintro c w env σ Qp Q rfl E p k
    refine ha.ok c w env σ _ _ rfl E p fun vs as e1 w1 E1 l1 a1 q1 => ?_
    rw [List.append_nil]
    exact ⟨w1, as, _, rfl, E1.wok, a1, q1, fun v s w' ok l h r q => k v s e1 w' ((Res.called E1 ok l h r).pre l1) q⟩
structure PEnds where
  nx : PEnv -> Prop
  rt : SV -> Prop
  bk : PEnv -> Prop
  ct : PEnv -> Prop
abbrev PSt := PEnds -> PEnv -> Prop
structure EndsOk (c : Ct) (w : Wd) (Dp : PEnds) (D : Ends) : Prop where
  nx : ∀ env σ w', EnvOk c w' env σ -> Same w.F w'.F -> Dp.nx env -> D.nx σ w'.H
  rt : ∀ v s w', w'.Ok -> Le c.w0 w' -> VR c w' v s -> s.isRes = true -> Dp.rt s -> D.rt v w'.H
  bk : ∀ env σ w', EnvOk c w' env σ -> Same w.F w'.F -> Dp.bk env -> D.bk σ w'.H
  ct : ∀ env σ w', EnvOk c w' env σ -> Same w.F w'.F -> Dp.ct env -> D.ct σ w'.H
theorem EndsOk.on {c : Ct} {w w1 : Wd} {Dp : PEnds} {D : Ends} (h : EndsOk c w Dp D) (s : Same w.F w1.F) : EndsOk c w1 Dp D :=
  ⟨fun e σ w' E s' => h.nx e σ w' E (s.trans s'), h.rt, fun e σ w' E s' => h.bk e σ w' E (s.trans s'), fun e σ w' E s' => h.ct e σ w' E (s.trans s')⟩
class RS (K : Frag) (ts : TS) (ps : outParam PSt) : Prop where
  ok : ∀ (c : Ct) (w : Wd) (env : PEnv) (σ : St) (Dp : PEnds) (D : Ends), c.K = K -> EnvOk c w env σ -> EndsOk c w Dp D -> ps Dp env -> ts D σ w.H
def B6o (D : PEnds) (env : PEnv) : Prop := D.nx env
def B3y (D : PEnds) (env : PEnv) : Prop := D.bk env
def B9f (D : PEnds) (env : PEnv) : Prop := D.ct env
def A6n (_ : PEnds) (_ : PEnv) : Prop := False
def pSeq (p q : PSt) (D : PEnds) (env : PEnv) : Prop := p { D with nx := q D } env
instance rs_next {K : Frag} : RS K B5l B6o := ⟨fun c w env σ Dp D _ E h p => h.nx env σ w E (Same.refl _) p⟩
instance rs_never {K : Frag} : RS K A16 A6n := ⟨fun c w env σ Dp D _ E h p => p.elim⟩
instance rs_seq {K : Frag} {t u : TS} {p q : PSt} [ht : RS K t p] [hu : RS K u q] : RS K (tSeq t u) (pSeq p q) where
  ok := by
    rintro c w env σ Dp D rfl E h pr
    refine ht.ok c w env σ { Dp with nx := q Dp } _ rfl E ⟨fun e1 σ1 w1 E1 s1 n1 => ?_, h.rt, h.bk, h.ct⟩ pr
    exact hu.ok c w1 e1 σ1 Dp D rfl E1 (h.on s1) n1
def B9d (pe : PX) (D : PEnds) (env : PEnv) : Prop := pe env fun _ e => D.nx e
def pRet (pe : PX) (D : PEnds) (env : PEnv) : Prop := pe env fun s _ => D.rt s
instance (priority := low) rs_ret {K : Frag} {te : TE} {pe : PX} [he : RE K te pe] : RS K (tRet te) (pRet pe) where
  ok := by
    rintro c w env σ Dp D rfl E h p
    exact he.ok c w env σ _ _ rfl E p fun v s e1 w1 R q => h.rt v s w1 R.ev.wok R.ev.le0 R.val R.res q
def B6k (i : Nat) (D : PEnds) (env : PEnv) : Prop := match env[i]? with
  | some (some (.bor _)) => False
  | some (some (.bt _)) => False
  | some (some s) => D.rt s
  | _ => False
instance rs_retV {K : Frag} {i : Nat} : RS K (tRet (tVar i)) (B6k i) where
  ok := by
    rintro c w env σ Dp D rfl E h p
    unfold B6k at p
    split at p
    · exact p.elim
    · exact p.elim
    · rename_i s hn hn2 e
      obtain ⟨v, h1, h2⟩ := E.at' i _ e
      refine ⟨v, h1, h.rt v s w E.wok E.le0 h2 ?_ p⟩
      cases s with
      | bor xs => exact absurd rfl (hn xs)
      | bt t => exact absurd rfl (hn2 t)
      | _ => rfl
    · exact p.elim
def B81 (D : PEnds) (_ : PEnv) : Prop := D.rt (.d .none)
def pIf (pt : PTt) (p q : PSt) (D : PEnds) (env : PEnv) : Prop := pt env fun b e => if b = true then p D e else q D e
instance rs_if {K : Frag} {tt : TT} {t u : TS} {pt : PTt} {p q : PSt} [hc : RT K tt pt] [ht : RS K t p] [hu : RS K u q] : RS K (tIfS tt t u) (pIf pt p q) where
  ok := by
    rintro c w env σ Dp D rfl E h pr
    refine hc.ok c w env σ _ _ rfl E pr fun b e1 w1 E1 l1 q1 => ?_
    cases b with
    | true => exact ht.ok c w1 e1 σ Dp D rfl E1 (h.on l1.f) q1
    | false => exact hu.ok c w1 e1 σ Dp D rfl E1 (h.on l1.f) q1
def pAsg (pe : PX) (i : Nat) (D : PEnds) (env : PEnv) : Prop := pe env fun s e => D.nx (e.set i (some s))
instance rs_asg {K : Frag} {te : TE} {pe : PX} {i : Nat} [he : RE K te pe] : RS K (tAsg te (T5 i)) (pAsg pe i) where
  ok := by
    rintro c w env σ Dp D rfl E h p
    exact he.ok c w env σ _ _ rfl E p fun v s e1 w1 R q => h.nx _ _ w1 (R.ev.set R.val R.new) R.lw.f q
class RG (K : Frag) (g : TG) (pg : outParam (PyData -> PEnv -> (PEnv -> Prop) -> Prop)) : Prop where
  ok : ∀ (c : Ct) (w : Wd) (env : PEnv) (σ : St) (v : V) (x : PyData) (Qp : PEnv -> Prop) (Q : St -> Hpp -> Prop), c.K = K -> EnvOk c w env σ -> Den K w.F v x -> pg x env Qp -> (∀ env' σ', EnvOk c w env' σ' -> Qp env' -> Q σ' w.H) -> g v σ w.H Q
class RGs (K : Frag) (g : TGs) (pg : outParam (List PyData -> PEnv -> (PEnv -> Prop) -> Prop)) : Prop where
  ok : ∀ (c : Ct) (w : Wd) (env : PEnv) (σ : St) (vs : List V) (xs : List PyData) (Qp : PEnv -> Prop) (Q : St -> Hpp -> Prop), c.K = K -> EnvOk c w env σ -> DenAll K w.F vs xs -> pg xs env Qp -> (∀ env' σ', EnvOk c w env' σ' -> Qp env' -> Q σ' w.H) -> g vs σ w.H Q
def B5v (i : Nat) (x : PyData) (env : PEnv) (Q : PEnv -> Prop) : Prop := Q (env.set i (some (.d x)))
instance rg_name {K : Frag} {i : Nat} : RG K (T5 i) (B5v i) where
  ok := by
    rintro c w env σ v x Qp Q rfl E d p k
    exact k _ _ (E.set (s := .d x) d (fun _ z => nomatch z)) p
def qNil (xs : List PyData) (env : PEnv) (Q : PEnv -> Prop) : Prop := match xs with
  | [] => Q env
  | _ => False
def B5w (pg : PyData -> PEnv -> (PEnv -> Prop) -> Prop) (pr : List PyData -> PEnv -> (PEnv -> Prop) -> Prop) (xs : List PyData) (env : PEnv) (Q : PEnv -> Prop) : Prop := match xs with
  | x :: r => pg x env fun e => pr r e Q
  | [] => False
def qTup (n : Nat) (pr : List PyData -> PEnv -> (PEnv -> Prop) -> Prop) (x : PyData) (env : PEnv) (Q : PEnv -> Prop) : Prop := match x with
  | .tuple xs => xs.length = n /\ pr xs env Q
  | _ => False
instance rgs_nil {K : Frag} : RGs K gNil qNil where
  ok := by
    rintro c w env σ vs xs Qp Q rfl E d p k
    unfold qNil at p
    split at p
    · cases d; exact ⟨rfl, k env σ E p⟩
    · exact p.elim
instance rgs_cons {K : Frag} {g : TG} {gs : TGs} {pg : PyData -> PEnv -> (PEnv -> Prop) -> Prop} {pr : List PyData -> PEnv -> (PEnv -> Prop) -> Prop} [hg : RG K g pg] [hr : RGs K gs pr] : RGs K (A1q g gs) (B5w pg pr) where
  ok := by
    rintro c w env σ vs xs Qp Q rfl E d p k
    unfold B5w at p
    split at p
    · cases d with
      | cons h t =>
        refine ⟨_, _, rfl, hg.ok c w env σ _ _ _ _ rfl E h p fun e1 σ1 E1 q1 => ?_⟩
        exact hr.ok c w e1 σ1 _ _ _ _ rfl E1 t q1 k
    · exact p.elim
instance rg_tup {K : Frag} {n : Nat} {gs : TGs} {pr : List PyData -> PEnv -> (PEnv -> Prop) -> Prop} [hr : RGs K gs pr] : RG K (gTup K n gs) (qTup n pr) where
  ok := by
    rintro c w env σ v x Qp Q rfl E d p k
    unfold qTup at p
    split at p
    · obtain ⟨a, vs, e, h1, h2⟩ := d.tupE
      exact ⟨a, vs, e, SqT.same E.wok.sub h1, h2.len.trans p.1, hr.ok c w env σ _ _ _ _ rfl E h2 p.2 k⟩
    · exact p.elim
def B6x (pd : PDt) (n : Nat) (pr : List PyData -> PEnv -> (PEnv -> Prop) -> Prop) (D : PEnds) (env : PEnv) : Prop := pd env fun x e => qTup n pr x e D.nx
instance rs_asgT {K : Frag} {te : TE} {pd : PDt} {n : Nat} {gs : TGs} {pr : List PyData -> PEnv -> (PEnv -> Prop) -> Prop} [he : RD K te pd] [hr : RGs K gs pr] : RS K (tAsg te (gTup K n gs)) (B6x pd n pr) where
  ok := by
    rintro c w env σ Dp D rfl E h p
    refine he.ok c w env σ _ _ rfl E p fun v x e1 w1 E1 l1 d1 q1 => ?_
    exact rg_tup.ok c w1 e1 σ v x _ _ rfl E1 d1 q1 fun e2 σ2 E2 q2 => h.nx e2 σ2 w1 E2 l1.f q2
def pPar (i j : Nat) (pa : PAr) (D : PEnds) (env : PEnv) : Prop := pa env fun xs e => match xs with
  | [x, y] => D.nx ((e.set i (some (.d x))).set j (some (.d y)))
  | _ => False
instance rs_par {K : Frag} {ta : TA} {pa : PAr} {i j : Nat} [ha : RAd K ta pa] : RS K (tPar i j ta) (pPar i j pa) where
  ok := by
    rintro c w env σ Dp D rfl E h p
    refine ha.ok c w env σ _ _ rfl E p fun vs xs e1 w1 E1 l1 d1 q1 => ?_
    split at q1
    · cases d1 with
      | cons a t => cases t with
        | cons b t =>
          cases t
          exact ⟨_, _, rfl, h.nx _ _ w1 ((E1.set (s := .d _) a (fun _ z => nomatch z)).set (s := .d _) b (fun _ z => nomatch z)) l1.f q1⟩
    · exact q1.elim
def O4 (o : Option (Option SV)) (k : List PyData -> Prop) : Prop := match o with
  | some (some (.own xs)) => k xs
  | _ => False
theorem EnvOk.writeAt {c : Ct} {w : Wd} {env : PEnv} {σ : St} {i : Nat} {s s' : SV} {l : Addr} {us : List V} {v : V} (E : EnvOk c w env σ) (e : env[i]? = some (some s)) (hσ : σ[i]? = some (some v)) (hf : s.foot v l) (hf' : ∀ a, s'.foot v a -> s.foot v a)
    (hd : VR c ⟨w.M, upd w.H l (.lst us), w.F⟩ v s') : EnvOk c ⟨w.M, upd w.H l (.lst us), w.F⟩ (env.set i (some s')) σ := by
  obtain ⟨h1, h2, h3, h4⟩ := (E.look e hσ).foot hf
  have ne : ∀ b, w.M b -> b ≠ l := fun b hb z => h3 (z ▸ hb)
  have hd' : ∀ {j : Nat} {t : SV}, (env.set i (some s'))[j]? = some (some t) -> (i = j /\ t = s') \/ (i ≠ j /\ env[j]? = some (some t)) := by
    intro j t q
    rw [List.getElem?_set] at q
    split at q
    · rename_i z
      split at q
      · cases q; exact .inl ⟨z, rfl⟩
      · cases q
    · rename_i z; exact .inr ⟨z, q⟩
  have ft : ∀ {j : Nat} {t : SV} {u : V} {a : Addr}, (env.set i (some s'))[j]? = some (some t) -> σ[j]? = some (some u) -> t.foot u a -> ∃ t', env[j]? = some (some t') /\ t'.foot u a := by
    intro j t u a q qu f
    rcases hd' q with ⟨rfl, rfl⟩ | ⟨_, q⟩
    · rw [hσ] at qu; cases qu; exact ⟨s, e, hf' a f⟩
    · exact ⟨t, q, f⟩
  refine ⟨⟨fun b o q => ?_, fun p hp => (E.wok.st p hp).kp (ne p hp) Kp.upd, E.wok.nf⟩, ⟨⟨E.le0.f, fun b o q n => ?_, E.le0.m, E.le0.mn, fun b q => E.le0.dom b (O5 q)⟩, E.le0.n⟩, by simpa using E.len, fun j t q => ?_, fun j k s1 t1 v1 u1 a q1 q2 q3 q4 f1 f2 => ?_, fun a za => ?_, fun a j t u za q q' f => ?_⟩
  · show upd w.H l (.lst us) b = some o
    rw [C9 (fun z => by rw [z, h2] at q; cases q)]; exact E.wok.sub b o q
  · show upd w.H l (.lst us) b = some o
    rw [C9 (fun z => by rw [z, h4] at q; cases q)]; exact E.le0.h b o q n
  · rcases hd' q with ⟨rfl, rfl⟩ | ⟨z, q⟩
    · exact ⟨v, hσ, hd⟩
    · obtain ⟨u, g1, g2⟩ := E.at' j t q
      exact ⟨u, g1, g2.writ h1 fun f => z (E.own i j _ _ _ _ l e q hσ g1 hf f)⟩
  · obtain ⟨_, p1, g1⟩ := ft q1 q3 f1
    obtain ⟨_, p2, g2⟩ := ft q2 q4 f2
    exact E.own j k _ _ _ _ a p1 p2 q3 q4 g1 g2
  · obtain ⟨z1, z2, z3⟩ := E.zf a za
    exact ⟨z1, fun q => z2 (O5 q), z3⟩
  · obtain ⟨_, p, g⟩ := ft q q' f
    exact E.zo a j _ _ za p q' g
theorem EnvOk.write {c : Ct} {w : Wd} {env : PEnv} {σ : St} {i : Nat} {xs ys : List PyData} {l : Addr} {vs us : List V} (E : EnvOk c w env σ) (e : env[i]? = some (some (.own xs))) (hσ : σ[i]? = some (some (.ref l))) (h1 : w.H l = some (.lst vs)) (h2 : w.F l = none) (h3 : ¬ w.M l) (h4 : c.w0.H l = none)
    (hd : DenAll c.K w.F us ys) : EnvOk c ⟨w.M, upd w.H l (.lst us), w.F⟩ (env.set i (some (.own ys))) σ :=
  E.writeAt e hσ rfl (fun _ f => f) ⟨l, us, rfl, C8, h2, h3, h4, hd⟩
def pApp (i : Nat) (pd : PDt) (D : PEnds) (env : PEnv) : Prop := O4 env[i]? fun _ => pd env fun x e => O4 e[i]? fun xs => xs.length < 1000000 /\ D.nx (e.set i (some (.own (xs ++ [x]))))
theorem T8 {n : Nat} (h : n < 1000000) : n < sizeLine := Nat.lt_of_lt_of_le h (by decide)
instance rs_app {K : Frag} {i : Nat} {te : TE} {pd : PDt} [he : RD K te pd] : RS K (B0t (tBM K "list" A1h (tVar i) (K1 te tNil))) (pApp i pd) where
  ok := by
    rintro c w env σ Dp D rfl E h p
    unfold pApp O4 at p
    split at p
    · rename_i xs0 e0
      obtain ⟨v, g0, l, vs, ev, h1, h2, h3, h4, h5⟩ := E.at' i _ e0
      subst ev
      refine ⟨_, g0, .inl ⟨rfl, _, SqL.of h1⟩, ?_⟩
      refine he.ok c w env σ _ _ rfl E p fun y x e1 w1 E1 l1 d1 q1 => ?_
      split at q1
      · rename_i xs e
        obtain ⟨v', g0', l', vs', ev', k1, k2, k3, k4, k5⟩ := E1.at' i _ e
        rw [g0] at g0'; cases g0'; cases ev'
        refine ⟨l, vs', y, rfl, rfl, k1, by rw [k5.len]; exact T8 q1.1, ?_⟩
        exact h.nx _ σ ⟨w1.M, upd w1.H l (.lst (vs' ++ [y])), w1.F⟩ (E1.write e g0 k1 k2 k3 k4 (k5.app (.cons d1 .nil))) l1.f q1.2
      · exact q1.elim
    · exact p.elim
def B3u (i : Nat) (D : PEnds) (env : PEnv) : Prop := O4 env[i]? fun _ => D.nx (env.set i (some (.own [])))
def B85 (i : Nat) (D : PEnds) (env : PEnv) : Prop := O4 env[i]? fun xs => 0 < xs.length /\ D.nx (env.set i (some (.own xs.dropLast)))
end Pu
namespace L2
open PySem PySem.Spec PyProof.Rows
section
variable {X : Cx} {tg : Expr}
def iSq (K : PySem.W.Frag) (tl : TE) : TI := fun σ H R => tl σ H fun x H1 => (∃ a, x = .ref a /\ (∃ xs, SqL K H1 a xs) /\ R (Itl K a) H1) \/ ∃ a, x = .ref a /\ (∃ xs, SqT K H1 a xs) /\ R (Itt K a) H1
theorem C1g {l : Expr} {tl : TE} (hl : PE X l tl) : PI X tg l (iSq X.K tl) := by
  intro pins s σ H R I h
  refine thn (hl pins s σ H _ I h) fun v s1 ⟨x, H1, I1, r1, q1⟩ => ?_
  rcases q1 with ⟨a, e, ⟨xs, hq⟩, q⟩ | ⟨a, e, ⟨xs, hq⟩, q⟩
  · subst e
    cases r1
    obtain ⟨its, rv, p, hz⟩ := I1.list hq
    refine wpAny_pyIter_list p.isList ?_
    refine ⟨s1.heap.objs.size, [s1.heap.objs.size], _, _, H1, rfl, I1.kept (t' := s1.toks) fun b o e => Heap.get?_push_of_some _ e, A5b a _, ⟨_, Heap.get?_push_size _ rfl, rfl, rfl⟩, fun b hb => ?_, q⟩
    have e : b = s1.heap.objs.size := by simpa using hb
    subst e
    exact I1.fpOk (Nat.le_refl _) (I1.hok.fresh (Nat.le_refl _))
  · subst e
    cases r1
    obtain ⟨its, rv, p, hz⟩ := I1.tuple hq
    refine wpAny_pyIter_tuple (show s1.heap.IsTuple a its.toArray from p) ?_
    refine ⟨s1.heap.objs.size, [s1.heap.objs.size], _, _, H1, rfl, I1.kept (t' := s1.toks) fun b o e => Heap.get?_push_of_some _ e, A35 a _, ⟨_, Heap.get?_push_size _ rfl, rfl, rfl⟩, fun b hb => ?_, q⟩
    have e : b = s1.heap.objs.size := by simpa using hb
    subst e
    exact I1.fpOk (Nat.le_refl _) (I1.hok.fresh (Nat.le_refl _))
theorem B8s {K : PySem.W.Frag} {l : Expr} {tl : TE} (h : X.K = K) (hl : PE X l tl) : PI X tg l (iSq K tl) := by subst h; exact C1g hl
theorem D4 {K : PySem.W.Frag} (h : X.K = K) (hu : X.A.units + 64 < cLine) : OpR X (compareOp .Eq) (rEqD K) := by subst h; exact B9n hu
theorem R7 {K : PySem.W.Frag} (h : X.K = K) (hu : X.A.units + 64 < cLine) : OpR X (compareOp .NotEq) (rNeD K) := by subst h; exact B9k hu
theorem N2 {K : PySem.W.Frag} (h : X.K = K) : SlR X (rSlL K) := by subst h; exact B5q
end
end L2
namespace Pu
open PySem L2 My Prf
def A6g (pt : PTt) (pb : PSt) (D : PEnds) (env : PEnv) : Prop := ∃ Inv : Nat -> PEnv -> Prop, (∃ m, Inv m env) /\ ∀ m e, Inv m e -> pt e fun b e2 => if b = true then pb ⟨fun e3 => ∃ m', m' < m /\ Inv m' e3, D.rt, D.nx, fun e3 => ∃ m', m' < m /\ Inv m' e3⟩ e2 else D.nx e2
instance rs_while {K : Frag} {tt : TT} {tb : TS} {pt : PTt} {pb : PSt} [ht : RT K tt pt] [hb : RS K tb pb] : RS K (A5c tt tb) (A6g pt pb) where
  ok := by
    rintro c w env σ Dp D rfl E h ⟨Inv, ⟨m0, i0⟩, step⟩
    refine ⟨fun m σ' H' => ∃ e w', w'.H = H' /\ EnvOk c w' e σ' /\ Same w.F w'.F /\ Inv m e, ⟨m0, env, w, rfl, E, Same.refl _, i0⟩, ?_⟩
    rintro m σ1 _ ⟨e1, w1, rfl, E1, s1, i1⟩
    refine ht.ok c w1 e1 σ1 _ _ rfl E1 (step m e1 i1) fun b e2 w2 E2 l2 q2 => ?_
    cases b with
    | true =>
      refine ⟨fun σ' H' => ∃ e w', w'.H = H' /\ EnvOk c w' e σ' /\ Same w.F w'.F /\ ∃ m', m' < m /\ Inv m' e, fun σ' H' ⟨e, w', e1, E', s', m', hm, i'⟩ => ⟨m', hm, e, w', e1, E', s', i'⟩, ?_⟩
      refine hb.ok c w2 e2 σ1 ⟨fun e3 => ∃ m', m' < m /\ Inv m' e3, Dp.rt, Dp.nx, fun e3 => ∃ m', m' < m /\ Inv m' e3⟩ _ rfl E2 ⟨fun e3 σ3 w3 E3 s3 n3 => ⟨e3, w3, rfl, E3, s1.trans (l2.f.trans s3), n3⟩, h.rt, fun e3 σ3 w3 E3 s3 n3 => h.nx e3 σ3 w3 E3 (s1.trans (l2.f.trans s3)) n3, fun e3 σ3 w3 E3 s3 n3 => ⟨e3, w3, rfl, E3, s1.trans (l2.f.trans s3), n3⟩⟩ q2
    | false => exact h.nx e2 σ1 w2 E2 (s1.trans l2.f) q2
def Walk (c : Ct) (w1 : Wd) (J : It) (xs : List PyData) : Prop :=
  ∀ w', w'.Ok -> Le c.w0 w' -> Same w1.F w'.F -> (∀ i, i < xs.length -> J.go i w'.H) /\ J.stop xs.length w'.H /\ ∀ i v H', J.yld i w'.H v H' -> i < xs.length -> ∃ w2 x, w2.H = H' /\ w2.Ok /\ Le w' w2 /\ xs[i]? = some x /\ Den c.K w2.F v x
class RI (K : Frag) (wi : TI) (pi : outParam PAr) : Prop where
  ok : ∀ (c : Ct) (w : Wd) (env : PEnv) (σ : St) (Qp : List PyData -> PEnv -> Prop) (R : It -> Hpp -> Prop), c.K = K -> EnvOk c w env σ -> pi env Qp -> (∀ J xs env' w', EnvOk c w' env' σ -> Lw w w' -> Walk c w' J xs -> Qp xs env' -> R J w'.H) -> wi σ w.H R
theorem L7 {c : Ct} {w1 : Wd} {a : Addr} {vs : List V} {xs : List PyData} (d : DenAll c.K w1.F vs xs) (h : ∀ w', w'.Ok -> Le c.w0 w' -> Same w1.F w'.F -> SqL c.K w'.H a vs) : Walk c w1 (Itl c.K a) xs := by
  intro w' ok l s
  have q := h w' ok l s
  have hl := d.len
  refine ⟨fun i hi => ⟨vs, vs[i]'(by omega), q, List.getElem?_eq_getElem _⟩, ⟨vs, q, by omega⟩, fun i v H' y hi => ?_⟩
  obtain ⟨e, y⟩ := y
  obtain ⟨x, g1, g2⟩ := d.get (y vs q)
  exact ⟨w', x, e.symm, ok, Le.refl w', g1, Den.same s g2⟩
theorem A1y {c : Ct} {w1 : Wd} {a : Addr} {vs : List V} {xs : List PyData} (d : DenAll c.K w1.F vs xs) (h : ∀ w', w'.Ok -> Le c.w0 w' -> Same w1.F w'.F -> SqT c.K w'.H a vs) : Walk c w1 (Itt c.K a) xs := by
  intro w' ok l s
  have q := h w' ok l s
  have hl := d.len
  refine ⟨fun i hi => ⟨vs, vs[i]'(by omega), q, List.getElem?_eq_getElem _⟩, ⟨vs, q, by omega⟩, fun i v H' y hi => ?_⟩
  obtain ⟨e, y⟩ := y
  obtain ⟨x, g1, g2⟩ := d.get (y vs q)
  exact ⟨w', x, e.symm, ok, Le.refl w', g1, Den.same s g2⟩
def P7 (x : PyData) (k : List PyData -> Prop) : Prop := match x with
  | .list xs => k xs
  | .tuple xs => k xs
  | _ => False
def B6t (pd : PDt) (env : PEnv) (Q : List PyData -> PEnv -> Prop) : Prop := pd env fun x e => P7 x fun xs => Q xs e
instance (priority := low) ri_sq {K : Frag} {tl : TE} {pd : PDt} [hl : RD K tl pd] : RI K (iSq K tl) (B6t pd) where
  ok := by
    rintro c w env σ Qp R rfl E p k
    refine hl.ok c w env σ _ _ rfl E p fun v x e1 w1 E1 l1 d1 q1 => ?_
    unfold P7 at q1
    split at q1
    · obtain ⟨a, vs, e, h1, h2⟩ := d1.lstE
      exact .inl ⟨a, e, ⟨vs, E1.wok.sub.seq h1⟩, k _ _ e1 w1 E1 l1 (L7 h2 fun w' ok l s => (s.trans ok.sub).seq h1) q1⟩
    · obtain ⟨a, vs, e, h1, h2⟩ := d1.tupE
      exact .inr ⟨a, e, ⟨vs, SqT.same E1.wok.sub h1⟩, k _ _ e1 w1 E1 l1 (A1y h2 fun w' ok l s => SqT.same (s.trans ok.sub) h1) q1⟩
    · exact q1.elim
def A6x (i : Nat) (env : PEnv) (Q : List PyData -> PEnv -> Prop) : Prop := match env[i]? with
  | some (some (.d x)) => P7 x fun xs => Q xs env
  | some (some (.own xs)) => Q xs (env.set i (some (.d (.list xs))))
  | some (some (.bor xs)) => Q xs env
  | _ => False
instance ri_var {K : Frag} {i : Nat} : RI K (iSq K (tVar i)) (A6x i) where
  ok := by
    rintro c w env σ Qp R rfl E p k
    unfold A6x at p
    split at p
    · rename_i x e
      obtain ⟨v, h1, h2⟩ := E.at' i _ e
      refine ⟨v, h1, ?_⟩
      unfold P7 at p
      split at p
      · obtain ⟨a, vs, e, g1, g2⟩ := Den.lstE h2
        exact .inl ⟨a, e, ⟨vs, E.wok.sub.seq g1⟩, k _ _ env w E (Lw.refl w) (L7 g2 fun w' ok l s => (s.trans ok.sub).seq g1) p⟩
      · obtain ⟨a, vs, e, g1, g2⟩ := Den.tupE h2
        exact .inr ⟨a, e, ⟨vs, SqT.same E.wok.sub g1⟩, k _ _ env w E (Lw.refl w) (A1y g2 fun w' ok l s => SqT.same (s.trans ok.sub) g1) p⟩
      · exact p.elim
    · rename_i xs e
      obtain ⟨w', v, e', hv, E', l, d⟩ := E.frz e
      refine ⟨v, hv, ?_⟩
      obtain ⟨a, vs, e, g1, g2⟩ := d.lstE
      have := k _ _ _ w' E' l (L7 g2 fun w' ok l s => (s.trans ok.sub).seq g1) p
      rw [e'] at this
      exact .inl ⟨a, e, ⟨vs, by rw [<- e']; exact E'.wok.sub.seq g1⟩, this⟩
    · rename_i xs e
      obtain ⟨v, h1, h2⟩ := E.at' i _ e
      refine ⟨v, h1, ?_⟩
      rcases h2 with h2 | ⟨l, vs, ev, g1, g2, g3⟩
      · obtain ⟨a, vs, e, g1, g2⟩ := Den.lstE h2
        exact .inl ⟨a, e, ⟨vs, E.wok.sub.seq g1⟩, k _ _ env w E (Lw.refl w) (L7 g2 fun w' ok l s => (s.trans ok.sub).seq g1) p⟩
      · exact .inl ⟨l, ev, ⟨vs, SqL.of (E.le0.h _ _ g1 g2)⟩, k _ _ env w E (Lw.refl w) (L7 g3 fun w' ok l' s => SqL.of (l'.h _ _ g1 g2)) p⟩
    · exact p.elim
def rngD (lo : Int) (n : Nat) : List PyData := (List.range n).map fun k : Nat => PyData.int (lo + (k : Int))
theorem J7 (lo : Int) (n : Nat) : (rngD lo n).length = n := by simp [rngD]
theorem A2b {lo : Int} {n i : Nat} {x : PyData} (h : (rngD lo n)[i]? = some x) : i < n /\ x = .int (lo + (i : Int)) := by
  unfold rngD at h
  rw [List.getElem?_map] at h
  by_cases hi : i < n
  · rw [List.getElem?_range hi] at h; cases h; exact ⟨hi, rfl⟩
  · rw [List.getElem?_eq_none (by simpa using hi)] at h; cases h
theorem B0p {c : Ct} {w1 : Wd} {lo : Int} {n : Nat} : Walk c w1 (Itr lo n) (rngD lo n) := by
  intro w' ok l s
  refine ⟨fun i hi => by rw [J7] at hi; exact hi, by rw [J7]; exact Nat.le_refl _, fun i v H' y hi => ?_⟩
  obtain ⟨e, y⟩ := y
  subst y
  rw [J7] at hi
  refine ⟨w', .int (lo + i), e.symm, ok, Le.refl w', ?_, .int _⟩
  unfold rngD
  rw [List.getElem?_map, List.getElem?_range hi]; rfl
def B80 (pa : PAr) (env : PEnv) (Q : List PyData -> PEnv -> Prop) : Prop := pa env fun xs e => match xs with
  | [.int j] => (-(2 ^ 62) <= j /\ j < 2 ^ 62) /\ Q (rngD 0 j.toNat) e
  | _ => False
def C1l (pa : PAr) (env : PEnv) (Q : List PyData -> PEnv -> Prop) : Prop := pa env fun xs e => match xs with
  | [.int i, .int j] => (-(2 ^ 62) <= i /\ i < 2 ^ 62 /\ -(2 ^ 62) <= j /\ j < 2 ^ 62) /\ Q (rngD i (j - i).toNat) e
  | _ => False
instance ri_rng1 {K : Frag} {ta : TA} {pa : PAr} [ha : RAv K ta pa] : RI K (B7b ta) (B80 pa) where
  ok := by
    rintro c w env σ Qp R rfl E p k
    refine ha.ok c w env σ _ _ rfl E p fun vs xs e1 w1 E1 l1 v1 q1 => ?_
    split at q1
    · cases v1 with | cons h t => cases t; exact ⟨_, by rw [h.intE], q1.1.1, q1.1.2, k _ _ e1 w1 E1 l1 B0p q1.2⟩
    · exact q1.elim
def A60 (xs : List PyData) (pg : PyData -> PEnv -> (PEnv -> Prop) -> Prop) (pb : PSt) (D : PEnds) (env : PEnv) : Prop :=
  ∃ Inv : Nat -> PEnv -> Prop, Inv 0 env /\ (∀ i x e, xs[i]? = some x -> Inv i e -> pg x e fun e2 => pb ⟨Inv (i + 1), D.rt, D.nx, Inv (i + 1)⟩ e2) /\ ∀ e, Inv xs.length e -> D.nx e
def pFor (pi : PAr) (pg : PyData -> PEnv -> (PEnv -> Prop) -> Prop) (pb : PSt) (D : PEnds) (env : PEnv) : Prop := pi env fun xs e => A60 xs pg pb D e
instance rs_for {K : Frag} {wi : TI} {g : TG} {tb : TS} {pi : PAr} {pg : PyData -> PEnv -> (PEnv -> Prop) -> Prop} {pb : PSt} [hi : RI K wi pi] [hg : RG K g pg] [hb : RS K tb pb] : RS K (tFor wi g tb) (pFor pi pg pb) where
  ok := by
    rintro c w env σ Dp D rfl E h p
    refine hi.ok c w env σ _ _ rfl E p fun J xs e1 w1 E1 l1 wk ⟨Iv, i0, step, fin⟩ => ?_
    refine ⟨fun i m σ' H' => m = xs.length - i /\ i <= xs.length /\ ∃ e w', w'.H = H' /\ EnvOk c w' e σ' /\ Same w1.F w'.F /\ Iv i e, ⟨xs.length, rfl, Nat.zero_le _, e1, w1, rfl, E1, Same.refl _, i0⟩, ?_⟩
    rintro i m σ2 _ ⟨rfl, hle, e2, w2, rfl, E2, s2, i2⟩
    obtain ⟨go, stop, yld⟩ := wk w2 E2.wok E2.le0 s2
    by_cases hlt : i < xs.length
    · refine .inr ⟨go i hlt, fun σ' H' => i + 1 <= xs.length /\ ∃ e w', w'.H = H' /\ EnvOk c w' e σ' /\ Same w1.F w'.F /\ Iv (i + 1) e, fun σ' H' ⟨q0, q⟩ => ⟨xs.length - (i + 1), by omega, rfl, q0, q⟩, fun v H' y => ?_⟩
      obtain ⟨w2', x, rfl, ok2, le2, hx, dx⟩ := yld i v H' y hlt
      replace E2 := E2.mono ok2 le2
      replace s2 := s2.trans le2.f
      clear yld go stop y le2 ok2
      generalize w2' = w2 at E2 s2 dx
      refine hg.ok c w2 e2 σ2 v x _ _ rfl E2 dx (step i x e2 hx i2) fun e3 σ3 E3 q3 => ?_
      refine hb.ok c w2 e3 σ3 ⟨Iv (i + 1), Dp.rt, Dp.nx, Iv (i + 1)⟩ _ rfl E3 ⟨fun e4 σ4 w4 E4 s4 n4 => ⟨hlt, e4, w4, rfl, E4, s2.trans s4, n4⟩, h.rt, fun e4 σ4 w4 E4 s4 n4 => h.nx e4 σ4 w4 E4 (l1.f.trans (s2.trans s4)) n4, fun e4 σ4 w4 E4 s4 n4 => ⟨hlt, e4, w4, rfl, E4, s2.trans s4, n4⟩⟩ q3
    · have e : i = xs.length := by omega
      subst e
      exact .inl ⟨stop, h.nx e2 σ2 w2 E2 (l1.f.trans s2) (fin e2 i2)⟩
theorem S6 {lo : Int} {n : Nat} {pg : PyData -> PEnv -> (PEnv -> Prop) -> Prop} {pb : PSt} {D : PEnds} {env : PEnv} (Inv : Nat -> PEnv -> Prop) (h0 : Inv 0 env)
    (hs : ∀ (i : Nat) e, i < n -> Inv i e -> pg (.int (lo + (i : Int))) e fun e2 => pb ⟨Inv (i + 1), D.rt, D.nx, Inv (i + 1)⟩ e2) (hd : ∀ e, Inv n e -> D.nx e) : A60 (rngD lo n) pg pb D env :=
  ⟨Inv, h0, fun i x e hx hi => by obtain ⟨h1, rfl⟩ := A2b hx; exact hs i e h1 hi, fun e h => hd e (by rwa [J7] at h)⟩
def SV.lent : SV -> Option SV
  | .own xs => some (.bor xs)
  | .tr _ => none
  | .bt _ => none
  | s => some s
def J6 (cap : List (Option Nat)) (env : PEnv) : PEnv := cap.map fun o => o.bind fun j => (env[j]?).join.bind SV.lent
theorem EnvOk.writeZ {c : Ct} {w : Wd} {env : PEnv} {σ : St} {l : Addr} {us : List V} (E : EnvOk c w env σ) (z : c.Z l) (h4 : c.w0.H l = none) : EnvOk c ⟨w.M, upd w.H l (.lst us), w.F⟩ env σ := by
  obtain ⟨h2, h1, h3⟩ := E.zf l z
  have ne : ∀ b, w.M b -> b ≠ l := fun b hb z => h3 (z ▸ hb)
  refine ⟨⟨fun b o q => ?_, fun p hp => (E.wok.st p hp).kp (ne p hp) Kp.upd, E.wok.nf⟩, ⟨⟨E.le0.f, fun b o q n => ?_, E.le0.m, E.le0.mn, fun b q => E.le0.dom b (O5 q)⟩, E.le0.n⟩, E.len, fun j s q => ?_, E.own, fun a za => ?_, E.zo⟩
  · show upd w.H l (.lst us) b = some o
    rw [C9 (fun z => by rw [z, h2] at q; cases q)]; exact E.wok.sub b o q
  · show upd w.H l (.lst us) b = some o
    rw [C9 (fun z => by rw [z, h4] at q; cases q)]; exact E.le0.h b o q n
  · obtain ⟨v, g1, g2⟩ := E.at' j s q
    exact ⟨v, g1, g2.writ h1 (E.zo l j s v z q g1)⟩
  · obtain ⟨z1, z2, z3⟩ := E.zf a za
    exact ⟨z1, fun q => z2 (O5 q), z3⟩
theorem EnvOk.cap {c : Ct} {w : Wd} {env : PEnv} {σ : St} {D : Addr} (cap : List (Option Nat)) (E : EnvOk c w env σ) (hD : w.H D = none) : EnvOk ⟨c.K, w, fun a => a = D⟩ (w.lay D (.lst [])) (J6 cap env) (capσ cap σ) := by
  have nown : ∀ (i : Nat) s v a, (J6 cap env)[i]? = some (some s) -> ¬ s.foot v a := fun i s0 v a q f => by
    unfold J6 at q
    rw [List.getElem?_map] at q
    cases hc : cap[i]? with
    | none => rw [hc] at q; cases q
    | some o =>
      rw [hc] at q
      cases o with
      | none => cases q
      | some j =>
        have q' : ((env[j]?).join.bind SV.lent) = some s0 := Option.some.inj q
        cases hj : (env[j]?).join with
        | none => rw [hj] at q'; cases q'
        | some s => rw [hj] at q'; cases s <;> cases q' <;> exact f
  refine ⟨Wd.lay_ok E.wok hD, Wd.lay_le hD, by simp [J6, capσ], fun i s q => ?_, fun i j s t v u a q _ _ _ f => absurd f (nown i s v a q), fun a za => ?_, fun a j t u _ q _ => nown j t u a q⟩
  · unfold J6 at q
    unfold capσ
    rw [List.getElem?_map] at q ⊢
    cases hc : cap[i]? with
    | none => rw [hc] at q; cases q
    | some o =>
      rw [hc] at q
      cases o with
      | none => cases q
      | some j =>
        have q' : ((env[j]?).join.bind SV.lent) = some s := Option.some.inj q
        cases hj : env[j]? with
        | none => rw [hj] at q'; cases q'
        | some t =>
          rw [hj] at q'
          cases t with
          | none => cases q'
          | some s0 =>
            have q2 : s0.lent = some s := q'
            obtain ⟨v, h1, h2⟩ := E.at' j s0 hj
            refine ⟨v, by simp [h1], ?_⟩
            cases s0 with
            | d x => cases q2; exact h2
            | own xs => cases q2; obtain ⟨l, vs, e, g1, g2, g3, g4, g5⟩ := h2; exact .inr ⟨l, vs, e, g1, g3, g5⟩
            | bor xs =>
              cases q2
              rcases h2.vv E.le0 with g | ⟨l, vs, ys, e, e', g1, g2, g3⟩
              · exact .inl g
              · cases e'; exact .inr ⟨l, vs, e, g1, g2, g3⟩
            | st => cases q2; exact h2
            | tr t => cases q2
            | bt t => cases q2
  · have e : a = D := za
    subst e
    exact ⟨E.wok.fnone hD, by show upd w.H a (.lst []) a ≠ none; rw [C8]; simp, fun z => E.wok.mne hD z rfl⟩
def M8 (xs : List PyData) (pg : PyData -> PEnv -> (PEnv -> Prop) -> Prop) (pt : PTt) (pd : PDt) (e0 : PEnv) (Fin : List PyData -> Prop) : Prop :=
  ∃ Pv : Nat -> PEnv -> List PyData -> Prop, Pv 0 e0 [] /\ (∀ i x e ys, xs[i]? = some x -> Pv i e ys -> pg x e fun e2 => pt e2 fun b e3 => if b = true then pd e3 fun y e4 => Pv (i + 1) e4 (ys ++ [y]) else Pv (i + 1) e3 ys) /\ ∀ e ys, Pv xs.length e ys -> Fin ys
theorem A95 {K : Frag} {g : TG} {tt : TT} {te : TE} {pg : PyData -> PEnv -> (PEnv -> Prop) -> Prop} {pt : PTt} {pd : PDt} [hg : RG K g pg] [ht : RT K tt pt] [he : RD K te pd] {c : Ct} {w : Wd} {env : PEnv} {σ : St} {J : It} {xs : List PyData} {cap : List (Option Nat)} {D : Addr} {Fp : List PyData -> Prop} {Fin : Hpp -> Prop}
    (hK : c.K = K) (E : EnvOk c w env σ) (wk : Walk c w J xs) (hn : xs.length < 1000000) (p : M8 xs pg pt pd (J6 cap env) Fp) (hD : w.H D = none) (k : ∀ w' ys, Res c w env σ w' (.ref D) (.own ys) -> Fp ys -> Fin w'.H) : U9 J g tt te D Fin (capσ cap σ) w.H := by
  subst hK
  obtain ⟨Pv, p0, step, fin⟩ := p
  have hw0 : c.w0.H D = none := E.le0.dom D hD
  refine ⟨fun i m σ' H' vs => m = xs.length - i /\ i <= xs.length /\ ∃ e w' ys, w'.H = H' /\ EnvOk ⟨c.K, w, fun a => a = D⟩ w' e σ' /\ w'.H D = some (.lst vs) /\ vs.length <= i /\ DenAll c.K w'.F vs ys /\ Pv i e ys,
    ⟨xs.length, rfl, Nat.zero_le _, J6 cap env, w.lay D (.lst []), [], rfl, E.cap cap hD, C8, Nat.le_refl _, .nil, p0⟩, ?_⟩
  rintro i m σ1 _ vs ⟨rfl, hle, e1, w1, ys, rfl, E1, h1, hvl, d1, q1⟩
  refine ⟨h1, T8 (by omega), ?_⟩
  obtain ⟨go, stop, yld⟩ := wk w1 E1.wok (E.le0.trans E1.le0) E1.le0.f
  by_cases hlt : i < xs.length
  · refine .inr ⟨go i hlt, fun v H' y => ?_⟩
    obtain ⟨w1', x, rfl, ok1', le1, hx, dx⟩ := yld i v H' y hlt
    replace h1 := le1.h _ _ h1 (E1.zf D rfl).2.2
    replace E1 := E1.mono ok1' le1
    replace d1 := DenAll.same le1.f d1
    clear yld go stop y le1 ok1'
    generalize w1' = w1 at E1 h1 d1 dx
    refine hg.ok ⟨c.K, w, fun a => a = D⟩ w1 e1 σ1 v x _ _ rfl E1 dx (step i x e1 ys hx q1) fun e2 σ2 E2 q2 => ?_
    refine ht.ok ⟨c.K, w, fun a => a = D⟩ w1 e2 σ2 _ _ rfl E2 q2 fun b e3 w3 E3 l3 q3 => ?_
    have nm := (E2.zf D rfl).2.2
    have h3 := l3.h _ _ h1 nm
    cases b with
    | true =>
      refine he.ok ⟨c.K, w, fun a => a = D⟩ w3 e3 σ2 _ _ rfl E3 q3 fun y' y e4 w4 E4 l4 d4 q4 => ?_
      have h4 := l4.h _ _ h3 (E3.zf D rfl).2.2
      refine ⟨vs, h4, T8 (by omega), xs.length - (i + 1), by omega, rfl, hlt, e4, ⟨w4.M, upd w4.H D (.lst (vs ++ [y'])), w4.F⟩, ys ++ [y], rfl, E4.writeZ rfl hD, C8, by rw [List.length_append]; simp; exact hvl, (DenAll.same (l3.f.trans l4.f) d1).app (.cons d4 .nil), q4⟩
    | false =>
      exact ⟨xs.length - (i + 1), by omega, rfl, hlt, e3, w3, ys, rfl, E3, h3, by omega, DenAll.same l3.f d1, q3⟩
  · have e : i = xs.length := by omega
    subst e
    obtain ⟨z1, z2, z3⟩ := E1.zf D rfl
    refine .inl ⟨stop, k w1 ys ⟨E.mono E1.wok E1.le0, E1.le0.toLw, ⟨D, vs, rfl, h1, z1, z3, hw0, d1⟩, fun a f => ?_, rfl⟩ (fin e1 ys q1)⟩
    have : V.ref D = .ref a := f
    cases this
    exact E.fresh hD
def B9g (pi : PAr) (pg : PyData -> PEnv -> (PEnv -> Prop) -> Prop) (pt : PTt) (pd : PDt) (cap : List (Option Nat)) (env : PEnv) (Q : SV -> PEnv -> Prop) : Prop := pi env fun xs e => xs.length < 1000000 /\ M8 xs pg pt pd (J6 cap e) fun ys => Q (.own ys) e
instance re_comp {K : Frag} {wi : TI} {g : TG} {tt : TT} {te : TE} {cap : List (Option Nat)} {pi : PAr} {pg : PyData -> PEnv -> (PEnv -> Prop) -> Prop} {pt : PTt} {pd : PDt} [hi : RI K wi pi] [hg : RG K g pg] [ht : RT K tt pt] [he : RD K te pd] : RE K (A37 wi g tt te cap) (B9g pi pg pt pd cap) where
  ok := by
    rintro c w env σ Qp Q rfl E p k
    refine hi.ok c w env σ _ _ rfl E p fun J xs e1 w1 E1 l1 wk ⟨hn, q⟩ D hD => ?_
    exact A95 (pg := pg) (pt := pt) (pd := pd) rfl E1 wk hn q hD fun w' ys R q' => k _ _ e1 w' (R.pre l1) q'
def A2i (pi : PAr) (pg : PyData -> PEnv -> (PEnv -> Prop) -> Prop) (pt : PTt) (pd : PDt) (cap : List (Option Nat)) (i : Nat) (D : PEnds) (env : PEnv) : Prop := pi env fun xs e => xs.length < 1000000 /\ M8 xs pg pt pd (J6 cap e) fun ys => D.nx (e.set i (some (.own ys)))
instance rs_setComp {K : Frag} {wi : TI} {g : TG} {tt : TT} {te : TE} {cap : List (Option Nat)} {i : Nat} {pi : PAr} {pg : PyData -> PEnv -> (PEnv -> Prop) -> Prop} {pt : PTt} {pd : PDt} [hi : RI K wi pi] [hg : RG K g pg] [ht : RT K tt pt] [he : RD K te pd] : RS K (V7 wi g tt te cap i) (A2i pi pg pt pd cap i) where
  ok := by
    rintro c w env σ Dp D rfl E h p
    refine hi.ok c w env σ _ _ rfl E p fun J xs e1 w1 E1 l1 wk ⟨hn, q⟩ l hl => ?_
    exact A95 (pg := pg) (pt := pt) (pd := pd) rfl E1 wk hn q hl fun w' ys R q' => h.nx _ _ w' (R.ev.set R.val R.new) (l1.f.trans R.lw.f) q'
class RP (K : Frag) (to : TO) (po : outParam (PEnv -> (Option Int -> PEnv -> Prop) -> Prop)) : Prop where
  ok : ∀ (c : Ct) (w : Wd) (env : PEnv) (σ : St) (Qp : Option Int -> PEnv -> Prop) (Q : Option Int -> Hpp -> Prop), c.K = K -> EnvOk c w env σ -> po env Qp -> (∀ o env' w', EnvOk c w' env' σ -> Lw w w' -> Qp o env' -> Q o w'.H) -> to σ w.H Q
def A1k (env : PEnv) (Q : Option Int -> PEnv -> Prop) : Prop := Q none env
def asI (x : PyData) (k : Int -> Prop) : Prop := match x with
  | .int i => k i
  | _ => False
def B6l (pa : PDt) (env : PEnv) (Q : Option Int -> PEnv -> Prop) : Prop := pa env fun x e => asI x fun i => Q (some i) e
instance rp_no {K : Frag} : RP K A1e A1k := ⟨fun c w env σ Qp Q _ E p k => k none env w E (Lw.refl w) p⟩
instance rp_part {K : Frag} {te : TE} {pa : PDt} [ha : RW K te pa] : RP K (B5j te) (B6l pa) where
  ok := by
    rintro c w env σ Qp Q rfl E p k
    refine ha.ok c w env σ _ _ rfl E p fun x dx e1 w1 E1 l1 v1 q1 => ?_
    unfold asI at q1
    split at q1
    · exact ⟨_, v1.intE, k _ e1 w1 E1 l1 q1⟩
    · exact q1.elim
def cutD (xs : List PyData) (lo hi : Option Int) : List PyData := (xs.drop (HT.sIx xs.length 0 lo)).take (HT.sIx xs.length xs.length hi - HT.sIx xs.length 0 lo)
def pSlL (pa : PDt) (pl ph : PEnv -> (Option Int -> PEnv -> Prop) -> Prop) (env : PEnv) (Q : SV -> PEnv -> Prop) : Prop := pa env fun x e => asL x fun xs => pl e fun lo e1 => ph e1 fun hi e2 => Q (.own (cutD xs lo hi)) e2
instance re_sl {K : Frag} {te : TE} {tl th : TO} {pa : PDt} {pl ph : PEnv -> (Option Int -> PEnv -> Prop) -> Prop} [ha : RW K te pa] [hl : RP K tl pl] [hh : RP K th ph] : RE K (tSl (rSlL K) te tl th) (pSlL pa pl ph) where
  ok := by
    rintro c w env σ Qp Q rfl E p k
    refine ha.ok c w env σ _ _ rfl E p fun x dx e1 w1 E1 l1 v1 q1 => ?_
    unfold asL at q1
    split at q1
    · rename_i xs
      refine hl.ok c w1 e1 σ _ _ rfl E1 q1 fun lo e2 w2 E2 l2 q2 => ?_
      refine hh.ok c w2 e2 σ _ _ rfl E2 q2 fun hi e3 w3 E3 l3 q3 => ?_
      obtain ⟨a, vs, e, g1, g2⟩ := ((v1.mono l2).mono l3).lst E3.wok
      refine ⟨a, vs, e, g1, fun p hp => k _ _ e3 _ ((Res.lst E3 hp (xs := cutD xs lo hi) ?_).pre (l1.trans (l2.trans l3))) q3⟩
      unfold cutV cutD
      rw [g2.len]
      exact (g2.drop _).take _
    · exact q1.elim
def pRev (pa pb : PDt) (env : PEnv) (Q : SV -> PEnv -> Prop) : Prop := pa env fun x e => asL x fun xs => pb e fun k e2 => k = .int (-1) /\ Q (.own xs.reverse) e2
theorem K9 {K : Frag} {w : Wd} : ∀ {md : List Md} {vs : List V} {as : List SV}, Args K w md vs as -> as.length = vs.length /\ ∀ (i : Nat) s, as[i]? = some s -> (∃ v, vs[i]? = some v /\ VR ⟨K, w, noZ⟩ w v s) /\ ∀ u a, ¬ s.foot u a
  | _, _, _, .nil => ⟨rfl, fun i s h => by simp at h⟩
  | _, _, _, .dat h t => ⟨by simp [(K9 t).1], fun i s e => match i, e with
    | 0, e => by simp at e; subst e; exact ⟨⟨_, rfl, h⟩, fun _ _ z => z⟩
    | i + 1, e => by simpa using (K9 t).2 i s (by simpa using e)⟩
  | _, _, _, .vw h t => ⟨by simp [(K9 t).1], fun i s e => match i, e with
    | 0, e => by
      simp at e; subst e
      refine ⟨⟨_, rfl, ?_⟩, fun _ _ z => z⟩
      rcases h with h | ⟨l, vs, ys, e1, e2, h1, h2, h3⟩
      · exact .inl h
      · cases e2; exact .inr ⟨l, vs, e1, h1, h2, h3⟩
    | i + 1, e => by simpa using (K9 t).2 i s (by simpa using e)⟩
  | _, _, _, .bt h t => ⟨by simp [(K9 t).1], fun i s e => match i, e with
    | 0, e => by simp at e; subst e; exact ⟨⟨_, rfl, h⟩, fun _ _ z => z⟩
    | i + 1, e => by simpa using (K9 t).2 i s (by simpa using e)⟩
  | _, _, _, .st h t => ⟨by simp [(K9 t).1], fun i s e => match i, e with
    | 0, e => by simp at e; subst e; exact ⟨⟨_, rfl, h⟩, fun _ _ z => z⟩
    | i + 1, e => by simpa using (K9 t).2 i s (by simpa using e)⟩
theorem E9 {K : Frag} {ts : TS} {ps : PSt} [hs : RS K ts ps] {md : List Md} {psp : PSp} {vs : List V} {H : Hpp} {Q : VK} {E : XK} {N : List Str} (h : spOf K md psp vs H Q E)
    (hb : ∀ as Qp, psp as Qp -> ps ⟨fun _ => Qp (.d .none), Qp, fun _ => False, fun _ => False⟩ (as.map some ++ List.replicate (N.length - md.length) none)) : ts { nx := fun _ H' => Q .non H', rt := Q } (L2.start N vs) H := by
  obtain ⟨w, as, Qp, rfl, ok, a, p, k⟩ := h
  obtain ⟨hl, hat⟩ := K9 a
  have look : ∀ (i : Nat) s, (as.map some ++ List.replicate (N.length - md.length) none)[i]? = some (some s) -> as[i]? = some s := fun i s e => by
    rw [List.getElem?_append] at e
    split at e
    · rw [List.getElem?_map] at e
      cases q : as[i]? with
      | none => rw [q] at e; cases e
      | some t => rw [q] at e; cases e; rfl
    · rw [List.getElem?_replicate] at e
      split at e <;> cases e
  refine hs.ok ⟨K, w, noZ⟩ w (as.map some ++ List.replicate (N.length - md.length) none) (L2.start N vs) _ _ rfl ⟨ok, Le.refl w, by simp [L2.start, hl, a.len], fun i s e => ?_, fun i j s t v u a e _ _ _ f => absurd f ((hat i _ (look i _ e)).2 v a), fun a z => z.elim, fun a j t u z => z.elim⟩ ⟨fun env σ w' E' _ q => ?_, fun v s w' ok' l h r q => k v s w' ok' l h r q, fun _ _ _ _ _ z => z, fun _ _ _ _ _ z => z⟩ (hb as Qp p)
  · obtain ⟨⟨v, h1, h2⟩, _⟩ := hat i s (look i s e)
    refine ⟨v, ?_, h2⟩
    unfold L2.start
    rw [List.getElem?_append_left (by rw [List.length_map]; exact (List.getElem?_eq_some_iff.mp h1).1), List.getElem?_map, h1]; rfl
  · exact k .non (.d .none) w' E'.wok E'.le0 (show Den _ _ _ _ from .non) rfl q
def pLaw : PSp := fun as Q => ∃ ns : List Int, as = [.bor (ns.map .int)] /\ ns.length <= 63 /\ Q (.d (.bool true))
theorem A92 {K : Frag} {F : Hpp} : ∀ ns : List Int, DenAll K F (ns.map V.int) (ns.map .int)
  | [] => .nil
  | n :: r => .cons (.int n) (A92 r)
theorem B93 {K : Frag} : ∀ vs H Q E, B5n K vs H Q E -> spOf K [.vw] pLaw vs H Q E := by
  rintro vs H Q E ⟨a, ns, rfl, hS, hl, k⟩
  refine ⟨⟨fun _ => False, H, fun b => if b = a then H a else none⟩, [.bor (ns.map .int)], fun s => s = .d (.bool true), rfl, ⟨fun b o e => ?_, fun _ z => z.elim, fun _ z => z.elim⟩, .vw (.inl (.lst ?_ (A92 ns))) .nil, ⟨ns, rfl, hl, rfl⟩, fun v s w' ok l h r e => ?_⟩
  · dsimp only at e
    split at e
    · rename_i z; rw [z]; exact e
    · cases e
  · rcases hS with (h | ⟨o, h⟩) | h
    · exact .inl (.inl (by dsimp only; rw [if_pos rfl]; exact h))
    · exact .inl (.inr ⟨o, by dsimp only; rw [if_pos rfl]; exact h⟩)
    · exact .inr h
  · subst e
    have : v = .bl true := Den.blE h
    subst this
    exact k _
end Pu
namespace L2
open PySem PySem.Spec PyProof.Rows
end L2
namespace Pu
open PySem L2 My Prf
theorem A6w {q : Rat} {Q : SV -> Prop} : pIx (dq q) (.int 0) Q = Q (.d (.int q.num)) := rfl
theorem A6v {q : Rat} {Q : SV -> Prop} : pIx (dq q) (.int 1) Q = Q (.d (.int (q.den : Int))) := rfl
theorem A8h {i : Int} : (PyData.int i).canLay0 = true := rfl
theorem A25 {b : Bool} : (PyData.bool b).canLay0 = true := rfl
theorem A24 : PyData.none.canLay0 = true := rfl
theorem A90 {i : Int} : (PyData.int i).depth = 0 := rfl
theorem A3s {b : Bool} : (PyData.bool b).depth = 0 := rfl
theorem A9x {s : Str} : (PyData.str s).depth = 0 := rfl
theorem A3q : PyData.none.depth = 0 := rfl
theorem B4l {q : Rat} : (dq q).canLay0 = true := rfl
theorem B44 {q : Rat} : (dq q).depth = 1 := rfl
theorem X4 {i j : Int} : PyData.eqv (.int i) (.int j) = decide (i = j) := by
  show (i == j) = _
  by_cases h : i = j <;> simp [h]
theorem B5s {p q : Rat} (h1 : p.num = q.num) (h2 : (p.den : Int) = q.den) : p = q := Rat.ext h1 (by omega)
theorem A3o {p q : Rat} : PyData.eqv (dq p) (dq q) = decide (p = q) := by
  show (PyData.eqv (.int p.num) (.int q.num) && (PyData.eqv (.int (p.den : Int)) (.int (q.den : Int)) && true)) = _
  rw [X4, X4, Bool.and_true]
  by_cases h : p = q
  · subst h; simp
  · rw [decide_eq_false h]
    by_cases h1 : p.num = q.num
    · have h2 : ¬ (p.den : Int) = (q.den : Int) := fun z => h (B5s h1 z)
      rw [decide_eq_false h2, Bool.and_false]
    · rw [decide_eq_false h1, Bool.false_and]
theorem A0n {q : Rat} : PyData.eqv .none (dq q) = false := rfl
theorem A0m {q : Rat} : PyData.eqv (dq q) .none = false := rfl
theorem A9e {q : Rat} : isNo (dq q) = false := rfl
theorem A4z : PyData.tuple [.int 0, .int 1] = dq 0 := rfl
theorem B33 : PyData.tuple [.int 1, .int 1] = dq 1 := rfl
theorem B2o {q : Rat} : tyD (dq q) = "tuple" := rfl
theorem B4z : kitB "bool" "bool" = some true := by decide +kernel
theorem B4v : kitB "int" "int" = some true := by decide +kernel
theorem B4y : kitB "bool" "int" = some true := by decide +kernel
theorem B4p : kitB "str" "str" = some true := by decide +kernel
theorem B4t : kitB "list" "list" = some true := by decide +kernel
theorem B4s : kitB "list" "tuple" = some false := by decide +kernel
theorem B4n : kitB "tuple" "list" = some false := by decide +kernel
theorem B4o : kitB "tuple" "bool" = some false := by decide +kernel
theorem B4q : kitB "NoneType" "tuple" = some false := by decide +kernel
theorem A9h {K : Frag} {F : Hpp} : ∀ {vs : List V} {ns : List Int}, DenAll K F vs (ns.map .int) -> vs = ns.map V.int
  | _, [], .nil => rfl
  | _, n :: r, .cons h t => by rw [h.intE, A9h t]; rfl
def A5x : PSp := fun as Q => ∃ n : Int, as = [.st, .d (.int n)] /\ 0 < n /\ Sm 4000 n /\ ∀ d : Int, 0 <= d -> d < n -> Q (.d (.int d))
def A2e : PSp := fun as Q => ∃ (ns : List Int) (k : Int), as = [.bor (ns.map .int), .d (.int k)] /\ 0 <= k /\ k <= 63 /\ Q .st
theorem B5g {K : Frag} : ∀ vs H Q E, spOf K [.st, .dat] A5x vs H Q E -> A5e vs H Q E := by
  rintro vs H Q E ⟨w, as, Qp, rfl, ok, a, ⟨n, rfl, n0, sn, q⟩, k⟩
  cases a with
  | st h t => cases t with
    | dat h' t =>
      cases t
      obtain ⟨p, e, hm⟩ := h
      subst e
      rw [Den.intE h']
      refine ⟨p, n, rfl, ok.st p hm, n0, sn, fun d H' d0 d1 S' kp => ?_⟩
      have out : ∀ b o, w.H b = some o -> b ≠ p -> H' b = some o := fun b o e ne => kp b o ne e
      have pn := ok.nf p hm
      refine k (.int d) (.d (.int d)) ⟨w.M, H', w.F⟩ ⟨fun b o e => out b o (ok.sub b o e) (fun z => by rw [z, pn] at e; cases e), fun r hr => ?_, ok.nf⟩ ⟨⟨Same.refl _, fun b o e nb => out b o e (fun z => nb (z ▸ hm)), fun _ z => z, fun _ z => .inl z, fun b e => ?_⟩, fun _ _ z => .inl z⟩ (Den.int d) rfl (q d d0 d1)
      · by_cases z : r = p
        · subst z; exact S'
        · exact (ok.st r hr).kp z kp
      · cases hb : w.H b with
        | none => rfl
        | some o =>
          by_cases z : b = p
          · subst z; obtain ⟨_, _, _, hp, _⟩ := S'.ex; rw [show H' b = none from e] at hp; cases hp
          · have := out b o hb z; rw [show H' b = none from e] at this; cases this
theorem B2f {K : Frag} : ∀ vs H Q E, spOf K [.vw, .dat] A2e vs H Q E -> A17 K vs H Q E := by
  rintro vs H Q E ⟨w, as, Qp, rfl, ok, a, ⟨ns, kk, rfl, k0, k1, q⟩, k⟩
  cases a with
  | vw h t => cases t with
    | dat h' t =>
      cases t
      obtain ⟨a, us, e, hS, hd⟩ := h.lst ok
      subst e
      rw [Den.intE h']
      refine ⟨a, ns, kk, rfl, by rw [<- A9h hd]; exact hS, k0, k1, fun p H' hp S' kp => ?_⟩
      have out : ∀ b o, w.H b = some o -> H' b = some o := fun b o e => kp b o (D5 e hp) e
      refine k (.ref p) .st ⟨fun b => w.M b \/ b = p, H', w.F⟩ ⟨fun b o e => out b o (ok.sub b o e), fun r hr => ?_, fun r hr => ?_⟩ ⟨⟨Same.refl _, fun b o e _ => out b o e, fun _ z => .inl z, fun b z => ?_, fun b e => ?_⟩, fun _ _ z => .inl z⟩ ⟨p, rfl, .inr rfl⟩ rfl q
      · rcases hr with hr | rfl
        · exact (ok.st r hr).kp (ok.mne hp hr) kp
        · exact S'
      · rcases hr with hr | rfl
        · exact ok.nf r hr
        · exact ok.fnone hp
      · rcases z with z | rfl
        · exact .inl z
        · exact .inr hp
      · cases hb : w.H b with
        | none => rfl
        | some o => have := out b o hb; rw [show H' b = none from e] at this; cases this
def B8r : PSp := fun as Q => ∃ a b : Int, as = [.d (.int a), .d (.int b)] /\ Q (.d (.int ((Int.gcd a b : Nat) : Int)))
def B50 : PSp := fun as Q => ∃ t b : Int, as = [.d (.int t), .d (.int b)] /\ 0 < b /\ Sm 8000 t /\ Sm 8000 b /\ Q (.d (dq (Rat.divInt t b)))
def U1 (f : Rat -> Rat -> Rat) : PSp := fun as Q => ∃ p q : Rat, as = [.d (dq p), .d (dq q)] /\ SmQ 3900 p /\ SmQ 3900 q /\ Q (.d (dq (f p q)))
def A5y : PSp := fun as Q => ∃ p q : Rat, as = [.d (dq p), .d (dq q)] /\ SmQ 3900 p /\ SmQ 3900 q /\ q ≠ 0 /\ Q (.d (dq (p / q)))
def A5z : PSp := fun as Q => ∃ p q : Rat, as = [.d (dq p), .d (dq q)] /\ SmQ 3900 p /\ SmQ 3900 q /\ Q (.d (.bool (decide (p < q))))
def A51 : PSp := fun as Q => ∃ (pl : Bool) (le : Int), as = [.st, .d (.bool pl), .d (.int le)] /\ (le = 0 \/ le = 1) /\ ∀ q : Rat, 0 <= q -> (le = 1 -> 0 < q) -> SmR 41 6 q -> (pl = true -> SmR 3 1 q /\ q.den = 1) -> Q (.d (dq q))
end Pu
namespace L2
open PySem PySem.Spec PyProof.Rows
section
variable {X : Cx} {tg : Expr}
def B8f (K : PySem.W.Frag) : R2 := fun x y H Q => ∃ l b xs zs, x = .ref l /\ y = .ref b /\ SqL K H l xs /\ SqL K H b zs /\ xs.length + zs.length <= sizeLine /\ ∀ p, H p = none -> Q (.ref p) (upd H p (.lst (xs ++ zs)))
theorem B60 {K : PySem.W.Frag} (hK : X.K = K) : OpR X (binaryOp .Add) (B8f K) := by
  subst hK
  intro pins s σ H x y v u Q I rx ry h
  obtain ⟨l, b, xs, zs, rfl, rfl, hH, hB, hz, q⟩ := h
  cases rx
  cases ry
  obtain ⟨its, r, hl, z⟩ := I.list hH
  obtain ⟨its2, r2, hl2, z2⟩ := I.list hB
  have n1 := r.length
  have n2 := r2.length
  obtain ⟨⟨k1, dd, da, sl⟩, m1, ho, e1, e2, e3⟩ := hl
  obtain ⟨⟨k2, dd2, da2, sl2⟩, m2, ho2, e4, e5, e6⟩ := hl2
  dsimp only at e1 e2 e3 e4 e5 e6
  subst e1 e2 e3 e4 e5 e6
  refine concat_meets ⟨_, ho, rfl⟩ ⟨_, ho2, rfl⟩ noFill_list_add seq_list_add F.slot_list_add F.entry_list_add (F.args_list_add_2 _ _) (list_addW l b its.toArray its2.toArray m1 m2 none none sl sl2 (by rw [List.size_toArray, List.size_toArray]; omega)) ⟨ho, ho2, ?_⟩
  rw [show its.toArray ++ its2.toArray = (its ++ its2).toArray by simp]
  exact ⟨.ref _, _, I.lnew (t' := s.toks) (r.append r2) (by rw [List.length_append]; omega), rfl, q _ I.fresh⟩
def rAll (K : PySem.W.Frag) : List V -> Hp -> VK -> Prop := fun xs H Q => ∃ (p : Addr) (bs : List Bool), xs = [.ref p] /\ SqL K H p (bs.map V.bl) /\ Q (.bl (bs.all id)) H
theorem B7o {bs : List Bool} : ∀ {us : List Value}, Vals (bs.map V.bl) us -> us = bs.map Value.bool := by
  induction bs with
  | nil => intro us h; cases h; rfl
  | cons b r ih =>
    intro us h
    cases h with
    | cons h t => rw [ih t, show _ = Value.bool b from h]; rfl
theorem A5l (bs : List Bool) : (List.range bs.length).all (fun i => bs.getD i false) = bs.all id := by
  rw [Bool.eq_iff_iff, List.all_eq_true, List.all_eq_true]
  constructor
  · intro h b hb
    obtain ⟨i, hi, e⟩ := List.mem_iff_getElem.mp hb
    have := h i (List.mem_range.mpr hi)
    rw [List.getD_eq_getElem?_getD, List.getElem?_eq_getElem hi, e] at this
    exact this
  · intro h i hi
    have hi := List.mem_range.mp hi
    rw [List.getD_eq_getElem?_getD, List.getElem?_eq_getElem hi]
    exact h _ (List.getElem_mem hi)
theorem B5d {pins : List (Addr × Obj)} {σ : St} {H : Hp} {s : Shared} {p : Addr} {bs : List Bool} (hc : X.calm = true) (I : Inv X pins σ H s) (hS : SqL X.K H p (bs.map V.bl)) {A : Around} (hA : A.handled = none) {Qf : Bool -> Value -> Shared -> Prop} {E : Value -> Shared -> Prop} {g : (Nat -> Bool) -> Nat -> Bool}
    (hQ : ∀ h' tk, Inv X pins σ H { s with heap := h', toks := tk } -> Qf (g (fun i => bs.getD i false) bs.length) (.bool (g (fun i => bs.getD i false) bs.length)) { s with heap := h', toks := tk }) :
    wpAny (model X.prog X.w) A (pyIter (.ref p)) (fun it s₂ => ∃ J fp wr n P St tr, it = .ref J /\ Walks X.prog X.w A J fp wr n P St /\ St 0 s₂.heap /\ TruthOf X.prog X.w A P tr /\
      ∀ h' tk, (∀ b o, b ∉ wr -> s₂.heap.get? b = some o -> h'.get? b = some o) -> Qf (g tr n) (.bool (g tr n)) { s₂ with heap := h', toks := tk }) E s := by
  obtain ⟨its, r, hl, z⟩ := I.list hS
  have e := B7o r
  refine wpAny_pyIter_list hl.isList ?_
  have hne : p ≠ s.heap.objs.size := by
    obtain ⟨o, _, ho, _⟩ := hl
    exact Nat.ne_of_lt (Heap.lt_size ho)
  have W := Walks.list (prog := X.prog) (w := X.w) (A := A) hA s.heap.objs.size p hne its.toArray
  have hn : its.toArray.size = bs.length := by rw [List.size_toArray, e, List.length_map]
  rw [hn] at W
  refine ⟨s.heap.objs.size, _, _, _, _, _, fun i => bs.getD i false, rfl, W, ⟨⟨_, Heap.get?_push_size _ rfl, rfl, rfl⟩, hl.isList.push _⟩, fun i v s' Q' E' hP q => ?_, fun h' tk hk => hQ h' tk ?_⟩
  · dsimp only at hP
    rw [List.getElem?_toArray, e, List.getElem?_map] at hP
    cases hb : bs[i]? with
    | none => rw [hb] at hP; cases hP
    | some b =>
      rw [hb] at hP; cases hP
      refine wpAny_truthy_bool ?_
      dsimp only at q
      rw [List.getD_eq_getElem?_getD, hb] at q
      exact q
  · have I1 : Inv X pins σ H { s with heap := s.heap.push { cls := .type "list_iterator", data := .fields #[.ref p, .int 0 0] } } := I.kept (t' := s.toks) fun b o e => Heap.get?_push_of_some _ e
    have f := I.fpOk (H' := H) (Nat.le_refl s.heap.objs.size) I.fresh
    exact I1.turned (t' := tk) (fun b o hb e => hk b o (fun z => hb (List.mem_singleton.mp z)) e) f.1 f.2.1 f.2.2.2.1 f.2.2.2.2.1 f.2.2.2.2.2
theorem B0b {K : PySem.W.Frag} (hK : X.K = K) (hc : X.calm = true := by rfl) : CallR X (.builtin "all") (rAll K) := by
  subst hK
  intro pins s σ H xs us Q I r h
  obtain ⟨p, bs, rfl, hS, q⟩ := h
  cases r with
  | cons r rr =>
    cases rr
    cases r
    refine call_all_walk (B5d hc I hS (A := X.A.in1) (I.ok.hd hc) (g := fun tr n => (List.range n).all tr) (Qf := fun _ => EP X pins σ Q) fun h' tk I' => ⟨.bl _, H, I', rfl, ?_⟩)
    rw [A5l]; exact q
end
end L2
namespace L2
open PySem PySem.Spec PyProof.Rows
section
variable {X : Cx}
def P6 (T : String) : List String -> Option Bool
  | [] => some false
  | c :: r => match kitB T c with
    | some true => some true
    | some false => P6 T r
    | none => none
theorem A0f (K : PySem.W.Frag) {T : String} : ∀ {cs : List String} {b : Bool}, P6 T cs = some b -> PySem.W.kitAny K (.type T) (cs.map Value.type) = some b
  | [], b, h => h
  | c :: r, b, h => by
    unfold P6 at h
    show (match PySem.W.kitOne K (.type T) (.type c) with | some true => some true | some false => PySem.W.kitAny K (.type T) (r.map Value.type) | none => none) = some b
    cases e : kitB T c with
    | none => rw [e] at h; cases h
    | some v =>
      rw [e] at h
      rw [A3c K e]
      cases v with
      | true => exact h
      | false => exact A0f K h
theorem B95 {pins : List (Addr × Obj)} {σ : St} {H : Hp} {s : Shared} {x : V} {u : Value} {T : String} (I : Inv X pins σ H s) (ru : RelV x u) (ty : TyV X.K H x T) :
    ∃ Hh, PySem.W.KitX X.K u (.type T) Hh /\ Hh s.heap /\ u ≠ .builtin "__main__.__loader__#opaque" := by
  cases x with
  | non => cases (show T = _ from ty); cases (show u = Value.none from ru); exact ⟨_, PySem.W.kitx_none, True.intro, fun z => nomatch z⟩
  | bl y => cases (show T = _ from ty); cases (show u = Value.bool y from ru); exact ⟨_, PySem.W.kitx_bool, True.intro, fun z => nomatch z⟩
  | int i => cases (show T = _ from ty); obtain ⟨t, q'⟩ := (show ∃ t, u = Value.int i t from ru); cases q'; exact ⟨_, PySem.W.kitx_int, True.intro, fun z => nomatch z⟩
  | str y => cases (show T = _ from ty); obtain ⟨t, q'⟩ := (show ∃ t, u = Value.str y t from ru); cases q'; exact ⟨_, PySem.W.kitx_str, True.intro, fun z => nomatch z⟩
  | ref a =>
    cases (show u = Value.ref a from ru)
    rcases (show _ \/ _ \/ _ from ty) with ⟨rfl, xs, h⟩ | ⟨rfl, xs, h⟩ | ⟨rfl, kvs, h⟩
    · obtain ⟨its, _, ⟨o, n, h1, h2, _⟩, _⟩ := I.list h
      exact ⟨_, PySem.W.kitx_list, ⟨o, h1, h2⟩, fun z => nomatch z⟩
    · obtain ⟨its, _, ⟨o, h1, h2, _⟩, _⟩ := I.tuple h
      exact ⟨_, PySem.W.kitx_tuple, ⟨o, h1, h2⟩, fun z => nomatch z⟩
    · obtain ⟨_, _, vs, _, p⟩ := (show ObjOk X.prog X.w H s.heap a (.dK kvs) from I.hok a _ h)
      obtain ⟨o, es, ep, h1, h2, _⟩ := p
      exact ⟨_, PySem.W.kitx_dict, ⟨o, h1, h2.1⟩, fun z => nomatch z⟩
  | byt _ => exact (show False from ty).elim
  | flt _ => exact (show False from ty).elim
  | ty _ => exact (show False from ty).elim
theorem A44 : ∀ {cs : List String} {us : List Value}, Vals (cs.map V.ty) us -> us = cs.map Value.type
  | [], _, .nil => rfl
  | c :: r, _, .cons h t => by rw [A44 t, show _ = Value.type c from h]; rfl
def B8e (K : PySem.W.Frag) : List V -> Hp -> VK -> Prop := fun xs H Q => ∃ x t cs T b, xs = [x, .ref t] /\ H t = some (.tup (cs.map V.ty)) /\ TyV K H x T /\ P6 T cs = some b /\ Q (.bl b) H
theorem V0 {K : PySem.W.Frag} (hK : X.K = K) : CallR X (.builtin "isinstance") (B8e K) := by
  subst hK
  intro pins s σ H xs us Q I r h
  obtain ⟨x, t, cs, T, b, rfl, ht, ty, e, q⟩ := h
  obtain ⟨u, v, rfl, ru, rv⟩ := Vals.two r
  cases (show v = Value.ref t from rv)
  obtain ⟨Hh, Z, hz, hx⟩ := B95 I ru ty
  obtain ⟨its, r1, ⟨⟨k1, dd, da, sl⟩, h1, h2, n, h3⟩, _⟩ := I.tuple (SqT.of (K := X.K) ht)
  dsimp only at h2 h3
  subst h2 h3
  have ei := A44 r1
  subst ei
  exact PySem.W.kia_tup Z I.kIn hz h1 (A0f X.K e) hx fun tk => ⟨.bl b, H, I.tok tk, rfl, q⟩
end
end L2
namespace Pu
open PySem L2 My Prf
def dwnD (lo : Int) (n : Nat) : List PyData := (List.range n).map fun k : Nat => PyData.int (lo - (k : Int))
def C1k (pa : PAr) (env : PEnv) (Q : List PyData -> PEnv -> Prop) : Prop := pa env fun xs e => match xs with
  | [.int i, .int j, .int k] => k = -1 /\ ((-(2 ^ 61) <= i /\ i < 2 ^ 61) /\ -(2 ^ 61) <= j /\ j < 2 ^ 61) /\ Q (dwnD i (i - j).toNat) e
  | _ => False
def pCat (x y : PyData) (Q : SV -> Prop) : Prop := match x, y with
  | .list xs, .list ys => xs.length + ys.length <= 1000000 /\ Q (.own (xs ++ ys))
  | _, _ => False
instance ro_cat {K : Frag} : RO K (B8f K) pCat where
  ok := by
    rintro c w env σ x y dx dy Qp Q rfl E vx vy p k
    unfold pCat at p
    split at p
    · obtain ⟨a, vs, e, h1, h2⟩ := vx.lst E.wok
      obtain ⟨b, us, e', g1, g2⟩ := vy.lst E.wok
      exact ⟨a, b, vs, us, e, e', h1, g1, by rw [h2.len, g2.len]; exact Nat.le_trans p.1 (by decide), fun q hq => k _ _ _ (Res.lst E hq (h2.app g2)) p.2⟩
    · exact p.elim
def blsD : List PyData -> Option (List Bool)
  | [] => some []
  | .bool b :: r => (blsD r).map (b :: ·)
  | _ => none
theorem A3w : ∀ bs : List Bool, blsD (bs.map .bool) = some bs
  | [] => rfl
  | b :: r => by show (blsD (r.map .bool)).map (b :: ·) = _; rw [A3w r]; rfl
theorem A3x {K : Frag} {F : Hpp} : ∀ {vs : List V} {xs : List PyData} {bs : List Bool}, DenAll K F vs xs -> blsD xs = some bs -> vs = bs.map V.bl
  | _, _, bs, .nil, h => by cases h; rfl
  | _, _, bs, .cons (x := x) (xs := vs) (d := d) (ds := ds) h t, e => by
    cases d with
    | bool b =>
      have e' : (blsD ds).map (b :: ·) = some bs := e
      cases q : blsD ds with
      | none => rw [q] at e'; cases e'
      | some r =>
        rw [q] at e'; cases e'
        rw [h.blE, A3x t q]; rfl
    | _ => cases e
def pAll (xs : List PyData) (Q : SV -> Prop) : Prop := match xs with
  | [.list ys] => ∃ bs, blsD ys = some bs /\ Q (.d (.bool (bs.all id)))
  | _ => False
def pAny (xs : List PyData) (Q : SV -> Prop) : Prop := match xs with
  | [.list ys] => ∃ bs, blsD ys = some bs /\ Q (.d (.bool (bs.any id)))
  | _ => False
instance rb_all {K : Frag} : RB K (rAll K) pAll where
  ok := by
    rintro c w env σ vs xs Qp Q rfl E vv p k
    unfold pAll at p
    split at p
    · obtain ⟨bs, e, q⟩ := p
      cases vv with | cons h t => cases t; obtain ⟨a, us, e', h1, h2⟩ := h.lst E.wok; exact ⟨a, bs, by rw [e'], by rw [<- A3x h2 e]; exact h1, k _ _ w (Res.data E (.bl _)) q⟩
    · exact p.elim
class TyA (t : TA) (cs : outParam (List String)) : Prop where
  ok : ∀ σ H (Q : List V -> Hpp -> Prop), Q (cs.map V.ty) H -> t σ H Q
instance tya_nil : TyA tNil [] := ⟨fun _ _ _ h => h⟩
instance tya_cons {c : String} {t : TA} {cs : List String} [h : TyA t cs] : TyA (K1 (tC (.ty c)) t) (c :: cs) := ⟨fun σ H Q q => h.ok σ H _ q⟩
def B89 (cs : List String) (pa : PDt) (env : PEnv) (Q : SV -> PEnv -> Prop) : Prop := pa env fun x e => cs.length <= 1000 /\ match P6 (tyD x) cs with
  | some b => Q (.d (.bool b)) e
  | none => False
instance (priority := high) re_isit {K : Frag} {ta : TE} {pa : PDt} {tt : TA} {cs : List String} [ha : RW K ta pa] [ht : TyA tt cs] : RE K (tCB (B8e K) (K1 ta (K1 (tTup tt) tNil))) (B89 cs pa) where
  ok := by
    rintro ct w env σ Qp Q rfl E p k
    refine ha.ok ct w env σ _ _ rfl E p fun x dx e1 w1 E1 l1 v1 ⟨hl, q1⟩ => ?_
    refine ht.ok σ _ _ ⟨by rw [List.length_map]; exact Nat.le_of_lt (R1 hl), fun t ht' => ?_⟩
    split at q1
    · rename_i b hb
      have E2 := E1.mono (Wd.lay_ok (o := .tup (cs.map V.ty)) E1.wok ht') (Wd.lay_le ht')
      have l2 : Lw w1 (w1.lay t (.tup (cs.map V.ty))) := (Wd.lay_le ht').toLw
      have v2 := (v1.mono l2).den E2.wok
      exact ⟨x, t, cs, _, b, rfl, C8, Den.ty v2, hb, k (.bl b) (.d (.bool b)) e1 (w1.lay t (.tup (cs.map V.ty))) ((Res.data E2 (.bl b)).pre (l1.trans l2)) q1⟩
    · exact q1.elim
theorem A3b : P6 "bool" ["list", "tuple"] = some false := by decide +kernel
theorem A28 : P6 "NoneType" ["list", "tuple"] = some false := by decide +kernel
theorem A3a : P6 "int" ["list", "tuple"] = some false := by decide +kernel
theorem A27 : P6 "str" ["list", "tuple"] = some false := by decide +kernel
theorem A29 : P6 "list" ["list", "tuple"] = some true := by decide +kernel
theorem A26 : P6 "tuple" ["list", "tuple"] = some true := by decide +kernel
end Pu
namespace Pu
open PySem L2 My Prf
theorem B6w {x : PyData} {xs : List PyData} {Q : SV -> Prop} : pGet (x :: xs) 0 Q = Q (.d x) := by unfold pGet; rw [at0]
theorem B6v {x y : PyData} {xs : List PyData} {Q : SV -> Prop} : pGet (x :: y :: xs) 1 Q = Q (.d y) := by unfold pGet; rw [at1]
theorem B9c {x y z : PyData} {xs : List PyData} {Q : SV -> Prop} : pGet (x :: y :: z :: xs) 2 Q = Q (.d z) := by unfold pGet; rw [at2]
theorem B9b {x y z u : PyData} {xs : List PyData} {Q : SV -> Prop} : pGet (x :: y :: z :: u :: xs) 3 Q = Q (.d u) := by unfold pGet; rw [at3]
theorem D3 {xs : List PyData} {i : Int} {z : PyData} {Q : SV -> Prop} (h : atI xs i = some z) (q : Q (.d z)) : pGet xs i Q := by unfold pGet; rw [h]; exact q
theorem B1t {xs : List Int} {d : Int} (h0 : 0 <= d) (h1 : d < xs.length) : ∃ z, z ∈ xs /\ atI (xs.map PyData.int) d = some (.int z) := by
  obtain ⟨n, rfl⟩ := Int.eq_ofNat_of_zero_le h0
  have hn : n < xs.length := by omega
  refine ⟨xs[n], List.getElem_mem hn, F5 ?_⟩
  rw [List.getElem?_map, List.getElem?_eq_getElem hn]; rfl
theorem E5 {α : Type} {f : α -> PyData} {xs : List α} {n : Nat} {a : α} {Q : SV -> Prop} (h : xs[n]? = some a) (q : Q (.d (f a))) : pGet (xs.map f) (n : Int) Q :=
  D3 (F5 (by rw [List.getElem?_map, h]; rfl)) q
theorem A6z {α : Type} {f : α -> PyData} {xs : List α} {a : α} {Q : SV -> Prop} (h : xs[xs.length - 1]? = some a) (h1 : 1 <= xs.length) (q : Q (.d (f a))) : pGet (xs.map f) (-1) Q := by
  refine D3 (z := f a) ?_ q
  unfold L2.atI ixN
  rw [if_neg (by decide), if_pos (by rw [List.length_map]; omega)]
  show (xs.map f)[((-1 : Int) + ((xs.map f).length : Int)).toNat]? = _
  rw [show ((-1 : Int) + ((xs.map f).length : Int)).toNat = xs.length - 1 by rw [List.length_map]; omega, List.getElem?_map, h]; rfl
end Pu
namespace Pu
open PySem L2 My Prf
theorem pIxT {xs : List PyData} {i : Int} {Q : SV -> Prop} : pIx (.tuple xs) (.int i) Q = pGet xs i Q := rfl
end Pu
namespace L2
open PySem PySem.Spec PyProof.Rows
structure QE (X : Cx) (e : Expr) (t : TE) : Prop where
  out : PE X e  t
structure QT (X : Cx) (e : Expr) (t : TT) : Prop where
  out : PT X e  t
structure QW (X : Cx) (e : Expr) (t : TT) : Prop where
  out : PW X e  t
structure QA (X : Cx) (e : List Expr) (t : TA) : Prop where
  out : PA X e  t
structure QSs (X : Cx) (e : List Stmt) (t : TS) : Prop where
  out : PSs X e  t
structure QS (X : Cx) (e : Stmt) (t : TS) : Prop where
  out : PS X e  t
structure QGs (X : Cx) (e : List Expr) (t : TGs) : Prop where
  out : PGs X e  t
structure QG (X : Cx) (e : Expr) (t : TG) : Prop where
  out : PG X e  t
structure QI (X : Cx) (e e2 : Expr) (t : TI) : Prop where
  out : PI X e e2  t
structure QTs (X : Cx) (e : List Expr) (t : TT) : Prop where
  out : PTs X e  t
structure QO (X : Cx) (e : Option Expr) (t : TO) : Prop where
  out : PO X e  t
section
variable {X : Cx}
theorem qpv (i: Nat) {x : Str} {pos : Pos} (hN: X.N[i]? = some x := by rfl) (hv: Vis X.env.scope x := by first | exact Or.inl rfl | exact Or.inr (Or.inl rfl) | exact Or.inr (Or.inr rfl)) (hd: (x == ("__debug__" : Str)) = false := by decide) (hcd: (x == ("__classdict__" : Str)) = false := by decide) : QE X (.Name x pos) (tVar i) := ⟨pv i hN hv hd hcd⟩
theorem A4 {i j pos} : QE X (.Constant (.int i) j pos) (tC (.int i)) := ⟨D8 ⟩
theorem N8 {b j pos} : QE X (.Constant (.bool b) j pos) (tC (.bl b)) := ⟨C1j ⟩
theorem M7 {j pos} : QE X (.Constant .none j pos) (tC .non) := ⟨B8v ⟩
theorem D1 {x j pos} : QE X (.Constant (.str x) j pos) (tC (.str x)) := ⟨B21 ⟩
theorem B0z {x : Str} {v : V} {u : Value} {pos : Pos} (hg: Gl X x) (hm: X.mg x = some u) (r: RelV v u) (hd: (x == ("__debug__" : Str)) = false := by decide) : QE X (.Name x pos) (tC v) := ⟨A6d hg hm r hd⟩
theorem G2 {x : Str} {v : V} {u : Value} {pos : Pos} (hg: Gl X x) (hm: X.mg x = none) (hv: bootBuiltins x = some u) (r: RelV v u) (hn: x ≠ "__name__" := by decide) (hd: (x == ("__debug__" : Str)) = false := by decide) : QE X (.Name x pos) (tC v) := ⟨A6e hg hm hv r hn hd⟩
theorem B8 {op : Operator} {r : R2} (ho: OpR X (binaryOp op) r) (ha: QE X a ta) (hb: QE X b tb) : QE X (.BinOp a op b pos) (tOp r ta tb) := ⟨K4 ho ha.out hb.out⟩
theorem A2c {op : UnaryOp} {r : V -> Hp -> VK -> Prop} (ho: UnR X (unaryOp op) r) (ha: QE X a ta) : QE X (.UnaryOp op a pos) (tUn r ta) := ⟨C1h ho ha.out⟩
theorem A1i (ha: QE X a ta) : QE X (.UnaryOp .Not a pos) (B5k ta) := ⟨B8u ha.out⟩
theorem J1 {op : CmpOp} {r : R2} (ho: OpR X (compareOp op) r) (ha: QE X a ta) (hb: QE X b tb) (hm: behindInMarks op b = false) : QE X (.Compare a [op] [b] pos) (tOp r ta tb) := ⟨W7 ho ha.out hb.out hm⟩
theorem B9 {op : CmpOp} {r : R2} (ho: OpR X (compareOp op) r) (ha: QE X a ta) (hb: QE X b tb) (hm: behindInMarks op b = false) : QT X (.Compare a [op] [b] pos) (B5i (tOp r ta tb)) := ⟨A5v ho ha.out hb.out hm⟩
theorem O7 {rest : List Expr} (ha: QE X a ta) (hb: QE X (.BoolOp .And (b :: rest) pos) tb) : QE X (.BoolOp .And (a :: b :: rest) pos) (B5m ta tb) := ⟨B24 ha.out hb.out⟩
theorem R4 {op} {t : TE} (h: QE X a t) : QE X (.BoolOp op [a] pos) t := ⟨B22 h.out⟩
theorem W2 {rest : List Expr} (ha: QT X a tA) (hb: QW X (.BoolOp .And (b :: rest) pos) tB') : QW X (.BoolOp .And (a :: b :: rest) pos) (tAnd tA tB') := ⟨B8m ha.out hb.out⟩
theorem Z1 {rest : List Expr} (ha: QT X a tA) (hb: QW X (.BoolOp .Or (b :: rest) pos) tB') : QW X (.BoolOp .Or (a :: b :: rest) pos) (tOr tA tB') := ⟨C1f ha.out hb.out⟩
theorem Q0 (ha: QT X a tA) : QW X (.BoolOp .And [a] pos) tA := ⟨B5x ha.out⟩
theorem W1 (ha: QT X a tA) : QW X (.BoolOp .Or [a] pos) tA := ⟨B8l ha.out⟩
theorem M5 (ha: QT X a tA) : QT X (.UnaryOp .Not a pos) (tNot tA) := ⟨B8n ha.out⟩
theorem F8 {e : Expr} {t : TE} (h: QE X e t) (he: ∀ whole, isTrue e X.env whole = (do let v <- whole; standAt e.pos; holding [v] (truthy v)) := by intro _; rfl) : QT X e (tB t) := ⟨A5u h.out he⟩
theorem Z3 {c : Expr} (hc: QT X c tA) (ha: QE X a ta) (hb: QE X b tb) : QE X (.IfExp c a b pos) (tIf tA ta tb) := ⟨B1d hc.out ha.out hb.out⟩
theorem K5 (hc: X.calm = true) (C: CompSc X scope cl N' cap) (hi: QI X tg iter wi) (hg: ∀ s3 H3 fp, QG (X.block scope cl N' s3 H3 fp) tg g) (ht: ∀ s3 H3 fp, QTs (X.block scope cl N' s3 H3 fp) ifs tt) (he: ∀ s3 H3 fp, QE (X.block scope cl N' s3 H3 fp) elt te) (hs: ∀ x, foldedSetIterable iter X.env x = pure x := by intro _; rfl) : QE X (.ListComp elt [⟨tg, iter, ifs, 0⟩] scope pos) (A37 wi g tt te cap) := ⟨B6b hc C hi.out (fun a b c => (hg a b c).out) (fun a b c => (ht a b c).out) (fun a b c => (he a b c).out) hs⟩
theorem G9 (hc: X.calm = true) (hN: X.N.Nodup) (hi: X.N[i]? = some y) (hy: X.env.scope.names.lookup y = some .local) (C: CompSc X scope cl N' cap) (hit: QI X tg iter wi) (hg: ∀ s3 H3 fp, QG (X.block scope cl N' s3 H3 fp) tg g) (ht: ∀ s3 H3 fp, QTs (X.block scope cl N' s3 H3 fp) ifs tt) (he: ∀ s3 H3 fp, QE (X.block scope cl N' s3 H3 fp) elt te) (hsw: swapsWith (.ListComp elt [⟨tg, iter, ifs, 0⟩] scope pos) (some (.Name y py)) spos.line X.env = pure true) (hs: ∀ x, foldedSetIterable iter X.env x = pure x := by intro _; rfl) : QS X (.Assign [.Name y py] (.ListComp elt [⟨tg, iter, ifs, 0⟩] scope pos) spos) (V7 wi g tt te cap i) := ⟨A4b hc hN hi hy C hit.out (fun a b c => (hg a b c).out) (fun a b c => (ht a b c).out) (fun a b c => (he a b c).out) hsw hs⟩
theorem C5 {x1} (h: QA X es t) : QE X (.Tuple es x1 pos) (tTup t) := ⟨B20 h.out⟩
theorem D6 (h: QA X es t) : QE X (.List es pos) (tLst t) := ⟨B23 h.out⟩
theorem L9 {lo hi : Option Expr} {r : V -> Option Int -> Option Int -> Hp -> VK -> Prop} (hr: SlR X r) (he: QE X e te) (hl: QO X lo tl) (hu: QO X hi th) : QE X (.Subscript e (.Slice lo hi none p2) pos) (tSl r te tl th) := ⟨B1c hr he.out hl.out hu.out⟩
theorem N7  : QO X none A1e := ⟨B55 ⟩
theorem N6 (h: QE X e te) : QO X (some e) (B5j te) := ⟨B54 h.out⟩
theorem B2 {r : R2} (hr: IxR X r) (ha: QE X a ta) (hb: QE X b tb) (hs: B0k b) : QE X (.Subscript a b pos) (tOp r ta tb) := ⟨W6 hr ha.out hb.out hs⟩
theorem A7 (F: FnOk X.prog X.w X.K X.mg X.base CX k f fd ps sp) (hr: Room k X.A) (hg: Gl X x) (hm: X.mg x = some (.ref f)) (hk: PySem.W.keepIn X.K (.ref f) = true) (hb: Binds X.K fd ps ds) (hd: Vals dvs ds) (hx: V6 CX X E) (ha: QA X (e :: es) t) (hdb: (x == ("__debug__" : Str)) = false := by decide) (he: starEach (e :: es) X.env = (false, eval e X.env) :: starEach es X.env := by rfl) (hpl: (backTo pos (starEach es X.env)).any (·.1) = false := by rfl) : QE X (.Call (.Name x p) (e :: es) [] pos) (A38 sp dvs E t) := ⟨B6c F hr hg hm hk hb hd hx ha.out hdb he hpl⟩
theorem B7 {id : String} (hc: CallR X (.builtin id) r) (hg: Gl X x) (hm: X.mg x = none) (hv: bootBuiltins x = some (.builtin id)) (ha: QA X (e :: es) t) (hn: x ≠ "__name__" := by decide) (hdb: (x == ("__debug__" : Str)) = false := by decide) (he: starEach (e :: es) X.env = (false, eval e X.env) :: starEach es X.env := by rfl) (hpl: (backTo pos (starEach es X.env)).any (·.1) = false := by rfl) : QE X (.Call (.Name x p) (e :: es) [] pos) (tCB r t) := ⟨Q2 hc hg hm hv ha.out hn hdb he hpl⟩
theorem F7 (hc: CallR X (.type T) r) (hg: Gl X x) (hm: X.mg x = none) (hv: bootBuiltins x = some (.type T)) (ha: QA X (e :: es) t) (hn: x ≠ "__name__" := by decide) (hdb: (x == ("__debug__" : Str)) = false := by decide) (he: starEach (e :: es) X.env = (false, eval e X.env) :: starEach es X.env := by rfl) (hpl: (backTo pos (starEach es X.env)).any (·.1) = false := by rfl) : QE X (.Call (.Name x p) (e :: es) [] pos) (tCB r t) := ⟨Z7 hc hg hm hv ha.out hn hdb he hpl⟩
theorem K2 {K : PySem.W.Frag} (hK : X.K = K) {id : String} (pa: PlainAttrs T) (slot: Slot T name id) (hty: typeOf (.builtin id) = pure (.type "method_descriptor")) (hm: MtR X id r) (ho: QE X o to) (ha: QA X (e :: es) t) (hbase: attributeBase o name X.env (eval o X.env) = eval o X.env := by rfl) (hfew: ((backTo cpos (starEach (e :: es) X.env)).all (fun x => !x.1) && (backToKw cpos (keywordEach [] X.env)).all (fun x => x.1.isSome)
      && decide ((e :: es).length + ([] : List Keyword).length + (if ([] : List Keyword).isEmpty then 0 else 1) < 30)) = true := by rfl) (hline: (apos.endLine == cpos.line) = true := by rfl) (hs: starEach (e :: es) X.env = (false, eval e X.env) :: starEach es X.env := by rfl) (hplain: (backTo cpos (starEach es X.env)).any (·.1) = false := by rfl) : QE X (.Call (.Attribute o name apos) (e :: es) [] cpos) (tBM K T r to t) := by subst hK; exact ⟨C1i pa slot hty hm ho.out ha.out hbase hfew hline hs hplain⟩
theorem A3  : QA X [] tNil := ⟨O0 ⟩
theorem A0 (ha: QE X e te) (hr: QA X es t) (hs: starEach (e :: es) X.env = (false, eval e X.env) :: starEach es X.env := by rfl) : QA X (e :: es) (K1 te t) := ⟨I0 ha.out hr.out hs⟩
theorem C3  : QSs X [] B5l := ⟨W5 ⟩
theorem B1 {st : Stmt} (h1: QS X st t) : QSs X [st] t := ⟨O8 h1.out⟩
theorem A6 {st : Stmt} {rest : List Stmt} (h1: QS X st t) (h2: QSs X rest u) : QSs X (st :: rest) (tSeq t u) := ⟨G3 h1.out h2.out⟩
theorem Z2 {st : Stmt} : QS X st A16 := ⟨B03 ⟩
theorem B6 (he: QE X e te) : QS X (.Return (some e) pos) (tRet te) := ⟨Z4 he.out⟩
theorem J8 (he: QE X e te) (hs: swapsWith e none pos.line X.env = pure false := by rfl) : QS X (.Expr e pos) (B0t te) := ⟨B51 he.out hs⟩
theorem D9 {c : Expr} {a b : List Stmt} {tc : TT} (hc: QT X c tc) (ha: QSs X a t) (hb: QSs X b u) : QS X (.If c a b pos) (tIfS tc t u) := ⟨B04 hc.out ha.out hb.out⟩
theorem N5 {c : Expr} {body : List Stmt} {tc : TT} {tb : TS} (hp: PassesOwn (model X.prog X.w) X.A X.env X.xe) (hc: QT X c tc) (hb: QSs X body tb) : QS X (.While c body [] pos) (A5c tc tb) := ⟨B00 hp hc.out hb.out⟩
theorem G6 {iter : Expr} {body : List Stmt} {wi : TI} {g : TG} {tb : TS} {pos : Pos} (hp: PassesOwn (model X.prog X.w) X.A X.env X.xe) (hc: X.calm = true) (hi: QI X tg iter wi) (hg: QG X tg g) (hb: QSs X body tb) (hs: ∀ x, foldedSetIterable iter X.env x = pure x := by intro _; rfl) : QS X (.For tg iter body [] pos) (tFor wi g tb) := ⟨B2z hp hc hi.out hg.out hb.out hs⟩
theorem B3 {i : Nat} {x : Str} {e : Expr} {te : TE} {pos' : Pos} (hN: X.N.Nodup) (hi: X.N[i]? = some x) (hx: Loc X.env.scope x) (he: QE X e te) (hs: swapsWith e (some (.Name x pos')) pos.line X.env = pure false := by rfl) (hf: X.fn x = true \/ X.env.scope.names.lookup x = some .local := by first | exact .inl rfl | exact .inr rfl | assumption) : QS X (.Assign [.Name x pos'] e pos) (tAsg te (T5 i)) := ⟨U0 hN hi hx he.out hs hf⟩
theorem R3 {i j : Nat} {x y : Str} {a b : Expr} {ta : TA} {px py pt : Pos} {kt k2 pt2} (hc: X.calm = true) (hN: X.N.Nodup) (hi: X.N[i]? = some x) (hj: X.N[j]? = some y) (hij: i ≠ j) (hx: X.env.scope.names.lookup x = some .local) (hy: X.env.scope.names.lookup y = some .local) (ha: QA X [a, b] ta) (hw: swappedStores [.Tuple [.Name x px, .Name y py] kt pt] (.Tuple [a, b] k2 pt2) X.env = pure (some [x, y])) (hs: swapsWithSole [.Tuple [.Name x px, .Name y py] kt pt] (.Tuple [a, b] k2 pt2) pos.line X.env = pure false := by rfl) : QS X (.Assign [.Tuple [.Name x px, .Name y py] kt pt] (.Tuple [a, b] k2 pt2) pos) (tPar i j ta) := ⟨B8q hc hN hi hj hij hx hy ha.out hw hs⟩
theorem M6 {tg e : Expr} {te : TE} {g : TG} (he: QE X e te) (hg: QG X tg g) (hs: swapsWithSole [tg] e pos.line X.env = pure false := by rfl) (hw: swappedStores [tg] e X.env = pure none := by rfl) (h1: (assignEach [tg] X.env).map (·.2) = [assign tg X.env] := by rfl) : QS X (.Assign [tg] e pos) (tAsg te g) := ⟨A2f he.out hg.out hs hw h1⟩
theorem B5 {i : Nat} {x : Str} (hN: X.N.Nodup) (hi: X.N[i]? = some x) (hx: Loc X.env.scope x) (hf: X.fn x = true \/ X.env.scope.names.lookup x = some .local := by first | exact .inl rfl | exact .inr rfl | assumption) : QG X (.Name x pos) (T5 i) := ⟨A6a hN hi hx hf⟩
theorem G0  : QGs X [] gNil := ⟨B59 ⟩
theorem C2 {e : Expr} {es : List Expr} {t : TG} {u : TGs} (h1: QG X e t) (h2: QGs X es u) (hs: (assignEach (e :: es) X.env).map (·.2) = assign e X.env :: (assignEach es X.env).map (·.2) := by rfl) : QGs X (e :: es) (A1q t u) := ⟨B1b h1.out h2.out hs⟩
theorem G1 {K : PySem.W.Frag} {pos : Pos} {es : List Expr} {k : Nat} {t : TGs} {n : Nat} (h: X.K = K) (hc: X.calm = true) (hg: QGs X es t) (hn: (assignEach es X.env).length = n := by rfl) (hst: (assignEach es X.env).findIdx? (·.1) = none := by rfl) : QG X (.Tuple es k pos) (gTup K n t) := ⟨B6a h hc hg.out hn hst⟩
theorem F6 {a : Expr} {ta : TA} {p pos : Pos} (hg: Gl X "range") (hm: X.mg "range" = none) (ha: QA X [a] ta) (hs: starEach [a] X.env = [(false, eval a X.env)] := by rfl) : QI X tg (.Call (.Name "range" p) [a] [] pos) (B7b ta) := ⟨Z6 hg hm ha.out hs⟩
theorem F1 {K : PySem.W.Frag} {l : Expr} {tl : TE} (h: X.K = K) (hl: QE X l tl) : QI X tg l (iSq K tl) := ⟨B8s h hl.out⟩
theorem G8 {X : Cx} : QTs X [] tYes := ⟨B5z ⟩
theorem Q1 {X : Cx} {c : Expr} {t : TT} (h: QT X c t) : QTs X [c] t := ⟨B5y h.out⟩
theorem QW.pt {X : Cx} {e : Expr} {t : TT} (h : QW X e t) : QT X e t := ⟨h.out.pt⟩
end
end L2
namespace Pu
open PySem L2 My Prf
theorem A9w (n : Int) : PyData.tuple [.int n, .int 1] = dq (n : Rat) := by
  unfold dq; rw [Rat.num_intCast, Rat.den_intCast]; rfl
theorem V9 {k : Nat} {n : Int} (h : Sm k n) : SmR k 1 (n : Rat) := ⟨by rw [Rat.num_intCast]; exact h, by rw [Rat.den_intCast]; unfold Sm; decide⟩
theorem B5o {k : Nat} {q : Rat} (h : SmR k 1 q) : q.den = 1 := by
  have h1 : (q.den : Int).natAbs < 2 ^ 1 := h.2
  have h2 := q.den_nz
  omega
theorem C0h {n : Int} (h : 0 <= n) : (0 : Rat) <= (n : Rat) := Rat.intCast_nonneg.mpr h
theorem C0g {n : Int} (h : 0 < n) : (0 : Rat) < (n : Rat) := Rat.intCast_pos.mpr h
theorem A5f {z : Int} (h0 : 0 <= z) (h1 : z <= 1000000000000000000) : Sm 4000 z := Sm.mono (k := 64) (L6 (B := 1000000000000000000) (by omega) (by omega) (by decide)) (by decide)
theorem A2o {c : Rat × Rat} {Q : SV -> Prop} : pIx (dcn c) (.int 0) Q = Q (.d (dq c.1)) := by unfold dcn; rw [pIxT, B6w]
theorem A2n {c : Rat × Rat} {Q : SV -> Prop} : pIx (dcn c) (.int 1) Q = Q (.d (dq c.2)) := by unfold dcn; rw [pIxT, B6v]
theorem Q3 {lo : Int} {n : Nat} {pg : PyData -> PEnv -> (PEnv -> Prop) -> Prop} {pt : PTt} {pd : PDt} {e0 : PEnv} {Fin : List PyData -> Prop} (Pv : Nat -> PEnv -> List PyData -> Prop) (h0 : Pv 0 e0 [])
    (hs : ∀ (i : Nat) e ys, i < n -> Pv i e ys -> pg (.int (lo + (i : Int))) e fun e2 => pt e2 fun b e3 => if b = true then pd e3 fun y e4 => Pv (i + 1) e4 (ys ++ [y]) else Pv (i + 1) e3 ys) (hd : ∀ e ys, Pv n e ys -> Fin ys) : M8 (rngD lo n) pg pt pd e0 Fin :=
  ⟨Pv, h0, fun i x e ys hx hi => by obtain ⟨h1, rfl⟩ := A2b hx; exact hs i e ys h1 hi, fun e ys h => hd e ys (by rwa [J7] at h)⟩
theorem X5 {α : Type} {f : α -> PyData} {xs : List α} {pg : PyData -> PEnv -> (PEnv -> Prop) -> Prop} {pt : PTt} {pd : PDt} {e0 : PEnv} {Fin : List PyData -> Prop} (Pv : Nat -> PEnv -> List PyData -> Prop) (h0 : Pv 0 e0 [])
    (hs : ∀ (i : Nat) a e ys, xs[i]? = some a -> Pv i e ys -> pg (f a) e fun e2 => pt e2 fun b e3 => if b = true then pd e3 fun y e4 => Pv (i + 1) e4 (ys ++ [y]) else Pv (i + 1) e3 ys) (hd : ∀ e ys, Pv xs.length e ys -> Fin ys) : M8 (xs.map f) pg pt pd e0 Fin := by
  refine ⟨Pv, h0, fun i x e ys hx hi => ?_, fun e ys h => hd e ys (by rwa [List.length_map] at h)⟩
  rw [List.getElem?_map] at hx
  cases ha : xs[i]? with
  | none => rw [ha] at hx; cases hx
  | some a => rw [ha] at hx; cases hx; exact hs i a e ys ha hi
theorem K8 {α : Type} {f : α -> PyData} {xs : List α} {pg : PyData -> PEnv -> (PEnv -> Prop) -> Prop} {pb : PSt} {D : PEnds} {env : PEnv} (Iv : Nat -> PEnv -> Prop) (h0 : Iv 0 env)
    (hs : ∀ (i : Nat) a e, xs[i]? = some a -> Iv i e -> pg (f a) e fun e2 => pb ⟨Iv (i + 1), D.rt, D.nx, Iv (i + 1)⟩ e2) (hd : ∀ e, Iv xs.length e -> D.nx e) : A60 (xs.map f) pg pb D env := by
  refine ⟨Iv, h0, fun i x e hx hi => ?_, fun e h => hd e (by rwa [List.length_map] at h)⟩
  rw [List.getElem?_map] at hx
  cases ha : xs[i]? with
  | none => rw [ha] at hx; cases hx
  | some a => rw [ha] at hx; cases hx; exact hs i a e ha hi
theorem A49 : PyData.tuple [.int 2, .int 3] = dq (Rat.divInt 2 3) := by
  unfold dq
  rw [show (Rat.divInt 2 3).num = 2 by decide +kernel, show (Rat.divInt 2 3).den = 3 by decide +kernel]; rfl
theorem A9k : PyData.tuple [.int 1, .int 2] = dq (Rat.divInt 1 2) := by
  unfold dq
  rw [show (Rat.divInt 1 2).num = 1 by decide +kernel, show (Rat.divInt 1 2).den = 2 by decide +kernel]; rfl
end Pu
namespace Pu
open PySem L2 My Prf
theorem T1 {ms : List Rat} {i : Nat} {m : Rat} (h : ms[i]? = some m) : My.S (ms.take (i + 1)) = My.S (ms.take i) + m := by
  rw [List.take_add_one, h, C19]; show _ + (m + 0) = _; rw [Rat.add_zero]
theorem sm_zero : SmR 1 1 (0 : Rat) := ⟨by unfold Sm; decide, by unfold Sm; decide⟩
end Pu
namespace Pu
open PySem L2 My Prf
theorem A30 {q : Rat} {k : List PyData -> Prop} : P7 (dq q) k = k [.int q.num, .int (q.den : Int)] := rfl
theorem A6q {q : Rat} {Q : SV -> Prop} : pLen [dq q] Q = Q (.d (.int 2)) := rfl
theorem Z8 {xs : List PyData} {Q : SV -> Prop} : pLen [.list xs] Q = Q (.d (.int xs.length)) := rfl
theorem A2m {xs : List PyData} {Q : SV -> Prop} : pLen [.tuple xs] Q = Q (.d (.int xs.length)) := rfl
theorem A9t : PyData.eqv (.list []) (.list []) = true := rfl
theorem A8g : (PyData.list []).canLay0 = true := rfl
theorem A9y : (PyData.list []).depth = 1 := rfl
end Pu
namespace Pu
open PySem L2 My Prf
theorem A47 {i : Int} : tyD (.int i) = "int" := rfl
theorem A14 {b : Bool} : tyD (.bool b) = "bool" := rfl
theorem A46 {s : Str} : tyD (.str s) = "str" := rfl
theorem A11 : tyD .none = "NoneType" := rfl
theorem A12 {xs : List PyData} : tyD (.list xs) = "list" := rfl
theorem A45 {xs : List PyData} : tyD (.tuple xs) = "tuple" := rfl
theorem A48 {c : Rat × Rat} : tyD (dcn c) = "tuple" := rfl
theorem V4 {xs : List PyData} {k : List PyData -> Prop} : P7 (.list xs) k = k xs := rfl
theorem A1a {xs : List PyData} {k : List PyData -> Prop} : P7 (.tuple xs) k = k xs := rfl
theorem A1b {c : Rat × Rat} {k : List PyData -> Prop} : P7 (dcn c) k = k [dq c.1, dq c.2] := rfl
theorem A0h : isNo .none = true := rfl
theorem A3g {i : Int} : isNo (.int i) = false := rfl
theorem A0j {b : Bool} : isNo (.bool b) = false := rfl
theorem A3f {s : Str} : isNo (.str s) = false := rfl
theorem A0i {xs : List PyData} : isNo (.list xs) = false := rfl
theorem A3e {xs : List PyData} : isNo (.tuple xs) = false := rfl
end Pu
namespace Pu
open PySem L2 My Prf
end Pu
namespace L2
open PySem PySem.Spec PyProof.Rows
section
variable {X : Cx} {pins : List (Addr × Obj)} {σ : St} {H : Hp} {s : Shared} {h' : Heap}
theorem Inv.turnL {t' : Nat} {wr : List Addr} (I : Inv X pins σ H s) (k : ∀ b o, b ∉ wr -> s.heap.get? b = some o -> h'.get? b = some o) (hf : ∀ b ∈ wr, FpOk X pins H b) : Inv X pins σ H { s with heap := h', toks := t' } := by
  have nw : ∀ b u, H b = some u -> b ∉ wr := fun b u e z => by have := (hf b z).1; rw [e] at this; cases this
  refine I.call (g' := s.gens) (d' := s.drawn) (ch := wr) ⟨fun b o e _ _ hb => k b o hb e, fun b o e _ _ hb => ⟨o.slots, k b o hb e⟩, fun _ _ _ n _ => n, fun b o e hb => ⟨o, k b o hb e⟩, fun _ _ e => e, fun _ _ _ e => e, fun b ps e => ⟨#[], by rw [e]; simp⟩⟩ (fun b u e => ?_) I.bare fun b hb => ?_
  · refine (I.hok b u e).stay (fun c v hc q => k c v ?_ q) (fun _ q => q) fun _ _ q => q
    rcases hc with z | z
    · rw [z]; exact nw b u e
    · exact nw c _ z
  · have f := hf b hb
    exact ⟨f.2.2.2.1, f.2.1, f.2.2.2.2.1, f.2.2.2.2.2⟩
theorem Inv.laidL {t' : Nat} {wr : List Addr} {T : Addr} {o : HO} (I : Inv X pins σ H s) (k : ∀ b u, b ∉ wr -> s.heap.get? b = some u -> h'.get? b = some u) (hf : ∀ b ∈ wr, FpOk X pins H b) (hp : s.heap.objs.size <= T) (new : ObjOk X.prog X.w (upd H T o) h' T o) :
    Inv X pins σ (upd H T o) { s with heap := h', toks := t' } := by
  have hn := I.hok.fresh hp
  have nw : ∀ b u, H b = some u -> b ∉ wr := fun b u e z => by have := (hf b z).1; rw [e] at this; cases this
  refine I.call (g' := s.gens) (d' := s.drawn) (ch := wr) ⟨fun b u e _ _ hb => k b u hb e, fun b u e _ _ hb => ⟨u.slots, k b u hb e⟩, fun b u e n _ => by rw [C9 (Nat.ne_of_lt (Nat.lt_of_lt_of_le (Heap.lt_size e) hp))]; exact n, fun b u e hb => ⟨u, k b u hb e⟩,
    fun b xs e => by rw [C9 (D5 e hn)]; exact e, fun b u xs e => by rw [C9 (D5 e hn)]; exact e, fun b ps e => ⟨#[], by rw [C9 (D5 e hn), e]; simp⟩⟩ (fun b u e => ?_) I.bare fun b hb => ?_
  · by_cases hb : b = T
    · subst hb; rw [C8] at e; cases e; exact new
    · rw [C9 hb] at e
      refine (I.hok b u e).stay (fun c v hc q => k c v ?_ q) (fun c q => by rw [C9 (D5 q hn)]; exact q) fun c xs q => by rw [C9 (D5 q hn)]; exact q
      rcases hc with z | z
      · rw [z]; exact nw b u e
      · exact nw c _ z
  · have f := hf b hb
    exact ⟨f.2.2.2.1, f.2.1, f.2.2.2.2.1, f.2.2.2.2.2⟩
end
def Itz (K : PySem.W.Frag) (l1 l2 : Addr) : It :=
  ⟨fun i H => ∃ xs ys x y, SqL K H l1 xs /\ SqL K H l2 ys /\ xs[i]? = some x /\ ys[i]? = some y,
   fun i H v H' => ∃ T x y, v = .ref T /\ H T = none /\ H' = upd H T (.tup [x, y]) /\ (∀ xs, SqL K H l1 xs -> xs[i]? = some x) /\ ∀ ys, SqL K H l2 ys -> ys[i]? = some y,
   fun i H => ∃ xs ys, SqL K H l1 xs /\ SqL K H l2 ys /\ (xs.length <= i \/ ys.length <= i)⟩
theorem N0 : ∀ {xs : List V} {us : List Value} {i : Nat} {x : V}, Vals xs us -> xs[i]? = some x -> ∃ u, us[i]? = some u /\ RelV x u
  | _, _, _, _, .nil, e => by simp at e
  | _, _, 0, _, .cons h _, e => by simp at e; subst e; exact ⟨_, rfl, h⟩
  | _, _, i + 1, x, .cons _ t, e => by
    obtain ⟨u, h1, h2⟩ := N0 (i := i) (x := x) t (by simpa using e)
    exact ⟨u, by simpa using h1, h2⟩
theorem A15 {P : Program} {w : World} {K : PySem.W.Frag} {es : List Expr} {kk : Nat} {tp : Pos} {z TI TO i1 i2 l1 l2 : Addr} (D : ZipApart z TI TO i1 i2 l1 l2) :
    Turn P w K (.Tuple es kk tp) (Itz K l1 l2) [z, TI, TO, i1, i2] z (fun i h => IsZip h z TI TO .none /\ IsPair h TI (.ref i1) (.ref i2) /\ (∃ a b, IsPair h TO a b) /\ h.IsListIter i1 l1 i /\ h.IsListIter i2 l2 i) where
  mem := List.mem_cons_self
  obj := fun i h st b hb => by
    obtain ⟨hz, hTI, ⟨a, c, hTO⟩, ⟨o1, g1, k1, d1⟩, ⟨o2, g2, k2, d2⟩⟩ := st
    simp only [List.mem_cons, List.mem_nil_iff, or_false] at hb
    rcases hb with rfl | rfl | rfl | rfl | rfl
    · exact ⟨_, hz, fun v q => Data.noConfusion (show Data.fields _ = Data.cell v from q)⟩
    · exact ⟨_, hTI, fun v q => Data.noConfusion (show Data.seq _ _ = Data.cell v from q)⟩
    · exact ⟨_, hTO, fun v q => Data.noConfusion (show Data.seq _ _ = Data.cell v from q)⟩
    · exact ⟨_, g1, fun v q => by rw [d1] at q; cases q⟩
    · exact ⟨_, g2, fun v q => by rw [d2] at q; cases q⟩
  keep := fun i h h' st k => by
    obtain ⟨hz, hTI, ⟨a, c, hTO⟩, h1, h2⟩ := st
    exact ⟨k z (by simp) _ hz, k TI (by simp) _ hTI, ⟨a, c, k TO (by simp) _ hTO⟩, h1.at fun o e => k i1 (by simp) o e, h2.at fun o e => k i2 (by simp) o e⟩
  item := by
    intro X hP hw hK hc i pins s σ H E I hf st hg
    subst hP hw hK
    obtain ⟨hz, hTI, ⟨a, c, hTO⟩, h1, h2⟩ := st
    obtain ⟨xs, ys, x, y, q1, q2, ex, ey⟩ := hg
    obtain ⟨its1, r1, p1, _⟩ := I.list q1
    obtain ⟨its2, r2, p2, _⟩ := I.list q2
    obtain ⟨u1, e1, ru1⟩ := N0 r1 ex
    obtain ⟨u2, e2, ru2⟩ := N0 r2 ey
    refine wpAny_pyNext_zip_item D hz hTI hTO h1 h2 p1.isList p2.isList (by simpa using e1) (by simpa using e2) fun h' a1 a2 a3 a4 a5 a6 hk => ⟨_, rfl, ?_⟩
    refine wpAny_letOwnedTupleGo_zip a1 fun h'' b1 sb => ?_
    have lt : ∀ {b o}, s.heap.get? b = some o -> s.heap.objs.size ≠ b := fun e => Nat.ne_of_gt (Heap.lt_size e)
    have k2 : ∀ b o, b ∉ [z, TO, i1, i2] -> s.heap.get? b = some o -> h''.get? b = some o := fun b o hb e => by
      simp only [List.mem_cons, List.mem_nil_iff, or_false, not_or] at hb
      exact (sb.2 b hb.1).trans (hk b o hb.1 hb.2.1 hb.2.2.1 hb.2.2.2 e)
    have I2 : Inv X pins σ (upd H s.heap.objs.size (.tup [x, y])) { s with heap := h'', toks := s.toks } := by
      refine I.laidL (wr := [z, TO, i1, i2]) k2 (fun b hb => hf b ?_) (Nat.le_refl _) ⟨by show 2 <= sizeLine; decide, [u1, u2], .cons ru1 (.cons ru2 .nil), ?_⟩
      · simp only [List.mem_cons, List.mem_nil_iff, or_false] at hb ⊢
        rcases hb with q | q | q | q <;> simp [q]
      · exact ⟨_, (sb.2 _ (lt hz)).trans a5, rfl, _, rfl⟩
    refine ⟨.ref s.heap.objs.size, _, I2, rfl, ⟨_, x, y, rfl, I.fresh, rfl, fun zs hzs => by rw [I.list_inj hzs q1]; exact ex, fun zs hzs => by rw [I.list_inj hzs q2]; exact ey⟩, ⟨b1, (sb.2 _ D.TIz).trans (hk _ _ D.TIz D.TITO D.TIi1 D.TIi2 hTI), ⟨_, _, (sb.2 _ D.TOz).trans a2⟩, a3.at fun o e => (sb.2 _ D.i1z).trans e, a4.at fun o e => (sb.2 _ D.i2z).trans e⟩, fun b hb => ?_⟩
    have : b ≠ s.heap.objs.size := by
      simp only [List.mem_cons, List.mem_nil_iff, or_false] at hb
      obtain ⟨_, g1, _⟩ := h1
      obtain ⟨_, g2, _⟩ := h2
      rcases hb with rfl | rfl | rfl | rfl | rfl
      · exact (lt hz).symm
      · exact (lt hTI).symm
      · exact (lt hTO).symm
      · exact (lt g1).symm
      · exact (lt g2).symm
    rw [C9 this]; exact (hf b hb).1
  done := by
    intro X hP hw hK hc i pins s σ H E I hf st hg
    subst hP hw hK
    obtain ⟨hz, hTI, ⟨a, c, hTO⟩, h1, h2⟩ := st
    obtain ⟨xs, ys, q1, q2, hl⟩ := hg
    obtain ⟨its1, r1, p1, _⟩ := I.list q1
    obtain ⟨its2, r2, p2, _⟩ := I.list q2
    have n1 := r1.length
    have n2 := r2.length
    refine wpAny_pyNext_zip_end (I.ok.hd hc) D hz hTI hTO h1 h2 p1.isList p2.isList (hl.imp (fun q => by simp; omega) fun q => by simp; omega) fun h' hk => ⟨rfl, ?_⟩
    refine I.turnL (t' := s.toks) (wr := [z, TO, i1, i2]) (fun b o hb e => ?_) (fun b hb => hf b ?_)
    · simp only [List.mem_cons, List.mem_nil_iff, or_false, not_or] at hb
      exact hk b o hb.1 hb.2.1 hb.2.2.1 hb.2.2.2 e
    · simp only [List.mem_cons, List.mem_nil_iff, or_false] at hb ⊢
      rcases hb with q | q | q | q <;> simp [q]
  self := fun _ _ _ _ _ st h => wpAny_pyIter_zip st.1 h
section
variable {X : Cx}
def iZip (K : PySem.W.Frag) (ta : TA) : TI := fun σ H R => ta σ H fun vs H1 => ∃ l1 l2 xs ys, vs = [.ref l1, .ref l2] /\ SqL K H1 l1 xs /\ SqL K H1 l2 ys /\ R (Itz K l1 l2) H1
theorem B58 {K : PySem.W.Frag} {a b : Expr} {ta : TA} {p pos : Pos} {es : List Expr} {kk : Nat} {tp : Pos} (hK : X.K = K) (hg : Gl X "zip") (hm : X.mg "zip" = none) (ha : PA X [a, b] ta)
    (hs : starEach [a, b] X.env = [(false, eval a X.env), (false, eval b X.env)] := by rfl) (hs2 : starEach [b] X.env = [(false, eval b X.env)] := by rfl) : PI X (.Tuple es kk tp) (.Call (.Name "zip" p) [a, b] [] pos) (iZip K ta) := by
  subst hK
  intro pins s σ H R I h
  refine Call_ (S3 I hg hm boot_zip (PyProof.Rows.callWith_type1 (thn (ha pos pins s σ H _ I h) fun us s1 ⟨vs, H1, I1, r1, q1⟩ => ?_) (hs.trans (by rw [hs2])) (by rw [hs2]; rfl)))
  obtain ⟨l1, l2, xs, ys, e, g1, g2, q⟩ := q1
  subst e
  obtain ⟨u, v, rfl, ru, rv⟩ := Vals.two r1
  cases (show u = Value.ref l1 from ru)
  cases (show v = Value.ref l2 from rv)
  obtain ⟨its1, _, p1, _⟩ := I1.list g1
  obtain ⟨its2, _, p2, _⟩ := I1.list g2
  refine call_zip_2 p1.isList p2.isList fun h' a1 a2 a3 a4 a5 a6 hk => wpAny_pyIter_zip a1 ?_
  have lt1 : (show Nat from l1) < s1.heap.objs.size := by obtain ⟨o, _, ho, _⟩ := p1; exact Heap.lt_size ho
  have lt2 : (show Nat from l2) < s1.heap.objs.size := by obtain ⟨o, _, ho, _⟩ := p2; exact Heap.lt_size ho
  have I2 : Inv X pins σ H1 { s1 with heap := h' } := I1.kept (t' := s1.toks) hk
  have D : ZipApart (s1.heap.objs.size + 4) (s1.heap.objs.size + 2) (s1.heap.objs.size + 3) s1.heap.objs.size (s1.heap.objs.size + 1) l1 l2 := by
    generalize s1.heap.objs.size = n at lt1 lt2
    have g : ∀ a b : Nat, a < b -> a ≠ b := fun a b q => Nat.ne_of_lt q
    have g' : ∀ a b : Nat, b < a -> a ≠ b := fun a b q => Nat.ne_of_gt q
    constructor <;> first | exact g _ _ (Nat.lt_trans lt1 (by omega)) | exact g _ _ (Nat.lt_trans lt2 (by omega)) | exact g _ _ lt1 | exact g _ _ lt2 | exact g _ _ (by omega) | exact g' _ _ (by omega)
  refine ⟨_, [s1.heap.objs.size + 4, s1.heap.objs.size + 2, s1.heap.objs.size + 3, s1.heap.objs.size, s1.heap.objs.size + 1], _, _, H1, rfl, I2, A15 D, ⟨a1, a2, ⟨_, _, a3⟩, a4, a5⟩, fun b hb => ?_, q⟩
  have hb' : s1.heap.objs.size <= b := by
    simp only [List.mem_cons, List.mem_nil_iff, or_false] at hb
    rcases hb with rfl | rfl | rfl | rfl | rfl <;> omega
  exact I1.fpOk hb' (I1.hok.fresh hb')
theorem W3 {K : PySem.W.Frag} {a b : Expr} {ta : TA} {p pos : Pos} {es : List Expr} {kk : Nat} {tp : Pos} (hK : X.K = K) (hg : Gl X "zip") (hm : X.mg "zip" = none) (ha : QA X [a, b] ta)
    (hs : starEach [a, b] X.env = [(false, eval a X.env), (false, eval b X.env)] := by rfl) (hs2 : starEach [b] X.env = [(false, eval b X.env)] := by rfl) : QI X (.Tuple es kk tp) (.Call (.Name "zip" p) [a, b] [] pos) (iZip K ta) := ⟨B58 hK hg hm ha.out hs hs2⟩
end
end L2
namespace Pu
open PySem L2 My Prf
class RL (K : Frag) (te : TE) (pl : outParam PAr) : Prop where
  ok : ∀ (c : Ct) (w : Wd) (env : PEnv) (σ : St) (Qp : List PyData -> PEnv -> Prop) (Q : VK), c.K = K -> EnvOk c w env σ -> pl env Qp -> (∀ v xs env' w', EnvOk c w' env' σ -> Lw w w' -> VR c w' v (.bor xs) -> Qp xs env' -> Q v w'.H) -> te σ w.H Q
def B6r (pd : PDt) (env : PEnv) (Q : List PyData -> PEnv -> Prop) : Prop := pd env fun x e => asL x fun xs => Q xs e
def B6p (i : Nat) (env : PEnv) (Q : List PyData -> PEnv -> Prop) : Prop := match env[i]? with
  | some (some (.d x)) => asL x fun xs => Q xs env
  | some (some (.own xs)) => Q xs (env.set i (some (.d (.list xs))))
  | some (some (.bor xs)) => Q xs env
  | _ => False
instance (priority := low) rl_of {K : Frag} {te : TE} {pd : PDt} [h : RD K te pd] : RL K te (B6r pd) where
  ok := by
    rintro c w env σ Qp Q rfl E p k
    refine h.ok c w env σ _ _ rfl E p fun v x e1 w1 E1 l1 d1 q1 => ?_
    unfold asL at q1
    split at q1
    · exact k v _ e1 w1 E1 l1 (.inl d1) q1
    · exact q1.elim
instance rl_var {K : Frag} {i : Nat} : RL K (tVar i) (B6p i) where
  ok := by
    rintro c w env σ Qp Q rfl E p k
    unfold B6p at p
    split at p
    · rename_i x e
      obtain ⟨v, h1, h2⟩ := E.at' i _ e
      unfold asL at p
      split at p
      · exact ⟨v, h1, k v _ env w E (Lw.refl w) (.inl h2) p⟩
      · exact p.elim
    · rename_i xs e
      obtain ⟨w', v, e', hv, E', l, d⟩ := E.frz e
      refine ⟨v, hv, ?_⟩
      rw [<- e']
      exact k v _ _ w' E' l (.inl d) p
    · rename_i xs e
      obtain ⟨v, h1, h2⟩ := E.at' i _ e
      exact ⟨v, h1, k v _ env w E (Lw.refl w) h2 p⟩
    · exact p.elim
inductive Brs (c : Ct) (w : Wd) : List V -> List (List PyData) -> Prop
  | nil : Brs c w [] []
  | cons {v : V} {xs : List PyData} {vs : List V} {xss : List (List PyData)} : VR c w v (.bor xs) -> Brs c w vs xss -> Brs c w (v :: vs) (xs :: xss)
theorem B2b {c : Ct} {w w' : Wd} {v : V} {xs : List PyData} (s : Same w.F w'.F) (h : VR c w v (.bor xs)) : VR c w' v (.bor xs) := by
  rcases h with h | ⟨l, vs, e, h1, h2, h3⟩
  · exact .inl (Den.same s h)
  · exact .inr ⟨l, vs, e, h1, h2, DenAll.same s h3⟩
class RLs (K : Frag) (ta : TA) (pa : outParam (PEnv -> (List (List PyData) -> PEnv -> Prop) -> Prop)) : Prop where
  ok : ∀ (c : Ct) (w : Wd) (env : PEnv) (σ : St) (Qp : List (List PyData) -> PEnv -> Prop) (Q : List V -> Hpp -> Prop), c.K = K -> EnvOk c w env σ -> pa env Qp -> (∀ vs xss env' w', EnvOk c w' env' σ -> Lw w w' -> Brs c w' vs xss -> Qp xss env' -> Q vs w'.H) -> ta σ w.H Q
def pLsN (env : PEnv) (Q : List (List PyData) -> PEnv -> Prop) : Prop := Q [] env
def pLsC (pl : PAr) (pr : PEnv -> (List (List PyData) -> PEnv -> Prop) -> Prop) (env : PEnv) (Q : List (List PyData) -> PEnv -> Prop) : Prop := pl env fun xs e1 => pr e1 fun xss e2 => Q (xs :: xss) e2
instance rls_nil {K : Frag} : RLs K tNil pLsN := ⟨fun c w env σ Qp Q _ E p k => k [] [] env w E (Lw.refl w) .nil p⟩
instance rls_cons {K : Frag} {te : TE} {tr : TA} {pl : PAr} {pr : PEnv -> (List (List PyData) -> PEnv -> Prop) -> Prop} [hl : RL K te pl] [hr : RLs K tr pr] : RLs K (K1 te tr) (pLsC pl pr) where
  ok := by
    rintro c w env σ Qp Q rfl E p k
    refine hl.ok c w env σ _ _ rfl E p fun v xs e1 w1 E1 l1 b1 q1 => ?_
    refine hr.ok c w1 e1 σ _ _ rfl E1 q1 fun vs xss e2 w2 E2 l2 b2 q2 => ?_
    exact k _ _ e2 w2 E2 (l1.trans l2) (.cons (B2b l2.f b1) b2) q2
theorem A3u {c : Ct} {w : Wd} {v : V} {xs : List PyData} (h : VR c w v (.bor xs)) : ∃ l vs, v = .ref l /\ DenAll c.K w.F vs xs /\ ∀ w', w'.Ok -> Le c.w0 w' -> Same w.F w'.F -> SqL c.K w'.H l vs := by
  rcases h with h | ⟨l, vs, e, h1, h2, h3⟩
  · obtain ⟨a, vs, e, g1, g2⟩ := Den.lstE h
    exact ⟨a, vs, e, g2, fun w' ok _ s => (s.trans ok.sub).seq g1⟩
  · exact ⟨l, vs, e, h3, fun w' _ l' _ => SqL.of (l'.h _ _ h1 h2)⟩
def zipD (xs ys : List PyData) : List PyData := List.zipWith (fun x y => .tuple [x, y]) xs ys
def B7h (xs : List PyData) : List PyData := xs.zipIdx.map fun p => .tuple [.int (p.2 : Int), p.1]
theorem B0m {xs ys : List PyData} {i : Nat} {x : PyData} (h : (zipD xs ys)[i]? = some x) : ∃ a b, xs[i]? = some a /\ ys[i]? = some b /\ x = .tuple [a, b] := by
  unfold zipD at h
  rw [List.getElem?_zipWith] at h
  cases h1 : xs[i]? with
  | none => rw [h1] at h; cases h
  | some a => cases h2 : ys[i]? with
    | none => rw [h1, h2] at h; cases h
    | some b => rw [h1, h2] at h; cases h; exact ⟨a, b, rfl, rfl, rfl⟩
theorem P9 {xs ys : List PyData} : (zipD xs ys).length = min xs.length ys.length := List.length_zipWith
def pZip (pa : PEnv -> (List (List PyData) -> PEnv -> Prop) -> Prop) (env : PEnv) (Q : List PyData -> PEnv -> Prop) : Prop := pa env fun xss e => match xss with
  | [xs, ys] => Q (zipD xs ys) e
  | _ => False
def C1m (pa : PEnv -> (List (List PyData) -> PEnv -> Prop) -> Prop) (env : PEnv) (Q : List PyData -> PEnv -> Prop) : Prop := pa env fun xss e => match xss with
  | [xs] => Q (B7h xs) e
  | _ => False
instance ri_zip {K : Frag} {ta : TA} {pa : PEnv -> (List (List PyData) -> PEnv -> Prop) -> Prop} [ha : RLs K ta pa] : RI K (iZip K ta) (pZip pa) where
  ok := by
    rintro c w env σ Qp R rfl E p k
    refine ha.ok c w env σ _ _ rfl E p fun vs xss e1 w1 E1 l1 b1 q1 => ?_
    split at q1
    · rename_i xs ys
      cases b1 with | cons h t => cases t with | cons h' t =>
        cases t
        obtain ⟨a1, us1, rfl, d1, s1⟩ := A3u h
        obtain ⟨a2, us2, rfl, d2, s2⟩ := A3u h'
        refine ⟨a1, a2, us1, us2, rfl, s1 w1 E1.wok E1.le0 (Same.refl _), s2 w1 E1.wok E1.le0 (Same.refl _), k _ _ e1 w1 E1 l1 ?_ q1⟩
        intro w' ok l s
        have g1 := s1 w' ok l s
        have g2 := s2 w' ok l s
        have n1 := d1.len
        have n2 := d2.len
        rw [P9]
        refine ⟨fun i hi => ⟨us1, us2, us1[i]'(by omega), us2[i]'(by omega), g1, g2, List.getElem?_eq_getElem _, List.getElem?_eq_getElem _⟩, ⟨us1, us2, g1, g2, by omega⟩, fun i v H' y hi => ?_⟩
        obtain ⟨T, x, y', rfl, hT, rfl, y1, y2⟩ := y
        obtain ⟨dx, x1, x2⟩ := d1.get (y1 us1 g1)
        obtain ⟨dy, y3, y4⟩ := d2.get (y2 us2 g2)
        refine ⟨w'.tup T (.tup [x, y']), .tuple [dx, dy], rfl, Wd.tup_ok ok hT, Wd.tup_le ok hT, ?_, ?_⟩
        · unfold zipD; rw [List.getElem?_zipWith, x1, y3]
        · have f := (Wd.tup_le (o := .tup [x, y']) ok hT).f
          exact .tup (SqT.of C8) (.cons (Den.same (s.trans f) x2) (.cons (Den.same (s.trans f) y4) .nil))
    · exact q1.elim
end Pu
namespace Pu
open PySem L2 My Prf
theorem W4 {n : Nat} {pr : List PyData -> PEnv -> (PEnv -> Prop) -> Prop} {xs : List PyData} {env : PEnv} {Q : PEnv -> Prop} : qTup n pr (.tuple xs) env Q = (xs.length = n /\ pr xs env Q) := rfl
theorem A2d {pr : List PyData -> PEnv -> (PEnv -> Prop) -> Prop} {c : Rat × Rat} {env : PEnv} {Q : PEnv -> Prop} : qTup 2 pr (dcn c) env Q = pr [dq c.1, dq c.2] env Q := by
  show (2 = 2 /\ _) = _; simp
theorem A1p {c : Rat × Rat} : (dcn c).canLay0 = true := rfl
theorem A91 {c : Rat × Rat} : (dcn c).depth = 2 := rfl
theorem A9u {c : Rat × Rat} : PyData.eqv (dcn c) (dcn c) = true := PySem.SeqAt.eqv_refl _ A1p
theorem A3h {c : Rat × Rat} : isNo (dcn c) = false := rfl
theorem B17 {xs : List PyData} {lo hi : Option Int} {x : PyData} (h : x ∈ cutD xs lo hi) : x ∈ xs := List.mem_of_mem_drop (List.mem_of_mem_take h)
theorem B7j {α : Type} {f : α -> PyData} {xs : List α} (lo hi : Option Int) : ∃ ys : List α, cutD (xs.map f) lo hi = ys.map f /\ (∀ y ∈ ys, y ∈ xs) /\ ys.length <= xs.length := by
  refine ⟨(xs.drop (HT.sIx (xs.map f).length 0 lo)).take (HT.sIx (xs.map f).length (xs.map f).length hi - HT.sIx (xs.map f).length 0 lo), ?_, fun y hy => List.mem_of_mem_drop (List.mem_of_mem_take hy), ?_⟩
  · unfold cutD; rw [List.map_take, List.map_drop]
  · rw [List.length_take, List.length_drop]; omega
theorem A0r {α : Type} {f : α -> PyData} {xs : List α} : cutD (xs.map f) (some 1) none = (xs.drop 1).map f := by
  unfold cutD
  rw [HT.sIx_none, show HT.sIx (xs.map f).length 0 (some 1) = min 1 xs.length by rw [List.length_map]; exact HT.sIx_nat _ _ 1, List.length_map]
  cases xs with
  | nil => rfl
  | cons x r =>
    rw [show min 1 (x :: r).length = 1 by simp]
    simp
    rw [<- List.length_map (f := f), List.take_length]
end Pu
namespace L2
open PySem PySem.Spec PyProof.Rows
section
variable {prog : Program} {w : World} {A : Around} {E : Value -> Shared -> Prop} {s : Shared}
theorem P1 {it t : Addr} {i : Nat} {items : Array Value} {x : Value} {Q : Value -> Shared -> Prop} (hit : s.heap.IsTupleIter it t i) (ht : s.heap.IsTuple t items) (hx : items[i]? = some x)
    (hQ : ∀ h', h'.IsTupleIter it t (i + 1) -> Heap.SameBut it s.heap h' -> Q x { s with heap := h' }) : wpAny (model prog w) A (Builtin.SmallTypes.nextOf (.ref it)) Q E s := by
  have hit' := hit
  obtain ⟨ob, go, gc, gd⟩ := hit'
  obtain ⟨ot, tg, _, tn, td⟩ := ht
  have key : wpAny (model prog w) A (callSpecial? (.ref it) (Str.ofString "__next__")) (fun r s' => r = some x /\ Q x s') E s := by
    refine wpAny_callSpecial?_slot (name := Str.ofString "__next__") hit.typeIs F.slot_tuple_iterator_next (wpAny_call_entry F.slot_tuple_iterator_next hit.typeIs F.entry_tuple_iterator_next ?_ (F.args_tuple_iterator_next_1 _))
    refine wpAny_bind (m := field (.ref it) 0) (wpAny_field go gd (x := .ref t) rfl ?_)
    show wpAny _ _ (if (Value.ref t == .none) = true then _ else _) _ _ s
    rw [if_neg (fun q => by cases q)]
    refine wpAny_bind (m := field (.ref it) 1) (wpAny_field go gd (x := .int i 0) rfl (wpAny_bind (m := seqItems? (.ref t)) (wpAny_seqItems tg td ?_)))
    simp only [Int.toNat_natCast, hx]
    refine wpAny_bind (wpAny_setField go gd (by simp) (wpAny_pure ⟨x, rfl, rfl, hQ _ ?_ (Heap.SameBut.update ..)⟩))
    refine ⟨_, Heap.get?_update_self _ go (Obj.isFreed_of_fields (Obj.data_mapFields gd _)), (Obj.cls_mapFields ..).trans gc, ?_⟩
    rw [Obj.data_mapFields gd]; simp [rawInt]
  unfold Builtin.SmallTypes.nextOf
  refine wpAny_bind (wpAny_mono key (fun r s' h => ?_) fun _ _ e => e)
  obtain ⟨rfl, q⟩ := h
  exact wpAny_pure q
theorem A0c {it t : Addr} {i : Nat} {items : Array Value} {Q : Value -> Shared -> Prop} (hh : A.handled = none) (hit : s.heap.IsTupleIter it t i) (ht : s.heap.IsTuple t items) (hx : items[i]? = none)
    (hE : ∀ h' e, Heap.ExtBut it s.heap h' -> (∃ o, h'.get? e = some o /\ o.cls = .type "StopIteration") -> E (.ref e) { s with heap := h' }) : wpAny (model prog w) A (Builtin.SmallTypes.nextOf (.ref it)) Q E s := by
  have hit' := hit
  obtain ⟨ob, go, gc, gd⟩ := hit'
  obtain ⟨ot, tg, _, tn, td⟩ := ht
  unfold Builtin.SmallTypes.nextOf
  refine wpAny_bind (wpAny_callSpecial?_slot (name := Str.ofString "__next__") hit.typeIs F.slot_tuple_iterator_next (wpAny_call_entry F.slot_tuple_iterator_next hit.typeIs F.entry_tuple_iterator_next ?_ (F.args_tuple_iterator_next_1 _)))
  refine wpAny_bind (m := field (.ref it) 0) (wpAny_field go gd (x := .ref t) rfl ?_)
  show wpAny _ _ (if (Value.ref t == .none) = true then _ else _) _ _ s
  rw [if_neg (fun q => by cases q)]
  refine wpAny_bind (m := field (.ref it) 1) (wpAny_field go gd (x := .int i 0) rfl (wpAny_bind (m := seqItems? (.ref t)) (wpAny_seqItems tg td ?_)))
  simp only [Int.toNat_natCast, hx]
  refine wpAny_bind (wpAny_rule (wpAny_bind (wpAny_setField go gd (by simp) (wpAny_bind ?_))))
  simp only [newExc, newTuple]
  refine wpAny_bind (wpAny_newObj_type (wpAny_bind (m := firstArgMember _ _) (wpAny_of_eq (a := Value.none) (by first | rfl | (simp only [firstArgMember]; rfl)) (wpAny_newObj_type ?_ (by size_fits)))) (by size_fits))
  simp only [raiseNew]
  refine wpAny_bind (wpAny_handled ?_)
  rw [show A.in1.handled = none from hh]
  refine wpAny_bind (wpAny_pure (wpAny_throw (hE _ _ (((Heap.SameBut.update ..).extBut.push _).push _) ⟨_, Heap.get?_push_size _ rfl, rfl⟩)))
theorem A4y {z TI TO i1 i2 l1 l2 : Addr} {k1 k2 : Nat} {xs ys : Array Value} {x y a b : Value} {Q : Value -> Shared -> Prop} (D : ZipApart z TI TO i1 i2 l1 l2) (hz : IsZip s.heap z TI TO .none) (hTI : IsPair s.heap TI (.ref i1) (.ref i2)) (hTO : IsPair s.heap TO a b)
    (h1 : s.heap.IsTupleIter i1 l1 k1) (h2 : s.heap.IsTupleIter i2 l2 k2) (hl1 : s.heap.IsTuple l1 xs) (hl2 : s.heap.IsTuple l2 ys) (hx : xs[k1]? = some x) (hy : ys[k2]? = some y)
    (hQ : ∀ h', IsZip h' z TI TO (rawInt s.heap.objs.size) -> IsPair h' TO x y -> h'.IsTupleIter i1 l1 (k1 + 1) -> h'.IsTupleIter i2 l2 (k2 + 1) -> IsPair h' s.heap.objs.size x y ->
      (∀ c o, c ≠ z -> c ≠ TO -> c ≠ i1 -> c ≠ i2 -> s.heap.get? c = some o -> h'.get? c = some o) -> Q (.ref s.heap.objs.size) { s with heap := h' }) :
    wpAny (model prog w) A (Builtin.«zip.__next__» ⟨[.ref z], []⟩) (fun fin s' => ∃ v, fin = .done (.ret v) /\ Q v s') E s := by
  refine wpAny_bind (m := field (.ref z) 2) (wpAny_field hz rfl (x := .bool false) rfl ?_)
  refine wpAny_bind (m := field (.ref z) 3) (wpAny_field hz rfl (x := .ref TI) rfl (wpAny_bind (wpAny_seqItems hTI rfl (wpAny_bind (m := Builtin.SmallTypes.ownedTupleIsFree (.ref z)) ?_))))
  unfold Builtin.SmallTypes.ownedTupleIsFree
  refine wpAny_bind (wpAny_field hz rfl (x := .none) rfl (wpAny_pure ?_))
  simp only [if_true]
  refine wpAny_bind (wpAny_rule (wpAny_bind (wpAny_field hz rfl (x := .ref TO) rfl (wpAny_bind (wpAny_setField_rec hz (by simp) fun g1 z1 e1 => wpAny_bind ?_)))))
  have z1 : IsZip g1 z TI TO .ellipsis := z1
  simp only [List.zipIdx_cons, List.zipIdx_nil, List.forIn_cons, List.forIn_nil]
  refine wpAny_bind (wpAny_bind (wpAny_onRaise (wpAny_bind (P1 (h1.at fun o q => e1.extBut _ _ D.i1z q) (hl1.at fun o q => e1.extBut _ _ D.l1z q) hx fun g2 n1 e2 => wpAny_pure ?_))))
  have t2 : IsPair g2 TO a b := e2.extBut _ _ D.TOi1 (e1.extBut _ _ D.TOz hTO)
  refine wpAny_bind (wpAny_seqItems t2 rfl (wpAny_bind (wpAny_updateSeq_pair t2 fun g3 t3 e3 => wpAny_bind (wpAny_letGo (wpAny_pure ?_)))))
  have t3 : IsPair g3 TO x b := t3
  refine wpAny_bind (wpAny_bind (wpAny_onRaise (wpAny_bind (P1 (h2.at fun o q => e3.extBut _ _ D.TOi2.symm (e2.extBut _ _ D.i12.symm (e1.extBut _ _ D.i2z q))) (hl2.at fun o q => e3.extBut _ _ D.l2TO (e2.extBut _ _ D.l2i1 (e1.extBut _ _ D.l2z q))) hy fun g4 n2 e4 => wpAny_pure ?_))))
  have t4 : IsPair g4 TO x b := e4.extBut _ _ D.TOi2 t3
  refine wpAny_bind (wpAny_seqItems t4 rfl (wpAny_bind (wpAny_updateSeq_pair t4 fun g5 t5 e5 => wpAny_bind (wpAny_letGo (wpAny_pure (wpAny_pure ?_))))))
  have t5 : IsPair g5 TO x y := t5
  refine wpAny_bind (wpAny_seqItems t5 rfl (wpAny_bind (wpAny_newTuple (wpAny_bind (m := Builtin.SmallTypes.ownedTupleHandOut (.ref z) (.ref g5.objs.size)) ?_))))
  have sz : g5.objs.size = s.heap.objs.size := by rw [e5.1, e4.1, e3.1, e2.1, e1.1]
  have z5 : IsZip g5 z TI TO .ellipsis := e5.extBut _ _ D.TOz.symm (e4.extBut _ _ D.i2z.symm (e3.extBut _ _ D.TOz.symm (e2.extBut _ _ D.i1z.symm z1)))
  have k5 : ∀ c o, c ≠ z -> c ≠ TO -> c ≠ i1 -> c ≠ i2 -> s.heap.get? c = some o -> g5.get? c = some o := fun c o c1 c2 c3 c4 q => e5.extBut _ _ c2 (e4.extBut _ _ c4 (e3.extBut _ _ c2 (e2.extBut _ _ c3 (e1.extBut _ _ c1 q))))
  have n15 : g5.IsTupleIter i1 l1 (k1 + 1) := n1.at fun o q => e5.extBut _ _ D.TOi1.symm (e4.extBut _ _ D.i12 (e3.extBut _ _ D.TOi1.symm q))
  have n25 : g5.IsTupleIter i2 l2 (k2 + 1) := n2.at fun o q => e5.extBut _ _ D.TOi2.symm q
  have zl : z < g5.objs.size := Heap.lt_size z5
  unfold Builtin.SmallTypes.ownedTupleHandOut
  have z6 : IsZip (g5.push { cls := .type "tuple", data := .seq #[x, y] }) z TI TO .ellipsis := Heap.get?_push_of_some _ z5
  refine wpAny_bind (wpAny_setField_rec z6 (by simp) fun g7 z7 e7 => ?_)
  have z7 : IsZip g7 z TI TO (rawInt g5.objs.size) := z7
  refine wpAny_setField_rec z7 (by simp) fun g8 z8 e8 => ?_
  have z8 : IsZip g8 z TI TO (rawInt g5.objs.size) := z8
  have up : ∀ c o, c ≠ z -> g5.get? c = some o -> g8.get? c = some o := fun c o c1 q => e8.extBut _ _ c1 (e7.extBut _ _ c1 (Heap.get?_push_of_some _ q))
  have p8 : IsPair g8 g5.objs.size x y := e8.extBut _ _ (Nat.ne_of_gt zl) (e7.extBut _ _ (Nat.ne_of_gt zl) (Heap.get?_push_size _ rfl))
  rw [sz] at z8 p8
  refine wpAny_pure ⟨_, rfl, ?_⟩
  show Q (.ref g5.objs.size) _
  rw [sz]
  exact hQ g8 z8 (up _ _ D.TOz t5) (n15.at fun o q => up _ o D.i1z q) (n25.at fun o q => up _ o D.i2z q) p8 fun c o c1 c2 c3 c4 q => up c o c1 (k5 c o c1 c2 c3 c4 q)
theorem B0l {z TI TO i1 i2 l1 l2 : Addr} {k1 k2 : Nat} {xs ys : Array Value} {a b : Value} {Q : Fin -> Shared -> Prop} (hh : A.handled = none) (D : ZipApart z TI TO i1 i2 l1 l2) (hz : IsZip s.heap z TI TO .none) (hTI : IsPair s.heap TI (.ref i1) (.ref i2)) (hTO : IsPair s.heap TO a b)
    (h1 : s.heap.IsTupleIter i1 l1 k1) (h2 : s.heap.IsTupleIter i2 l2 k2) (hl1 : s.heap.IsTuple l1 xs) (hl2 : s.heap.IsTuple l2 ys) (hend : xs[k1]? = none \/ ys[k2]? = none)
    (hE : ∀ h' e, (∀ c o, c ≠ z -> c ≠ TO -> c ≠ i1 -> c ≠ i2 -> s.heap.get? c = some o -> h'.get? c = some o) -> (∃ o, h'.get? e = some o /\ o.cls = .type "StopIteration") -> E (.ref e) { s with heap := h' }) :
    wpAny (model prog w) A (Builtin.«zip.__next__» ⟨[.ref z], []⟩) Q E s := by
  refine wpAny_bind (m := field (.ref z) 2) (wpAny_field hz rfl (x := .bool false) rfl ?_)
  refine wpAny_bind (m := field (.ref z) 3) (wpAny_field hz rfl (x := .ref TI) rfl (wpAny_bind (wpAny_seqItems hTI rfl (wpAny_bind (m := Builtin.SmallTypes.ownedTupleIsFree (.ref z)) ?_))))
  unfold Builtin.SmallTypes.ownedTupleIsFree
  refine wpAny_bind (wpAny_field hz rfl (x := .none) rfl (wpAny_pure ?_))
  simp only [if_true]
  refine wpAny_bind (wpAny_rule (wpAny_bind (wpAny_field hz rfl (x := .ref TO) rfl (wpAny_bind (wpAny_setField_rec hz (by simp) fun g1 z1 e1 => wpAny_bind ?_)))))
  have z1 : IsZip g1 z TI TO .ellipsis := z1
  simp only [List.zipIdx_cons, List.zipIdx_nil, List.forIn_cons, List.forIn_nil]
  refine wpAny_bind (wpAny_bind (wpAny_onRaise (wpAny_bind (m := Builtin.SmallTypes.nextOf (.ref i1)) ?_)))
  cases hx : xs[k1]? with
  | none =>
    refine A0c hh (h1.at fun o q => e1.extBut _ _ D.i1z q) (hl1.at fun o q => e1.extBut _ _ D.l1z q) hx fun g2 e e2 he => ?_
    obtain ⟨oe, go, gc⟩ := he
    have z2 : IsZip g2 z TI TO .ellipsis := e2 _ _ D.i1z.symm z1
    have ez : e ≠ z := fun q => by subst q; rw [z2] at go; cases go; simp at gc
    exact wpAny_setField_rec z2 (by simp) fun g3 _ e3 => hE g3 e (fun c o c1 _ c3 _ q => e3.extBut _ _ c1 (e2 _ _ c3 (e1.extBut _ _ c1 q))) ⟨oe, e3.extBut _ _ ez go, gc⟩
  | some x =>
    have hy : ys[k2]? = none := hend.elim (fun q => by rw [hx] at q; cases q) id
    refine P1 (h1.at fun o q => e1.extBut _ _ D.i1z q) (hl1.at fun o q => e1.extBut _ _ D.l1z q) hx fun g2 n1 e2 => wpAny_pure ?_
    have t2 : IsPair g2 TO a b := e2.extBut _ _ D.TOi1 (e1.extBut _ _ D.TOz hTO)
    refine wpAny_bind (wpAny_seqItems t2 rfl (wpAny_bind (wpAny_updateSeq_pair t2 fun g3 t3 e3 => wpAny_bind (wpAny_letGo (wpAny_pure ?_)))))
    refine wpAny_bind (wpAny_bind (wpAny_onRaise (wpAny_bind (A0c hh (h2.at fun o q => e3.extBut _ _ D.TOi2.symm (e2.extBut _ _ D.i12.symm (e1.extBut _ _ D.i2z q))) (hl2.at fun o q => e3.extBut _ _ D.l2TO (e2.extBut _ _ D.l2i1 (e1.extBut _ _ D.l2z q))) hy fun g4 e e4 he => ?_))))
    obtain ⟨oe, go, gc⟩ := he
    have z4 : IsZip g4 z TI TO .ellipsis := e4 _ _ D.i2z.symm (e3.extBut _ _ D.TOz.symm (e2.extBut _ _ D.i1z.symm z1))
    have ez : e ≠ z := fun q => by subst q; rw [z4] at go; cases go; simp at gc
    exact wpAny_setField_rec z4 (by simp) fun g5 _ e5 => hE g5 e (fun c o c1 c2 c3 c4 q => e5.extBut _ _ c1 (e4 _ _ c4 (e3.extBut _ _ c2 (e2.extBut _ _ c3 (e1.extBut _ _ c1 q))))) ⟨oe, e5.extBut _ _ ez go, gc⟩
end
end L2
namespace L2
open PySem PySem.Spec PyProof.Rows
def zT1 (h : Heap) (l1 : Addr) : Heap := h.push { cls := .type "tuple_iterator", data := .fields #[.ref l1, .int 0 0] }
def zT2 (h : Heap) (l1 l2 : Addr) : Heap := (zT1 h l1).push { cls := .type "tuple_iterator", data := .fields #[.ref l2, .int 0 0] }
def zT3 (h : Heap) (l1 l2 : Addr) : Heap := (zT2 h l1 l2).push { cls := .type "tuple", data := .seq #[.ref h.objs.size, .ref (zT1 h l1).objs.size] }
def zT4 (h : Heap) (l1 l2 : Addr) : Heap := (zT3 h l1 l2).push { cls := .type "tuple", data := .seq #[.none, .none] }
def zT5 (h : Heap) (l1 l2 : Addr) : Heap := (zT4 h l1 l2).push { cls := .type "zip", data := .fields #[.none, .bool false, .bool false, .ref (zT2 h l1 l2).objs.size, .ref (zT3 h l1 l2).objs.size] }
theorem A4r (l1 l2 : Addr) (xs ys : Array Value) : Meets (Builtin.«zip.__new__» ⟨[.type "zip", .ref l1, .ref l2], []⟩)
    (fun _ R s => s.heap.IsTuple l1 xs /\ s.heap.IsTuple l2 ys /\ R (.ok (.ret (.ref (zT4 s.heap l1 l2).objs.size))) { s with heap := zT5 s.heap l1 l2 }) :=
  .of_wp fun prog w A R s h => by
    obtain ⟨hp, g, d, tk, os⟩ := s
    obtain ⟨q1, q2, h⟩ := h
    have hsub := sub_zip
    have hL1 : Heap.IsTuple (Shared.heap ⟨hp, g, d, tk, os⟩) l1 xs := q1
    have hL2 : Heap.IsTuple (Shared.heap ⟨hp.push { cls := .type "tuple_iterator", data := .fields #[.ref l1, .int 0 0] }, g, d, tk, os⟩) l2 ys := Heap.IsTuple.push q2 _
    wp_walk using wpAny_pyIter_tuple hL1, wpAny_pyIter_tuple hL2
    exact ⟨_, rfl, h⟩
section
variable {prog : Program} {w : World} {A : Around} {E : Value -> Shared -> Prop} {s : Shared}
theorem A96 {l1 l2 : Addr} {xs ys : Array Value} {Q : Value -> Shared -> Prop} (hl1 : s.heap.IsTuple l1 xs) (hl2 : s.heap.IsTuple l2 ys)
    (h : ∀ h', IsZip h' (s.heap.objs.size + 4) (s.heap.objs.size + 2) (s.heap.objs.size + 3) .none -> IsPair h' (s.heap.objs.size + 2) (.ref s.heap.objs.size) (.ref (s.heap.objs.size + 1)) -> IsPair h' (s.heap.objs.size + 3) .none .none ->
      h'.IsTupleIter s.heap.objs.size l1 0 -> h'.IsTupleIter (s.heap.objs.size + 1) l2 0 -> (∀ c o, s.heap.get? c = some o -> h'.get? c = some o) -> Q (.ref (s.heap.objs.size + 4)) { s with heap := h' }) :
    wpAny (model prog w) A (call (.type "zip") [.ref l1, .ref l2]) Q E s := by
  refine callType_new F.called_zip (by decide) (F.typeCall_zip_2 _ _) (F.newCall_zip_2 _ _) (fun obj => F.args_object_init_3 obj _ _) F.entry_zip_new (A4r l1 l2 xs ys) ⟨hl1, hl2, ?_⟩
  have s1 : (zT1 s.heap l1).objs.size = s.heap.objs.size + 1 := Heap.size_push ..
  have s2 : (zT2 s.heap l1 l2).objs.size = s.heap.objs.size + 2 := (Heap.size_push ..).trans (by rw [s1])
  have s3 : (zT3 s.heap l1 l2).objs.size = s.heap.objs.size + 3 := (Heap.size_push ..).trans (by rw [s2])
  have s4 : (zT4 s.heap l1 l2).objs.size = s.heap.objs.size + 4 := (Heap.size_push ..).trans (by rw [s3])
  have u5 : ∀ {c o}, (zT4 s.heap l1 l2).get? c = some o -> (zT5 s.heap l1 l2).get? c = some o := fun q => Heap.get?_push_of_some _ q
  have u4 : ∀ {c o}, (zT3 s.heap l1 l2).get? c = some o -> (zT4 s.heap l1 l2).get? c = some o := fun q => Heap.get?_push_of_some _ q
  have u3 : ∀ {c o}, (zT2 s.heap l1 l2).get? c = some o -> (zT3 s.heap l1 l2).get? c = some o := fun q => Heap.get?_push_of_some _ q
  have u2 : ∀ {c o}, (zT1 s.heap l1).get? c = some o -> (zT2 s.heap l1 l2).get? c = some o := fun q => Heap.get?_push_of_some _ q
  have g5 : (zT5 s.heap l1 l2).get? (zT4 s.heap l1 l2).objs.size = some _ := Heap.get?_push_size _ rfl
  have g4 : (zT5 s.heap l1 l2).get? (zT3 s.heap l1 l2).objs.size = some _ := u5 (Heap.get?_push_size _ rfl)
  have g3 : (zT5 s.heap l1 l2).get? (zT2 s.heap l1 l2).objs.size = some _ := u5 (u4 (Heap.get?_push_size _ rfl))
  have g2 : (zT5 s.heap l1 l2).get? (zT1 s.heap l1).objs.size = some _ := u5 (u4 (u3 (Heap.get?_push_size _ rfl)))
  have g1 : (zT5 s.heap l1 l2).get? s.heap.objs.size = some _ := u5 (u4 (u3 (u2 (Heap.get?_push_size _ rfl))))
  rw [s2, s3, s4] at g5
  rw [s1, s2] at g3
  rw [s3] at g4
  rw [s1] at g2
  show _ /\ _
  rw [s4]
  exact ⟨⟨_, g5, rfl⟩, h _ g5 g3 g4 ⟨_, g1, rfl, rfl⟩ ⟨_, g2, rfl, rfl⟩ fun c o q => u5 (u4 (u3 (u2 (Heap.get?_push_of_some _ q))))⟩
theorem A4q {z TI TO i1 i2 l1 l2 : Addr} {k1 k2 : Nat} {xs ys : Array Value} {x y a b : Value} {Q : Option Value -> Shared -> Prop} (D : ZipApart z TI TO i1 i2 l1 l2) (hz : IsZip s.heap z TI TO .none) (hTI : IsPair s.heap TI (.ref i1) (.ref i2)) (hTO : IsPair s.heap TO a b)
    (h1 : s.heap.IsTupleIter i1 l1 k1) (h2 : s.heap.IsTupleIter i2 l2 k2) (hl1 : s.heap.IsTuple l1 xs) (hl2 : s.heap.IsTuple l2 ys) (hx : xs[k1]? = some x) (hy : ys[k2]? = some y)
    (hQ : ∀ h', IsZip h' z TI TO (rawInt s.heap.objs.size) -> IsPair h' TO x y -> h'.IsTupleIter i1 l1 (k1 + 1) -> h'.IsTupleIter i2 l2 (k2 + 1) -> IsPair h' s.heap.objs.size x y ->
      (∀ c o, c ≠ z -> c ≠ TO -> c ≠ i1 -> c ≠ i2 -> s.heap.get? c = some o -> h'.get? c = some o) -> Q (some (.ref s.heap.objs.size)) { s with heap := h' }) : wpAny (model prog w) A (pyNext (.ref z)) Q E s := by
  have tz : s.TypeIs (.ref z) "zip" := ⟨_, hz, rfl⟩
  unfold pyNext
  refine wpAny_bind (wpAny_attempt (wpAny_callSpecial?_slot (name := Str.ofString "__next__") tz F.slot_zip_next (wpAny_call_entry F.slot_zip_next tz F.entry_zip_next ?_ (F.args_zip_next_1 _))))
  exact A4y D hz hTI hTO h1 h2 hl1 hl2 hx hy fun h' a1 a2 a3 a4 a5 a6 => wpAny_pure (hQ h' a1 a2 a3 a4 a5 a6)
theorem A8b {z TI TO i1 i2 l1 l2 : Addr} {k1 k2 : Nat} {xs ys : Array Value} {a b : Value} {Q : Option Value -> Shared -> Prop} (hh : A.handled = none) (D : ZipApart z TI TO i1 i2 l1 l2) (hz : IsZip s.heap z TI TO .none) (hTI : IsPair s.heap TI (.ref i1) (.ref i2)) (hTO : IsPair s.heap TO a b)
    (h1 : s.heap.IsTupleIter i1 l1 k1) (h2 : s.heap.IsTupleIter i2 l2 k2) (hl1 : s.heap.IsTuple l1 xs) (hl2 : s.heap.IsTuple l2 ys) (hend : xs[k1]? = none \/ ys[k2]? = none)
    (hQ : ∀ h', (∀ c o, c ≠ z -> c ≠ TO -> c ≠ i1 -> c ≠ i2 -> s.heap.get? c = some o -> h'.get? c = some o) -> Q none { s with heap := h' }) : wpAny (model prog w) A (pyNext (.ref z)) Q E s := by
  have tz : s.TypeIs (.ref z) "zip" := ⟨_, hz, rfl⟩
  unfold pyNext
  refine wpAny_bind (wpAny_attempt (wpAny_callSpecial?_slot (name := Str.ofString "__next__") tz F.slot_zip_next (wpAny_call_entry F.slot_zip_next tz F.entry_zip_next ?_ (F.args_zip_next_1 _))))
  refine B0l hh D hz hTI hTO h1 h2 hl1 hl2 hend fun h' e hk ⟨o, ho, hc⟩ => ?_
  exact wpAny_bind (wpAny_isInstance (T := "StopIteration") (b := true) ⟨o, ho, hc⟩ isSubtype_stop (wpAny_pure (hQ _ hk)))
end
def ItzT (K : PySem.W.Frag) (l1 l2 : Addr) : It :=
  ⟨fun i H => ∃ xs ys x y, SqT K H l1 xs /\ SqT K H l2 ys /\ xs[i]? = some x /\ ys[i]? = some y,
   fun i H v H' => ∃ T x y, v = .ref T /\ H T = none /\ H' = upd H T (.tup [x, y]) /\ (∀ xs, SqT K H l1 xs -> xs[i]? = some x) /\ ∀ ys, SqT K H l2 ys -> ys[i]? = some y,
   fun i H => ∃ xs ys, SqT K H l1 xs /\ SqT K H l2 ys /\ (xs.length <= i \/ ys.length <= i)⟩
theorem A5a {P : Program} {w : World} {K : PySem.W.Frag} {es : List Expr} {kk : Nat} {tp : Pos} {z TI TO i1 i2 l1 l2 : Addr} (D : ZipApart z TI TO i1 i2 l1 l2) :
    Turn P w K (.Tuple es kk tp) (ItzT K l1 l2) [z, TI, TO, i1, i2] z (fun i h => IsZip h z TI TO .none /\ IsPair h TI (.ref i1) (.ref i2) /\ (∃ a b, IsPair h TO a b) /\ h.IsTupleIter i1 l1 i /\ h.IsTupleIter i2 l2 i) where
  mem := List.mem_cons_self
  obj := fun i h st b hb => by
    obtain ⟨hz, hTI, ⟨a, c, hTO⟩, ⟨o1, g1, k1, d1⟩, ⟨o2, g2, k2, d2⟩⟩ := st
    simp only [List.mem_cons, List.mem_nil_iff, or_false] at hb
    rcases hb with rfl | rfl | rfl | rfl | rfl
    · exact ⟨_, hz, fun v q => Data.noConfusion (show Data.fields _ = Data.cell v from q)⟩
    · exact ⟨_, hTI, fun v q => Data.noConfusion (show Data.seq _ _ = Data.cell v from q)⟩
    · exact ⟨_, hTO, fun v q => Data.noConfusion (show Data.seq _ _ = Data.cell v from q)⟩
    · exact ⟨_, g1, fun v q => by rw [d1] at q; cases q⟩
    · exact ⟨_, g2, fun v q => by rw [d2] at q; cases q⟩
  keep := fun i h h' st k => by
    obtain ⟨hz, hTI, ⟨a, c, hTO⟩, h1, h2⟩ := st
    exact ⟨k z (by simp) _ hz, k TI (by simp) _ hTI, ⟨a, c, k TO (by simp) _ hTO⟩, h1.at fun o e => k i1 (by simp) o e, h2.at fun o e => k i2 (by simp) o e⟩
  item := by
    intro X hP hw hK hc i pins s σ H E I hf st hg
    subst hP hw hK
    obtain ⟨hz, hTI, ⟨a, c, hTO⟩, h1, h2⟩ := st
    obtain ⟨xs, ys, x, y, q1, q2, ex, ey⟩ := hg
    obtain ⟨its1, r1, p1, _⟩ := I.tuple q1
    obtain ⟨its2, r2, p2, _⟩ := I.tuple q2
    obtain ⟨u1, e1, ru1⟩ := N0 r1 ex
    obtain ⟨u2, e2, ru2⟩ := N0 r2 ey
    refine A4q D hz hTI hTO h1 h2 (xs := its1.toArray) (ys := its2.toArray) p1 p2 (by simpa using e1) (by simpa using e2) fun h' a1 a2 a3 a4 a5 hk => ⟨_, rfl, ?_⟩
    refine wpAny_letOwnedTupleGo_zip a1 fun h'' b1 sb => ?_
    have lt : ∀ {b o}, s.heap.get? b = some o -> s.heap.objs.size ≠ b := fun e => Nat.ne_of_gt (Heap.lt_size e)
    have k2 : ∀ b o, b ∉ [z, TO, i1, i2] -> s.heap.get? b = some o -> h''.get? b = some o := fun b o hb e => by
      simp only [List.mem_cons, List.mem_nil_iff, or_false, not_or] at hb
      exact (sb.2 b hb.1).trans (hk b o hb.1 hb.2.1 hb.2.2.1 hb.2.2.2 e)
    have I2 : Inv X pins σ (upd H s.heap.objs.size (.tup [x, y])) { s with heap := h'', toks := s.toks } := by
      refine I.laidL (wr := [z, TO, i1, i2]) k2 (fun b hb => hf b ?_) (Nat.le_refl _) ⟨by show 2 <= sizeLine; decide, [u1, u2], .cons ru1 (.cons ru2 .nil), ?_⟩
      · simp only [List.mem_cons, List.mem_nil_iff, or_false] at hb ⊢
        rcases hb with q | q | q | q <;> simp [q]
      · exact ⟨_, (sb.2 _ (lt hz)).trans a5, rfl, _, rfl⟩
    refine ⟨.ref s.heap.objs.size, _, I2, rfl, ⟨_, x, y, rfl, I.fresh, rfl, fun zs hzs => by rw [I.tuple_inj hzs q1]; exact ex, fun zs hzs => by rw [I.tuple_inj hzs q2]; exact ey⟩, ⟨b1, (sb.2 _ D.TIz).trans (hk _ _ D.TIz D.TITO D.TIi1 D.TIi2 hTI), ⟨_, _, (sb.2 _ D.TOz).trans a2⟩, a3.at fun o e => (sb.2 _ D.i1z).trans e, a4.at fun o e => (sb.2 _ D.i2z).trans e⟩, fun b hb => ?_⟩
    have : b ≠ s.heap.objs.size := by
      simp only [List.mem_cons, List.mem_nil_iff, or_false] at hb
      obtain ⟨_, g1, _⟩ := h1
      obtain ⟨_, g2, _⟩ := h2
      rcases hb with rfl | rfl | rfl | rfl | rfl
      · exact (lt hz).symm
      · exact (lt hTI).symm
      · exact (lt hTO).symm
      · exact (lt g1).symm
      · exact (lt g2).symm
    rw [C9 this]; exact (hf b hb).1
  done := by
    intro X hP hw hK hc i pins s σ H E I hf st hg
    subst hP hw hK
    obtain ⟨hz, hTI, ⟨a, c, hTO⟩, h1, h2⟩ := st
    obtain ⟨xs, ys, q1, q2, hl⟩ := hg
    obtain ⟨its1, r1, p1, _⟩ := I.tuple q1
    obtain ⟨its2, r2, p2, _⟩ := I.tuple q2
    have n1 := r1.length
    have n2 := r2.length
    refine A8b (I.ok.hd hc) D hz hTI hTO h1 h2 (xs := its1.toArray) (ys := its2.toArray) p1 p2 (hl.imp (fun q => by simp; omega) fun q => by simp; omega) fun h' hk => ⟨rfl, ?_⟩
    refine I.turnL (t' := s.toks) (wr := [z, TO, i1, i2]) (fun b o hb e => ?_) (fun b hb => hf b ?_)
    · simp only [List.mem_cons, List.mem_nil_iff, or_false, not_or] at hb
      exact hk b o hb.1 hb.2.1 hb.2.2.1 hb.2.2.2 e
    · simp only [List.mem_cons, List.mem_nil_iff, or_false] at hb ⊢
      rcases hb with q | q | q | q <;> simp [q]
  self := fun _ _ _ _ _ st h => wpAny_pyIter_zip st.1 h
section
variable {X : Cx}
def C0i (K : PySem.W.Frag) (ta : TA) : TI := fun σ H R => ta σ H fun vs H1 => ∃ l1 l2 xs ys, vs = [.ref l1, .ref l2] /\ ((SqL K H1 l1 xs /\ SqL K H1 l2 ys /\ R (Itz K l1 l2) H1) \/ (SqT K H1 l1 xs /\ SqT K H1 l2 ys /\ R (ItzT K l1 l2) H1))
theorem B57 {K : PySem.W.Frag} {a b : Expr} {ta : TA} {p pos : Pos} {es : List Expr} {kk : Nat} {tp : Pos} (hK : X.K = K) (hg : Gl X "zip") (hm : X.mg "zip" = none) (ha : QA X [a, b] ta)
    (hs : starEach [a, b] X.env = [(false, eval a X.env), (false, eval b X.env)] := by rfl) (hs2 : starEach [b] X.env = [(false, eval b X.env)] := by rfl) : QI X (.Tuple es kk tp) (.Call (.Name "zip" p) [a, b] [] pos) (C0i K ta) := by
  subst hK
  refine ⟨fun pins s σ H R I h => ?_⟩
  refine Call_ (S3 I hg hm boot_zip (PyProof.Rows.callWith_type1 (thn (ha.out pos pins s σ H _ I h) fun us s1 ⟨vs, H1, I1, r1, q1⟩ => ?_) (hs.trans (by rw [hs2])) (by rw [hs2]; rfl)))
  obtain ⟨l1, l2, xs, ys, e, q⟩ := q1
  subst e
  obtain ⟨u, v, rfl, ru, rv⟩ := Vals.two r1
  cases (show u = Value.ref l1 from ru)
  cases (show v = Value.ref l2 from rv)
  have ap : (show Nat from l1) < s1.heap.objs.size -> (show Nat from l2) < s1.heap.objs.size -> ZipApart (s1.heap.objs.size + 4) (s1.heap.objs.size + 2) (s1.heap.objs.size + 3) s1.heap.objs.size (s1.heap.objs.size + 1) l1 l2 := fun lt1 lt2 => by
    generalize s1.heap.objs.size = n at lt1 lt2
    have g : ∀ a b : Nat, a < b -> a ≠ b := fun a b q => Nat.ne_of_lt q
    have g' : ∀ a b : Nat, b < a -> a ≠ b := fun a b q => Nat.ne_of_gt q
    constructor <;> first | exact g _ _ (Nat.lt_trans lt1 (by omega)) | exact g _ _ (Nat.lt_trans lt2 (by omega)) | exact g _ _ lt1 | exact g _ _ lt2 | exact g _ _ (by omega) | exact g' _ _ (by omega)
  have fps : ∀ b ∈ [s1.heap.objs.size + 4, s1.heap.objs.size + 2, s1.heap.objs.size + 3, s1.heap.objs.size, s1.heap.objs.size + 1], FpOk X pins H1 b := fun b hb => by
    have hb' : s1.heap.objs.size <= b := by
      simp only [List.mem_cons, List.mem_nil_iff, or_false] at hb
      rcases hb with rfl | rfl | rfl | rfl | rfl <;> omega
    exact I1.fpOk hb' (I1.hok.fresh hb')
  rcases q with ⟨g1, g2, q⟩ | ⟨g1, g2, q⟩
  · obtain ⟨its1, _, p1, _⟩ := I1.list g1
    obtain ⟨its2, _, p2, _⟩ := I1.list g2
    refine call_zip_2 p1.isList p2.isList fun h' a1 a2 a3 a4 a5 a6 hk => wpAny_pyIter_zip a1 ?_
    have lt1 : (show Nat from l1) < s1.heap.objs.size := by obtain ⟨o, _, ho, _⟩ := p1; exact Heap.lt_size ho
    have lt2 : (show Nat from l2) < s1.heap.objs.size := by obtain ⟨o, _, ho, _⟩ := p2; exact Heap.lt_size ho
    exact ⟨_, _, _, _, H1, rfl, I1.kept (t' := s1.toks) hk, A15 (ap lt1 lt2), ⟨a1, a2, ⟨_, _, a3⟩, a4, a5⟩, fps, q⟩
  · obtain ⟨its1, _, p1, _⟩ := I1.tuple g1
    obtain ⟨its2, _, p2, _⟩ := I1.tuple g2
    refine A96 (xs := its1.toArray) (ys := its2.toArray) p1 p2 fun h' a1 a2 a3 a4 a5 hk => wpAny_pyIter_zip a1 ?_
    have lt1 : (show Nat from l1) < s1.heap.objs.size := by obtain ⟨o, ho, _⟩ := p1; exact Heap.lt_size ho
    have lt2 : (show Nat from l2) < s1.heap.objs.size := by obtain ⟨o, ho, _⟩ := p2; exact Heap.lt_size ho
    exact ⟨_, _, _, _, H1, rfl, I1.kept (t' := s1.toks) hk, A5a (ap lt1 lt2), ⟨a1, a2, ⟨_, _, a3⟩, a4, a5⟩, fps, q⟩
end
end L2
namespace Pu
open PySem L2 My Prf
def B2n (xs : List PyData) (k : List PyData -> Prop) : Prop := match xs with
  | [.list xs, .list ys] => k (zipD xs ys)
  | [.tuple xs, .tuple ys] => k (zipD xs ys)
  | _ => False
def B6g (pa : PAr) (env : PEnv) (Q : List PyData -> PEnv -> Prop) : Prop := pa env fun xs e => B2n xs fun zs => Q zs e
theorem A1x {c : Ct} {w1 : Wd} {K : Frag} (hK : c.K = K) {J : It} {us1 us2 : List V} {xs ys : List PyData} (d1 : DenAll K w1.F us1 xs) (d2 : DenAll K w1.F us2 ys)
    (go : ∀ w' : Wd, w'.Ok -> Le c.w0 w' -> Same w1.F w'.F -> (∀ i, i < min us1.length us2.length -> J.go i w'.H) /\ J.stop (min us1.length us2.length) w'.H /\ ∀ i v H', J.yld i w'.H v H' -> ∃ T x y, v = .ref T /\ w'.H T = none /\ H' = upd w'.H T (.tup [x, y]) /\ us1[i]? = some x /\ us2[i]? = some y) : Walk c w1 J (zipD xs ys) := by
  subst hK
  intro w' ok l s
  obtain ⟨g1, g2, g3⟩ := go w' ok l s
  rw [P9, <- d1.len, <- d2.len]
  refine ⟨g1, g2, fun i v H' y hi => ?_⟩
  obtain ⟨T, x, y', rfl, hT, rfl, y1, y2⟩ := g3 i v H' y
  obtain ⟨dx, x1, x2⟩ := d1.get y1
  obtain ⟨dy, y3, y4⟩ := d2.get y2
  refine ⟨w'.tup T (.tup [x, y']), .tuple [dx, dy], rfl, Wd.tup_ok ok hT, Wd.tup_le ok hT, ?_, ?_⟩
  · unfold zipD; rw [List.getElem?_zipWith, x1, y3]
  · have f := (Wd.tup_le (o := .tup [x, y']) ok hT).f
    exact .tup (SqT.of C8) (.cons (Den.same (s.trans f) x2) (.cons (Den.same (s.trans f) y4) .nil))
instance ri_zipS {K : Frag} {ta : TA} {pa : PAr} [ha : RAd K ta pa] : RI K (C0i K ta) (B6g pa) where
  ok := by
    rintro c w env σ Qp R rfl E p k
    refine ha.ok c w env σ _ _ rfl E p fun vs xs e1 w1 E1 l1 d1 q1 => ?_
    unfold B2n at q1
    split at q1
    · cases d1 with | cons h t => cases t with | cons h' t =>
        cases t
        obtain ⟨a1, us1, rfl, s1, m1⟩ := h.lstE
        obtain ⟨a2, us2, rfl, s2, m2⟩ := h'.lstE
        refine ⟨a1, a2, us1, us2, rfl, .inl ⟨E1.wok.sub.seq s1, E1.wok.sub.seq s2, k _ _ e1 w1 E1 l1 (A1x rfl m1 m2 fun w' ok l s => ?_) q1⟩⟩
        have t1 := (s.trans ok.sub).seq s1
        have t2 := (s.trans ok.sub).seq s2
        exact ⟨fun i hi => ⟨us1, us2, us1[i]'(by omega), us2[i]'(by omega), t1, t2, List.getElem?_eq_getElem _, List.getElem?_eq_getElem _⟩, ⟨us1, us2, t1, t2, by omega⟩, fun i v H' ⟨T, x, y, e1, e2, e3, e4, e5⟩ => ⟨T, x, y, e1, e2, e3, e4 _ t1, e5 _ t2⟩⟩
    · cases d1 with | cons h t => cases t with | cons h' t =>
        cases t
        obtain ⟨a1, us1, rfl, s1, m1⟩ := h.tupE
        obtain ⟨a2, us2, rfl, s2, m2⟩ := h'.tupE
        refine ⟨a1, a2, us1, us2, rfl, .inr ⟨SqT.same E1.wok.sub s1, SqT.same E1.wok.sub s2, k _ _ e1 w1 E1 l1 (A1x rfl m1 m2 fun w' ok l s => ?_) q1⟩⟩
        have t1 := SqT.same (s.trans ok.sub) s1
        have t2 := SqT.same (s.trans ok.sub) s2
        exact ⟨fun i hi => ⟨us1, us2, us1[i]'(by omega), us2[i]'(by omega), t1, t2, List.getElem?_eq_getElem _, List.getElem?_eq_getElem _⟩, ⟨us1, us2, t1, t2, by omega⟩, fun i v H' ⟨T, x, y, e1, e2, e3, e4, e5⟩ => ⟨T, x, y, e1, e2, e3, e4 _ t1, e5 _ t2⟩⟩
    · exact q1.elim
end Pu
namespace Pu
open PySem L2 My Prf
def okA : Nat -> PyData -> Prop
  | _, .none => True
  | _, .bool _ => True
  | _, .int _ => True
  | _, .str s => (PyData.str s).canLay0 = true
  | _, .dict _ => False
  | 0, .list _ => False
  | 0, .tuple _ => False
  | n + 1, .list xs => xs.length < 1000 /\ ∀ x ∈ xs, okA n x
  | n + 1, .tuple xs => xs.length < 1000 /\ ∀ x ∈ xs, okA n x
def A2g (n : Nat) : PSp := fun as Q => ∃ x, as = [.d x, .d x] /\ okA n x /\ Q (.d (.bool true))
theorem B12 {P : Program} {w : World} {K : Frag} {mg : Str -> Option Value} {base : Heap} {k : Nat} {f : Addr} {fd : FuncData} {ps : List Str} {md : List Md} (h : md.length = ps.length) : FnOk P w K mg base CX0 k f fd ps (spOf K md fun _ _ => False) :=
  ⟨spOf.len h, fun _ _ _ _ _ _ _ _ _ _ _ _ _ hs => by obtain ⟨_, _, _, _, _, _, z, _⟩ := hs; exact z.elim⟩
theorem V3 {xs ys : List PyData} {k : List PyData -> Prop} : B2n [.list xs, .list ys] k = k (zipD xs ys) := rfl
theorem A09 {xs ys : List PyData} {k : List PyData -> Prop} : B2n [.tuple xs, .tuple ys] k = k (zipD xs ys) := rfl
theorem A31 (n : Nat) : (List.replicate n true).all id = true := by simp
theorem A3v (n : Nat) : blsD (List.replicate n (.bool true)) = some (List.replicate n true) := by
  rw [show List.replicate n (PyData.bool true) = (List.replicate n true).map .bool by simp]; exact A3w _
theorem Y0 {xs : List PyData} {i : Nat} {x : PyData} (h : (zipD xs xs)[i]? = some x) : ∃ a, xs[i]? = some a /\ x = .tuple [a, a] := by
  obtain ⟨a, b, h1, h2, rfl⟩ := B0m h
  rw [h1] at h2; cases h2; exact ⟨a, h1, rfl⟩
theorem A3p {a b : Bool} : PyData.eqv (.bool a) (.bool b) = decide (a = b) := by cases a <;> cases b <;> rfl
theorem A9r {s : Str} : PyData.eqv (.str s) (.str s) = true := by show (s == s) = true; simp
theorem B4u : kitB "int" "str" = some false := by decide +kernel
theorem B4x : kitB "bool" "str" = some false := by decide +kernel
theorem B4r : kitB "NoneType" "str" = some false := by decide +kernel
theorem A0b (q : Rat) (n : Nat) : okA (n + 1) (dq q) := by
  show _ < 1000 /\ _
  refine ⟨by simp, fun x hx => ?_⟩
  simp at hx
  rcases hx with rfl | rfl <;> (unfold okA; trivial)
theorem B63 (c : Rat × Rat) (n : Nat) : okA (n + 2) (dcn c) := by
  show _ < 1000 /\ _
  refine ⟨by simp, fun x hx => ?_⟩
  simp at hx
  rcases hx with rfl | rfl <;> exact A0b _ _
theorem B36 {cs : List (Rat × Rat)} (h : cs.length < 1000) (n : Nat) : okA (n + 3) (.list (cs.map dcn)) := by
  show _ < 1000 /\ _
  refine ⟨by simpa using h, fun x hx => ?_⟩
  obtain ⟨c, _, rfl⟩ := List.mem_map.mp hx
  exact B63 c n
end Pu
namespace Pu
open PySem L2 My Prf
def L0 : List PyData -> OT
  | [] => .nil
  | x :: r => .cons (.leaf x) (L0 r)
def OT.len : OT -> Nat
  | .cons _ t => t.len + 1
  | .nil => 0
  | _ => 1
def OT.kid : OT -> Nat -> Option OT
  | .cons h _, 0 => some h
  | .cons _ t, n + 1 => t.kid n
  | _, _ => none
theorem Q7 {K : Frag} {w : Wd} : ∀ {xs : List PyData} {vs : List V}, Tre K w (L0 xs) vs -> DenAll K w.F vs xs
  | [], _, e => by cases (show _ = [] from e); exact .nil
  | _ :: _, _, ⟨_, _, rfl, ⟨_, e, h⟩, t⟩ => by cases e; exact .cons h (Q7 t)
noncomputable def hm (w : Wd) : Hpp := fun a => open Classical in if w.M a then none else w.H a
theorem S5 {w : Wd} {a : Addr} {o : HO} (h : w.H a = some o) (n : ¬ w.M a) : hm w a = some o := by unfold hm; rw [if_neg n]; exact h
theorem A9i {w : Wd} {a : Addr} {o : HO} (h : hm w a = some o) : w.H a = some o /\ ¬ w.M a := by
  unfold hm at h; split at h
  · cases h
  · exact ⟨h, ‹_›⟩
theorem hm_F {w : Wd} (ok : w.Ok) : Same w.F (hm w) := fun a o h => S5 (ok.sub a o h) fun z => by rw [ok.nf a z] at h; cases h
theorem B7c {w w' : Wd} (l : Lw w w') : Same (hm w) (hm w') := fun a o h => by
  obtain ⟨h1, h2⟩ := A9i h
  exact S5 (l.h _ _ h1 h2) (l.nm (by rw [h1]; simp) h2)
theorem Tre.den {K : Frag} {w : Wd} (ok : w.Ok) : ∀ {t : OT} {vs : List V}, Tre K w t vs -> (∀ a ∈ t.fp, ¬ w.M a) -> DenAll K (hm w) vs t.dat
  | .leaf _, _, ⟨_, e, h⟩, _ => by rw [e]; exact .cons (Den.same (hm_F ok) h) .nil
  | .nd true a _, _, ⟨e, _, h, k⟩, n => by rw [e]; exact .cons (.lst (SqL.of (S5 h (n a (by simp [OT.fp])))) (Tre.den ok k fun q hq => n q (by simp [OT.fp, hq]))) .nil
  | .nd false a _, _, ⟨e, _, h, k⟩, n => by rw [e]; exact .cons (.tup (SqT.of (S5 h (n a (by simp [OT.fp])))) (Tre.den ok k fun q hq => n q (by simp [OT.fp, hq]))) .nil
  | .nil, _, e, _ => by rw [show _ = [] from e]; exact .nil
  | .cons _ _, _, ⟨v, r, e, h, t⟩, n => by
    rw [e]
    exact (Tre.den ok h fun q hq => n q (by simp [OT.fp, hq])).app (vs := [v]) (us := r) (Tre.den ok t fun q hq => n q (by simp [OT.fp, hq]))
def VH (K : Frag) (w : Wd) (v : V) (x : PyData) : Prop := Den K (hm w) v x
theorem VR.vh {c : Ct} {w : Wd} {v : V} {t : OT} {x : PyData} (ok : w.Ok) (h : VR c w v (.tr t)) (e : t.dat = [x]) : VH c.K w v x := by
  have := h.1.den ok fun a ha => (h.2 a ha).2.2.1
  rw [e] at this
  cases this with | cons a _ => exact a
theorem VV.vh {K : Frag} {w : Wd} {v : V} {x : PyData} (ok : w.Ok) (h : VV K w v x) : VH K w v x := by
  rcases h with h | ⟨l, vs, xs, rfl, rfl, h1, h2, h3⟩
  · exact Den.same (hm_F ok) h
  · exact .lst (SqL.of (S5 h1 h2)) (DenAll.same (hm_F ok) h3)
class RH (K : Frag) (te : TE) (pd : outParam PDt) : Prop where
  ok : ∀ (c : Ct) (w : Wd) (env : PEnv) (σ : St) (Qp : PyData -> PEnv -> Prop) (Q : VK), c.K = K -> EnvOk c w env σ -> pd env Qp -> (∀ v x env' w', EnvOk c w' env' σ -> Lw w w' -> VH K w' v x -> Qp x env' -> Q v w'.H) -> te σ w.H Q
def B6i (i : Nat) (env : PEnv) (Q : PyData -> PEnv -> Prop) : Prop := match env[i]? with
  | some (some (.d x)) => Q x env
  | some (some (.own xs)) => Q (.list xs) env
  | some (some (.bor xs)) => Q (.list xs) env
  | some (some (.tr t)) => ∃ x, t.dat = [x] /\ Q x env
  | _ => False
instance rh_var {K : Frag} {i : Nat} : RH K (tVar i) (B6i i) where
  ok := by
    rintro c w env σ Qp Q rfl E p k
    unfold B6i at p
    split at p
    · rename_i x e
      obtain ⟨v, h1, h2⟩ := E.at' i _ e
      exact ⟨v, h1, k v _ env w E (Lw.refl w) (Den.same (hm_F E.wok) h2) p⟩
    · rename_i xs e
      obtain ⟨v, h1, l, vs, e', g1, g2, g3, g4, g5⟩ := E.at' i _ e
      exact ⟨v, h1, k v _ env w E (Lw.refl w) (VV.vh E.wok (.inr ⟨l, vs, xs, e', rfl, g1, g3, g5⟩)) p⟩
    · rename_i xs e
      obtain ⟨v, h1, h2⟩ := E.at' i _ e
      exact ⟨v, h1, k v _ env w E (Lw.refl w) ((h2.vv E.le0).vh E.wok) p⟩
    · rename_i t e
      obtain ⟨x, e1, q⟩ := p
      obtain ⟨v, h1, h2⟩ := E.at' i _ e
      exact ⟨v, h1, k v _ env w E (Lw.refl w) (h2.vh E.wok e1) q⟩
    · exact p.elim
def B2r (sp : Sp) (dvs : List V) (X : XK) (t : TA) : TE := A38 sp dvs X t
def B3x (psp : PSp) (pa pb : PDt) (env : PEnv) (Q : SV -> PEnv -> Prop) : Prop := pa env fun x e => pb e fun y e2 => psp [.d x, .d y] fun s => ∃ b, s = .d (.bool b) /\ Q (.d (.bool b)) e2
instance re_callH {K : Frag} {psp : PSp} {X : XK} {ta tb : TE} {pa pb : PDt} [ha : RH K ta pa] [hb : RH K tb pb] : RE K (B2r (spOf K [.dat, .dat] psp) [] X (K1 ta (K1 tb tNil))) (B3x psp pa pb) where
  ok := by
    rintro c w env σ Qp Q rfl E p k
    refine ha.ok c w env σ _ _ rfl E p fun x dx e1 w1 E1 l1 v1 q1 => ?_
    refine hb.ok c w1 e1 σ _ _ rfl E1 q1 fun y dy e2 w2 E2 l2 v2 q2 => ?_
    have v1' : VH c.K w2 x dx := Den.same (B7c l2) v1
    refine ⟨⟨w2.M, w2.H, hm w2⟩, [.d dx, .d dy], _, rfl, ⟨fun a o h => (A9i h).1, E2.wok.st, fun a ha => ?_⟩, .dat v1' (.dat v2 .nil), q2, fun v s w' ok l h r q => ?_⟩
    · show hm w2 a = none
      unfold hm; rw [if_pos ha]
    · obtain ⟨b, rfl, q⟩ := q
      have ev : v = .bl b := Den.blE h
      have fl : ∀ a o, w2.F a = some o -> w2.H a = some o /\ ¬ w2.M a := fun a o e => ⟨E2.wok.sub a o e, fun z => by rw [E2.wok.nf a z] at e; cases e⟩
      have le : Le w2 ⟨w'.M, w'.H, w2.F⟩ := ⟨⟨Same.refl _, l.h, l.m, l.mn, l.dom⟩, fun a o e => .inl e⟩
      have ok' : Wd.Ok ⟨w'.M, w'.H, w2.F⟩ := ⟨fun a o e => l.h a o (fl a o e).1 (fl a o e).2, ok.st, fun a ha => by
        cases e : w2.F a with
        | none => rfl
        | some o =>
          obtain ⟨f1, f2⟩ := fl a o e
          rcases l.mn a ha with z | z
          · exact absurd z f2
          · have z' : w2.H a = none := z
            rw [f1] at z'; cases z'⟩
      have E3 := E2.mono ok' le
      exact k v (.d (.bool b)) e2 ⟨w'.M, w'.H, w2.F⟩ ⟨E3, l1.trans (l2.trans le.toLw), by rw [ev]; exact .bl b, fun _ z => (nomatch z), rfl⟩ q
def SV.ot (s : SV) (k : OT -> Prop) : Prop := match s with
  | .d x => k (.leaf x)
  | .own xs => ∀ a, k (.nd true a (L0 xs))
  | .tr t => k t
  | _ => False
def Ct.with (c : Ct) (t : OT) : Ct := ⟨c.K, c.w0, fun a => c.Z a \/ a ∈ t.fp⟩
def B87 (env : PEnv) (Q : OT -> PEnv -> Prop) : Prop := Q .nil env
def B3q (pe : PX) (pr : PEnv -> (OT -> PEnv -> Prop) -> Prop) (env : PEnv) (Q : OT -> PEnv -> Prop) : Prop := pe env fun s e1 => s.ot fun t => pr e1 fun r e2 => (∀ a ∈ r.fp, a ∉ t.fp) -> Q (.cons t r) e2
def B8z (b : Bool) (pa : PEnv -> (OT -> PEnv -> Prop) -> Prop) (env : PEnv) (Q : SV -> PEnv -> Prop) : Prop := pa env fun t e => t.len <= 1000 /\ ∀ a, a ∉ t.fp -> Q (.tr (.nd b a t)) e
def asTr (o : Option (Option SV)) (k : OT -> Prop) : Prop := match o with
  | some (some (.tr t)) => k t
  | _ => False
def pKid (i : Nat) (n : Int) (env : PEnv) (Q : PyData -> PEnv -> Prop) : Prop := asTr env[i]? fun t => ∃ (m : Nat) (b : Bool) (a a' : Addr) (ks : OT) (xs : List PyData), n = m /\ t = .nd b a ks /\ ks.kid m = some (.nd true a' (L0 xs)) /\ Q (.list xs) env
def A65 (i : Nat) (n : Int) (D : PEnds) (env : PEnv) : Prop := asTr env[i]? fun t => ∃ (m : Nat) (b : Bool) (a a' : Addr) (ks ls : OT), n = m /\ t = .nd b a ks /\ ks.kid m = some (.nd true a' ls) /\ D.nx (env.set i (some (.tr (OT.put a' .nil t))))
end Pu
namespace L2
open PySem PySem.Spec PyProof.Rows
section
variable {X : Cx} {e : Expr}
theorem A5t {sp : Sp} {dvs : List V} {E : XK} {t : TA} (h : QE X e (A38 sp dvs E t)) : QE X e (Pu.B2r sp dvs E t) := h
end
end L2
namespace Pu
open PySem L2 My Prf
def SV.asH (s : SV) (k : PyData -> Prop) : Prop := match s with
  | .d x => k x
  | .own xs => k (.list xs)
  | .tr t => ∃ x, t.dat = [x] /\ k x
  | _ => False
def B6d (pe : PX) (env : PEnv) (Q : PyData -> PEnv -> Prop) : Prop := pe env fun s e => s.asH fun x => Q x e
instance (priority := 200) rh_re {K : Frag} {te : TE} {pe : PX} [h : RE K te pe] : RH K te (B6d pe) where
  ok := by
    rintro c w env σ Qp Q rfl E p k
    refine h.ok c w env σ _ Q rfl E p fun v s env' w' R q => ?_
    have E' := R.ev
    cases s with
    | d x => exact k v x env' w' E' R.lw (Den.same (hm_F E'.wok) R.val) q
    | own xs =>
      obtain ⟨l, vs, e', g1, g2, g3, g4, g5⟩ := R.val
      exact k v _ env' w' E' R.lw (VV.vh E'.wok (.inr ⟨l, vs, xs, e', rfl, g1, g3, g5⟩)) q
    | tr t =>
      obtain ⟨x, e, q⟩ := q
      exact k v x env' w' E' R.lw (VR.vh E'.wok R.val e) q
    | bor xs => exact (show False from q).elim
    | bt t => exact (show False from q).elim
    | st => exact (show False from q).elim
theorem VR.btv {c : Ct} {w : Wd} {v : V} {t : OT} (l : Le c.w0 w) (h : VR c w v (.bt t)) : TV c.K w v t := by
  have lw : Lw ⟨c.w0.M, c.w0.H, w.F⟩ w := ⟨Same.refl _, l.h, l.m, l.mn, l.dom⟩
  exact ⟨h.1.mono lw h.2, fun a ha => l.nm (h.1.has a ha) (h.2 a ha)⟩
class RTr (K : Frag) (te : TE) (pb : outParam (PEnv -> (OT -> PEnv -> Prop) -> Prop)) : Prop where
  ok : ∀ (c : Ct) (w : Wd) (env : PEnv) (σ : St) (Qp : OT -> PEnv -> Prop) (Q : VK), c.K = K -> EnvOk c w env σ -> pb env Qp -> (∀ v t env' w', EnvOk c w' env' σ -> Lw w w' -> TV K w' v t -> Qp t env' -> Q v w'.H) -> te σ w.H Q
def pTr (pe : PX) (env : PEnv) (Q : OT -> PEnv -> Prop) : Prop := pe env fun s e => s.ot fun t => Q t e
def pTrV (i : Nat) (env : PEnv) (Q : OT -> PEnv -> Prop) : Prop := match env[i]? with
  | some (some (.d x)) => Q (.leaf x) env
  | some (some (.tr t)) => Q t env
  | some (some (.bt t)) => Q t env
  | _ => False
instance rtr_var {K : Frag} {i : Nat} : RTr K (tVar i) (pTrV i) where
  ok := by
    rintro c w env σ Qp Q rfl E p k
    unfold pTrV at p
    split at p
    · rename_i x e
      obtain ⟨v, h1, h2⟩ := E.at' i _ e
      exact ⟨v, h1, k v (.leaf x) env w E (Lw.refl w) ⟨⟨v, rfl, h2⟩, fun a z => nomatch z⟩ p⟩
    · rename_i t e
      obtain ⟨v, h1, h2⟩ := E.at' i _ e
      exact ⟨v, h1, k v _ env w E (Lw.refl w) ⟨h2.1, fun a ha => (h2.2 a ha).2.2.1⟩ p⟩
    · rename_i t e
      obtain ⟨v, h1, h2⟩ := E.at' i _ e
      exact ⟨v, h1, k v _ env w E (Lw.refl w) (h2.btv E.le0) p⟩
    · exact p.elim
def B3s (pb : PEnv -> (OT -> PEnv -> Prop) -> Prop) (pr : PAs) (env : PEnv) (Q : List SV -> PEnv -> Prop) : Prop := pb env fun t e1 => pr e1 fun as e2 => Q (.bt t :: as) e2
def OT.lvs : OT -> Option (List PyData)
  | .nil => some []
  | .cons (.leaf x) t => t.lvs.map (x :: ·)
  | _ => none
theorem U6 : ∀ xs, (L0 xs).lvs = some xs
  | [] => rfl
  | x :: r => by show (L0 r).lvs.map _ = _; rw [U6 r]; rfl
theorem U8 : ∀ {t : OT} {xs : List PyData}, t.lvs = some xs -> t = L0 xs
  | .nil, _, h => by cases h; rfl
  | .cons (.leaf x) t, xs, h => by
    have h' : t.lvs.map (x :: ·) = some xs := h
    cases q : t.lvs with
    | none => rw [q] at h'; cases h'
    | some ys => rw [q] at h'; cases h'; rw [U8 q]; rfl
def OT.sv : OT -> SV
  | .leaf (.list xs) => .bor xs
  | .leaf x => .d x
  | .nd true a k => match k.lvs with
    | some xs => .bor xs
    | none => .bt (.nd true a k)
  | t => .bt t
theorem Y3 {a : Addr} {xs : List PyData} : OT.sv (.nd true a (L0 xs)) = .bor xs := by show (match (L0 xs).lvs with | some xs => SV.bor xs | none => _) = _; rw [U6]
theorem VR.sv {c : Ct} {w : Wd} {v : V} {u : OT} (h : VR c w v (.bt u)) : VR c w v u.sv := by
  unfold OT.sv
  split
  · obtain ⟨⟨v', e, h⟩, _⟩ := h
    cases e; exact .inl h
  · obtain ⟨⟨v', e, h⟩, _⟩ := h
    cases e; exact h
  · rename_i a k
    split
    · rename_i xs q
      obtain ⟨⟨e, us, h1, h2⟩, h3⟩ := h
      cases e
      rw [U8 q] at h2
      exact .inr ⟨a, us, rfl, h1, h3 a (by simp [OT.fp]), Q7 (w := ⟨c.w0.M, c.w0.H, w.F⟩) h2⟩
    · exact h
  · exact h
theorem B2s {c : Ct} {env : PEnv} {σ : St} {v : V} : ∀ {u : OT}, New c env σ v u.sv := by
  intro u a f
  unfold OT.sv at f
  split at f
  · exact f.elim
  · exact f.elim
  · split at f
    · exact f.elim
    · exact f.elim
  · exact f.elim
def OT.pair : OT -> Option (OT × OT)
  | .nd false _ (.cons u (.cons v .nil)) => some (u, v)
  | .leaf (.tuple [x, y]) => some (.leaf x, .leaf y)
  | _ => none
def pUnp (i a b : Nat) (pr : List PyData -> PEnv -> (PEnv -> Prop) -> Prop) (D : PEnds) (env : PEnv) : Prop := match env[i]? with
  | some (some (.bt t)) => ∃ u v, t.pair = some (u, v) /\ D.nx ((env.set a (some u.sv)).set b (some v.sv))
  | some (some (.d x)) => qTup 2 pr x env D.nx
  | _ => False
theorem B2p {c : Ct} {w : Wd} {v : V} {t u1 u2 : OT} (ok : w.Ok) (l : Le c.w0 w) (h : VR c w v (.bt t)) (e : t.pair = some (u1, u2)) : ∃ p x y, v = .ref p /\ SqT c.K w.H p [x, y] /\ VR c w x (.bt u1) /\ VR c w y (.bt u2) := by
  unfold OT.pair at e
  split at e
  · rename_i a k1 k2
    cases e
    obtain ⟨⟨ev, us, h1, x, r, e1, hx, y, r2, e2, hy, e3⟩, h3⟩ := h
    cases ev
    have e3' : r2 = [] := e3
    subst e1; subst e2; subst e3'
    exact ⟨a, x, y, rfl, SqT.of (l.h _ _ h1 (h3 a (by simp [OT.fp]))), ⟨hx, fun q hq => h3 q (by simp [OT.fp, hq])⟩, ⟨hy, fun q hq => h3 q (by simp [OT.fp, hq])⟩⟩
  · cases e
    obtain ⟨⟨v', ev, h⟩, _⟩ := h
    cases ev
    obtain ⟨p, vs, rfl, h1, h2⟩ := Den.tupE h
    cases h2 with
    | cons hx t => cases t with
      | cons hy t =>
        cases t
        exact ⟨p, _, _, rfl, SqT.same ok.sub h1, ⟨⟨_, rfl, hx⟩, fun q hq => nomatch hq⟩, ⟨⟨_, rfl, hy⟩, fun q hq => nomatch hq⟩⟩
  · cases e
instance (priority := high) rs_unp {K : Frag} {i a b : Nat} {pr : List PyData -> PEnv -> (PEnv -> Prop) -> Prop} [hr : RGs K (A1q (T5 a) (A1q (T5 b) gNil)) pr] : RS K (tAsg (tVar i) (gTup K 2 (A1q (T5 a) (A1q (T5 b) gNil)))) (pUnp i a b pr) where
  ok := by
    rintro c w env σ Dp D rfl E h p
    unfold pUnp at p
    split at p
    · rename_i t e
      obtain ⟨u1, u2, hp, q⟩ := p
      obtain ⟨v, h1, h2⟩ := E.at' i _ e
      obtain ⟨p, x, y, rfl, hs, hx, hy⟩ := B2p E.wok E.le0 h2 hp
      refine ⟨_, h1, p, [x, y], rfl, hs, rfl, x, [y], rfl, y, [], rfl, rfl, ?_⟩
      have E1 := E.set (i := a) hx.sv B2s
      have E2 := E1.set (i := b) hy.sv B2s
      exact h.nx _ _ w E2 (Same.refl _) q
    · rename_i x e
      obtain ⟨v, h1, h2⟩ := E.at' i _ e
      refine ⟨v, h1, ?_⟩
      exact rg_tup.ok c w env σ v x _ _ rfl E h2 p fun e2 σ2 E2 q2 => h.nx e2 σ2 w E2 (Same.refl _) q2
    · exact p.elim
def C1o (i : Nat) (n : Int) (j : Nat) (D : PEnds) (env : PEnv) : Prop := match env[i]? with
  | some (some (.bt t)) => ∃ u v, t.pair = some (u, v) /\ ((n = 0 /\ D.nx (env.set j (some u.sv))) \/ (n = 1 /\ D.nx (env.set j (some v.sv))))
  | _ => False
end Pu
namespace Pu
open PySem L2 My Prf
theorem fdE {a : Int} {n : Nat} (h : (n : Int) ∣ a) : a.fdiv n = a / n := Int.fdiv_eq_ediv_of_dvd h
theorem fdN (a n : Nat) : (a : Int).fdiv (n : Int) = ((a / n : Nat) : Int) := by
  rw [Int.fdiv_eq_ediv_of_nonneg _ (Int.natCast_nonneg n)]; rfl
theorem B9w (p q : Rat) : p.num.fdiv ((Int.gcd p.num q.den : Nat) : Int) * q.num.fdiv ((Int.gcd q.num p.den : Nat) : Int) = (p * q).num := by
  have e : p * q = Rat.mul p q := rfl
  rw [e]; unfold Rat.mul
  show _ = p.num.divExact _ _ * q.num.divExact _ _
  rw [Int.divExact_eq_ediv, Int.divExact_eq_ediv, fdE (Int.gcd_dvd_left ..), fdE (Int.gcd_dvd_left ..)]
  rfl
theorem B9x (p q : Rat) : (p.den : Int).fdiv ((Int.gcd q.num p.den : Nat) : Int) * (q.den : Int).fdiv ((Int.gcd p.num q.den : Nat) : Int) = ((p * q).den : Int) := by
  have e : p * q = Rat.mul p q := rfl
  rw [e]; unfold Rat.mul
  show _ = ((p.den.divExact _ _ * q.den.divExact _ _ : Nat) : Int)
  rw [Nat.divExact_eq_div, Nat.divExact_eq_div, fdN, fdN]
  rfl
theorem B56 (p q : Rat) (g t : Int) (hg : g = ((Int.gcd (p.den : Int) (q.den : Int) : Nat) : Int)) (ht : t = p.num * (q.den : Int).fdiv g + q.num * (p.den : Int).fdiv g) :
    t.fdiv ((Int.gcd t g : Nat) : Int) = (p + q).num /\ (p.den : Int).fdiv g * (q.den : Int).fdiv ((Int.gcd t g : Nat) : Int) = ((p + q).den : Int) := by
  have e : p + q = Rat.add p q := rfl
  have hgn : Int.gcd (p.den : Int) (q.den : Int) = Nat.gcd p.den q.den := rfl
  rw [hgn] at hg
  rw [e]; unfold Rat.add
  dsimp only
  split
  · rename_i h1
    rw [h1] at hg
    subst hg
    have ht' : t = p.num * q.den + q.num * p.den := by rw [ht, fdN, fdN]; simp
    have h2 : Int.gcd t ((1 : Nat) : Int) = 1 := by simp
    rw [h2, ht']
    refine ⟨by simp, ?_⟩
    rw [fdN, fdN]; simp
  · rename_i h1
    rw [Rat.maybeNormalize_eq]
    rw [hg, fdN, fdN] at ht
    have h3 : Int.gcd t g = t.natAbs.gcd (p.den.gcd q.den) := by rw [hg]; rfl
    rw [h3]
    subst ht
    refine ⟨?_, ?_⟩
    · show _ = Int.divExact _ _ (Int.gcd_dvd_left _ ((p.den.gcd q.den : Nat) : Int))
      rw [Int.divExact_eq_ediv]
      exact fdE (Int.gcd_dvd_left _ ((p.den.gcd q.den : Nat) : Int))
    · show _ = ((_ / _ : Nat) : Int)
      rw [hg, fdN, fdN]
      have hd : (p.num * ((q.den / p.den.gcd q.den : Nat) : Int) + q.num * ((p.den / p.den.gcd q.den : Nat) : Int)).natAbs.gcd (p.den.gcd q.den) ∣ q.den := Nat.dvd_trans (Nat.gcd_dvd_right ..) (Nat.gcd_dvd_right ..)
      rw [Nat.mul_div_assoc _ hd, Int.natCast_mul]
theorem P3 {t : Int} (q : Rat) : ((Int.gcd t (q.den : Int) : Nat) : Int) ≠ 0 := by
  have h := q.den_nz
  intro h0
  have h1 : Int.gcd t (q.den : Int) = 0 := by omega
  have h2 := (Int.gcd_eq_zero_iff.mp h1).2
  omega
theorem A3l {t g : Int} (h : g ≠ 0) : ((Int.gcd t g : Nat) : Int) ≠ 0 := by
  intro h0
  have h1 : Int.gcd t g = 0 := by omega
  exact h (Int.gcd_eq_zero_iff.mp h1).2
theorem A0l {k : Nat} {a g : Int} (h : Sm k a) (g1 : 0 <= g) : Sm k (a.fdiv g) := by
  unfold Sm at *
  rw [Int.fdiv_eq_ediv_of_nonneg _ g1]
  rcases Int.lt_or_le 0 g with h0 | h0
  · have h2 := Int.natAbs_ediv_le_natAbs a g
    omega
  · have : g = 0 := by omega
    subst this
    rw [Int.ediv_zero]; exact Nat.two_pow_pos k
theorem A5r {pr : List PyData -> PEnv -> (PEnv -> Prop) -> Prop} {q : Rat} {env : PEnv} {Q : PEnv -> Prop} : qTup 2 pr (dq q) env Q = pr [.int q.num, .int q.den] env Q := by
  unfold dq; rw [W4]; exact propext ⟨fun h => h.2, fun h => ⟨rfl, h⟩⟩
theorem C0q (q : Rat) : PyData.tuple [.int (-q.num), .int q.den] = dq (-q) := rfl
theorem A9g {q : Rat} (h : q ≠ 0) : dq q⁻¹ = .tuple [.int (if 0 < q.num then (q.den : Int) else -(q.den : Int)), .int (if 0 < q.num then q.num else -q.num)] := by
  have hn := A79 h
  have e : q⁻¹ = Rat.inv q := rfl
  unfold dq
  rw [e]; unfold Rat.inv
  by_cases h0 : q.num < 0
  · rw [dif_pos h0, if_neg (by omega), if_neg (by omega)]
    show PyData.tuple [_, .int ((q.num.natAbs : Nat) : Int)] = _
    rw [show ((q.num.natAbs : Nat) : Int) = -q.num by omega]
  · have h1 : 0 < q.num := by omega
    rw [dif_neg h0, dif_pos h1, if_pos h1, if_pos h1]
    show PyData.tuple [_, .int ((q.num.natAbs : Nat) : Int)] = _
    rw [show ((q.num.natAbs : Nat) : Int) = q.num by omega]
theorem B42 {k : Nat} {q : Rat} (h : SmQ k q) (hq : q ≠ 0) : SmQ k q⁻¹ := by
  have e := A9g hq
  unfold dq at e
  injection e with e
  injection e with e1 e2
  injection e2 with e2 _
  injection e1 with e1
  injection e2 with e2
  refine ⟨?_, ?_⟩
  · show Sm k q⁻¹.num
    rw [e1]
    have := h.2
    unfold Sm at *
    split <;> omega
  · show Sm k (q⁻¹.den : Int)
    rw [e2]
    have := h.1
    unfold Sm at *
    split <;> omega
end Pu
namespace Pu
open PySem L2 My Prf
section
variable {x y : PyData} {xs ys : List PyData} {i j : Nat} {env e : PEnv} {s : SV} {t : OT}
theorem C02 {k : PyData -> Prop} : (SV.d x).asD k = k x := rfl
theorem C01 {k : PyData -> Prop} : (SV.own xs).asD k = k (.list xs) := rfl
def oVar (o : Option (Option SV)) (i : Nat) (env : PEnv) (Q : SV -> PEnv -> Prop) : Prop := match o with
  | some (some (.d x)) => Q (.d x) env
  | some (some (.own xs)) => Q (.d (.list xs)) (env.set i (some (.d (.list xs))))
  | some (some .st) => Q .st env
  | _ => False
theorem B26 {Q : SV -> PEnv -> Prop} : pVar i env Q = oVar env[i]? i env Q := rfl
theorem B4a {Q : SV -> PEnv -> Prop} : oVar (some (some (.d x))) i env Q = Q (.d x) env := rfl
theorem B39 {Q : SV -> PEnv -> Prop} : oVar (some (some (.own xs))) i env Q = Q (.d (.list xs)) (env.set i (some (.d (.list xs)))) := rfl
theorem B38 {Q : SV -> PEnv -> Prop} : oVar (some (some .st)) i env Q = Q .st env := rfl
def B1n (o : Option (Option SV)) (env : PEnv) (Q : PyData -> PEnv -> Prop) : Prop := match o with
  | some (some (.d x)) => Q x env
  | some (some (.own xs)) => Q (.list xs) env
  | some (some (.bor xs)) => Q (.list xs) env
  | _ => False
theorem A6h {Q : PyData -> PEnv -> Prop} : B6h i env Q = B1n env[i]? env Q := rfl
theorem A7m {Q : PyData -> PEnv -> Prop} : B1n (some (some (.d x))) env Q = Q x env := rfl
theorem A7l {Q : PyData -> PEnv -> Prop} : B1n (some (some (.own xs))) env Q = Q (.list xs) env := rfl
theorem A7n {Q : PyData -> PEnv -> Prop} : B1n (some (some (.bor xs))) env Q = Q (.list xs) env := rfl
theorem pI_i {C : Int -> Int -> Prop} {gd : Int -> Int -> PyData} {i j : Int} {Q : SV -> Prop} : pI C gd (.int i) (.int j) Q = (C i j /\ Q (.d (gd i j))) := rfl
theorem B9a {gd : Int -> Int -> PyData} {i j : Int} {Q : SV -> Prop} : pI0 gd (.int i) (.int j) Q = Q (.d (gd i j)) := rfl
theorem pU_i {gd : Int -> PyData} {i : Int} {Q : SV -> Prop} : pU gd (.int i) Q = Q (.d (gd i)) := rfl
theorem B31 {i : Int} {Q : SV -> Prop} : pAbs [.int i] Q = Q (.d (.int (if i < 0 then -i else i))) := rfl
theorem B3c {i j : Int} {Q : SV -> Prop} : pMax [.int i, .int j] Q = Q (.d (.int (if j > i then j else i))) := rfl
theorem B3b {i j : Int} {Q : SV -> Prop} : pMin [.int i, .int j] Q = Q (.d (.int (if j < i then j else i))) := rfl
theorem B3n {i : Int} {Q : SV -> Prop} : pInt [.int i] Q = Q (.d (.int i)) := rfl
theorem B3o {b : Bool} {Q : SV -> Prop} : pInt [.bool b] Q = Q (.d (.int (if b then 1 else 0))) := rfl
theorem A2k {Q : SV -> Prop} : A2l [.list ys] Q = Q (.own ys) := rfl
theorem A2j {Q : SV -> Prop} : A2l [.tuple ys] Q = Q (.own ys) := rfl
def oKit (o : Option Bool) (Q : SV -> Prop) : Prop := match o with
  | some b => Q (.d (.bool b))
  | none => False
theorem B3m {c : String} {pa : PDt} {Q : SV -> PEnv -> Prop} : pIsi c pa env Q = pa env fun x e => oKit (kitB (tyD x) c) fun s => Q s e := rfl
theorem A6y {cs : List String} {pa : PDt} {Q : SV -> PEnv -> Prop} : B89 cs pa env Q = pa env fun x e => cs.length <= 1000 /\ oKit (P6 (tyD x) cs) fun s => Q s e := rfl
theorem B4h {b : Bool} {Q : SV -> Prop} : oKit (some b) Q = Q (.d (.bool b)) := rfl
theorem C03 {b : Bool} {k : Bool -> Prop} : asB (.bool b) k = k b := rfl
theorem C0w {k : List PyData -> Prop} : asL (.list xs) k = k xs := rfl
theorem B41 {k : Prop} : isSt (some (some .st)) k = k := rfl
theorem C0x {i : Int} {k : Int -> Prop} : asI (.int i) k = k i := rfl
def A70 (o : Option (Option SV)) (D : PEnds) : Prop := match o with
  | some (some (.bor _)) => False
  | some (some (.bt _)) => False
  | some (some s) => D.rt s
  | _ => False
theorem A6m {D : PEnds} : B6k i D env = A70 env[i]? D := rfl
theorem A7z {D : PEnds} : A70 (some (some (.d x))) D = D.rt (.d x) := rfl
theorem A7y {D : PEnds} : A70 (some (some (.own xs))) D = D.rt (.own xs) := rfl
theorem A7x {D : PEnds} : A70 (some (some .st)) D = D.rt .st := rfl
theorem A7w {D : PEnds} : A70 (some (some (.tr t))) D = D.rt (.tr t) := rfl
theorem B2x {Q : PEnv -> Prop} : qNil [] env Q = Q env := rfl
theorem A5s {pg : PyData -> PEnv -> (PEnv -> Prop) -> Prop} {pr : List PyData -> PEnv -> (PEnv -> Prop) -> Prop} {Q : PEnv -> Prop} : B5w pg pr (x :: xs) env Q = pg x env fun e => pr xs e Q := rfl
def oPar (i j : Nat) (xs : List PyData) (D : PEnds) (e : PEnv) : Prop := match xs with
  | [x, y] => D.nx ((e.set i (some (.d x))).set j (some (.d y)))
  | _ => False
theorem B3a {pa : PAr} {D : PEnds} : pPar i j pa D env = pa env fun xs e => oPar i j xs D e := rfl
theorem B4g {D : PEnds} : oPar i j [x, y] D e = D.nx ((e.set i (some (.d x))).set j (some (.d y))) := rfl
theorem B0j {k : List PyData -> Prop} : O4 (some (some (.own xs))) k = k xs := rfl
def A2z (o : Option (Option SV)) (i : Nat) (env : PEnv) (Q : List PyData -> PEnv -> Prop) : Prop := match o with
  | some (some (.d x)) => P7 x fun xs => Q xs env
  | some (some (.own xs)) => Q xs (env.set i (some (.d (.list xs))))
  | some (some (.bor xs)) => Q xs env
  | _ => False
theorem A2p {Q : List PyData -> PEnv -> Prop} : A6x i env Q = A2z env[i]? i env Q := rfl
theorem A2x {Q : List PyData -> PEnv -> Prop} : A2z (some (some (.d x))) i env Q = P7 x fun xs => Q xs env := rfl
theorem A2w {Q : List PyData -> PEnv -> Prop} : A2z (some (some (.own xs))) i env Q = Q xs (env.set i (some (.d (.list xs)))) := rfl
theorem A2y {Q : List PyData -> PEnv -> Prop} : A2z (some (some (.bor xs))) i env Q = Q xs env := rfl
def B9s (xs : List PyData) (Q : List PyData -> Prop) : Prop := match xs with
  | [.int j] => (-(2 ^ 62) <= j /\ j < 2 ^ 62) /\ Q (rngD 0 j.toNat)
  | _ => False
theorem A6l {pa : PAr} {Q : List PyData -> PEnv -> Prop} : B80 pa env Q = pa env fun xs e => B9s xs fun ys => Q ys e := rfl
theorem A7v {j : Int} {Q : List PyData -> Prop} : B9s [.int j] Q = ((-(2 ^ 62) <= j /\ j < 2 ^ 62) /\ Q (rngD 0 j.toNat)) := rfl
def B9r (xs : List PyData) (Q : List PyData -> Prop) : Prop := match xs with
  | [.int i, .int j] => (-(2 ^ 62) <= i /\ i < 2 ^ 62 /\ -(2 ^ 62) <= j /\ j < 2 ^ 62) /\ Q (rngD i (j - i).toNat)
  | _ => False
theorem A6k {pa : PAr} {Q : List PyData -> PEnv -> Prop} : C1l pa env Q = pa env fun xs e => B9r xs fun ys => Q ys e := rfl
theorem A7u {i j : Int} {Q : List PyData -> Prop} : B9r [.int i, .int j] Q = ((-(2 ^ 62) <= i /\ i < 2 ^ 62 /\ -(2 ^ 62) <= j /\ j < 2 ^ 62) /\ Q (rngD i (j - i).toNat)) := rfl
def B9q (xs : List PyData) (Q : List PyData -> Prop) : Prop := match xs with
  | [.int i, .int j, .int k] => k = -1 /\ ((-(2 ^ 61) <= i /\ i < 2 ^ 61) /\ -(2 ^ 61) <= j /\ j < 2 ^ 61) /\ Q (dwnD i (i - j).toNat)
  | _ => False
theorem A6j {pa : PAr} {Q : List PyData -> PEnv -> Prop} : C1k pa env Q = pa env fun xs e => B9q xs fun ys => Q ys e := rfl
theorem A7t {i j k : Int} {Q : List PyData -> Prop} : B9q [.int i, .int j, .int k] Q = (k = -1 /\ ((-(2 ^ 61) <= i /\ i < 2 ^ 61) /\ -(2 ^ 61) <= j /\ j < 2 ^ 61) /\ Q (dwnD i (i - j).toNat)) := rfl
theorem B3w {Q : SV -> Prop} : pCat (.list xs) (.list ys) Q = (xs.length + ys.length <= 1000000 /\ Q (.own (xs ++ ys))) := rfl
theorem B30 {Q : SV -> Prop} : pAll [.list ys] Q = ∃ bs, blsD ys = some bs /\ Q (.d (.bool (bs.all id))) := rfl
theorem B3z {Q : SV -> Prop} : pAny [.list ys] Q = ∃ bs, blsD ys = some bs /\ Q (.d (.bool (bs.any id))) := rfl
def B1p (o : Option (Option SV)) (i : Nat) (env : PEnv) (Q : List PyData -> PEnv -> Prop) : Prop := match o with
  | some (some (.d x)) => asL x fun xs => Q xs env
  | some (some (.own xs)) => Q xs (env.set i (some (.d (.list xs))))
  | some (some (.bor xs)) => Q xs env
  | _ => False
theorem A6p {Q : List PyData -> PEnv -> Prop} : B6p i env Q = B1p env[i]? i env Q := rfl
theorem A75 {Q : List PyData -> PEnv -> Prop} : B1p (some (some (.d x))) i env Q = asL x fun xs => Q xs env := rfl
theorem A74 {Q : List PyData -> PEnv -> Prop} : B1p (some (some (.own xs))) i env Q = Q xs (env.set i (some (.d (.list xs)))) := rfl
theorem A76 {Q : List PyData -> PEnv -> Prop} : B1p (some (some (.bor xs))) i env Q = Q xs env := rfl
def oZip (xss : List (List PyData)) (Q : List PyData -> Prop) : Prop := match xss with
  | [xs, ys] => Q (zipD xs ys)
  | _ => False
theorem B25 {pa : PEnv -> (List (List PyData) -> PEnv -> Prop) -> Prop} {Q : List PyData -> PEnv -> Prop} : pZip pa env Q = pa env fun xss e => oZip xss fun ys => Q ys e := rfl
theorem B37 {Q : List PyData -> Prop} : oZip [xs, ys] Q = Q (zipD xs ys) := rfl
def B9t (xss : List (List PyData)) (Q : List PyData -> Prop) : Prop := match xss with
  | [xs] => Q (B7h xs)
  | _ => False
theorem A61 {pa : PEnv -> (List (List PyData) -> PEnv -> Prop) -> Prop} {Q : List PyData -> PEnv -> Prop} : C1m pa env Q = pa env fun xss e => B9t xss fun ys => Q ys e := rfl
theorem A77 {Q : List PyData -> Prop} : B9t [xs] Q = Q (B7h xs) := rfl
def A7s (o : Option (Option SV)) (env : PEnv) (Q : PyData -> PEnv -> Prop) : Prop := match o with
  | some (some (.d x)) => Q x env
  | some (some (.own xs)) => Q (.list xs) env
  | some (some (.bor xs)) => Q (.list xs) env
  | some (some (.tr t)) => ∃ x, t.dat = [x] /\ Q x env
  | _ => False
theorem A6i {Q : PyData -> PEnv -> Prop} : B6i i env Q = A7s env[i]? env Q := rfl
theorem A7q {Q : PyData -> PEnv -> Prop} : A7s (some (some (.d x))) env Q = Q x env := rfl
theorem A7p {Q : PyData -> PEnv -> Prop} : A7s (some (some (.own xs))) env Q = Q (.list xs) env := rfl
theorem A7r {Q : PyData -> PEnv -> Prop} : A7s (some (some (.bor xs))) env Q = Q (.list xs) env := rfl
theorem A7o {Q : PyData -> PEnv -> Prop} : A7s (some (some (.tr t))) env Q = ∃ x, t.dat = [x] /\ Q x env := rfl
theorem ot_d {k : OT -> Prop} : (SV.d x).ot k = k (.leaf x) := rfl
theorem ot_o {k : OT -> Prop} : (SV.own xs).ot k = ∀ a, k (.nd true a (L0 xs)) := rfl
theorem ot_t {k : OT -> Prop} : (SV.tr t).ot k = k t := rfl
theorem B45 {k : OT -> Prop} : asTr (some (some (.tr t))) k = k t := rfl
theorem C00 {k : PyData -> Prop} : (SV.d x).asH k = k x := rfl
theorem C0z {k : PyData -> Prop} : (SV.own xs).asH k = k (.list xs) := rfl
theorem C0y {k : PyData -> Prop} : (SV.tr t).asH k = ∃ x, t.dat = [x] /\ k x := rfl
def oTrV (o : Option (Option SV)) (env : PEnv) (Q : OT -> PEnv -> Prop) : Prop := match o with
  | some (some (.d x)) => Q (.leaf x) env
  | some (some (.tr t)) => Q t env
  | some (some (.bt t)) => Q t env
  | _ => False
theorem B29 {Q : OT -> PEnv -> Prop} : pTrV i env Q = oTrV env[i]? env Q := rfl
theorem B4e {Q : OT -> PEnv -> Prop} : oTrV (some (some (.d x))) env Q = Q (.leaf x) env := rfl
theorem B4d {Q : OT -> PEnv -> Prop} : oTrV (some (some (.tr t))) env Q = Q t env := rfl
theorem B4f {Q : OT -> PEnv -> Prop} : oTrV (some (some (.bt t))) env Q = Q t env := rfl
def oUnp (o : Option (Option SV)) (a b : Nat) (pr : List PyData -> PEnv -> (PEnv -> Prop) -> Prop) (D : PEnds) (env : PEnv) : Prop := match o with
  | some (some (.bt t)) => ∃ u v, t.pair = some (u, v) /\ D.nx ((env.set a (some u.sv)).set b (some v.sv))
  | some (some (.d x)) => qTup 2 pr x env D.nx
  | _ => False
theorem B27 {a b : Nat} {pr : List PyData -> PEnv -> (PEnv -> Prop) -> Prop} {D : PEnds} : pUnp i a b pr D env = oUnp env[i]? a b pr D env := rfl
theorem B4c {a b : Nat} {pr : List PyData -> PEnv -> (PEnv -> Prop) -> Prop} {D : PEnds} : oUnp (some (some (.bt t))) a b pr D env = ∃ u v, t.pair = some (u, v) /\ D.nx ((env.set a (some u.sv)).set b (some v.sv)) := rfl
theorem B4b {a b : Nat} {pr : List PyData -> PEnv -> (PEnv -> Prop) -> Prop} {D : PEnds} : oUnp (some (some (.d x))) a b pr D env = qTup 2 pr x env D.nx := rfl
def B9u (o : Option (Option SV)) (n : Int) (j : Nat) (D : PEnds) (env : PEnv) : Prop := match o with
  | some (some (.bt t)) => ∃ u v, t.pair = some (u, v) /\ ((n = 0 /\ D.nx (env.set j (some u.sv))) \/ (n = 1 /\ D.nx (env.set j (some v.sv))))
  | _ => False
theorem A68 {n : Int} {D : PEnds} : C1o i n j D env = B9u env[i]? n j D env := rfl
theorem A78 {n : Int} {D : PEnds} : B9u (some (some (.bt t))) n j D env = ∃ u v, t.pair = some (u, v) /\ ((n = 0 /\ D.nx (env.set j (some u.sv))) \/ (n = 1 /\ D.nx (env.set j (some v.sv)))) := rfl
class Box (α : Type) where
  f : α -> Prop
def hold {α : Type} [b : Box α] (x : α) : Prop := b.f x
theorem A3i {α : Type} {f : α -> Prop} {x : α} : @hold α ⟨f⟩ x = f x := rfl
theorem A67 {psp : PSp} {pa : PAs} {env : PEnv} {Q : SV -> PEnv -> Prop} : B9i psp pa env Q = pa env fun as e => psp as (@hold SV ⟨fun s => Q s e⟩) := rfl
theorem A2r {psp : PSp} {pa pb : PDt} {env : PEnv} {Q : SV -> PEnv -> Prop} : B3x psp pa pb env Q = pa env fun x e => pb e fun y e2 => psp [.d x, .d y] (@hold SV ⟨fun s => ∃ b, s = .d (.bool b) /\ Q (.d (.bool b)) e2⟩) := rfl
theorem B3e {xs : List PyData} {i : Int} {Q : SV -> Prop} : pIx (.list xs) (.int i) Q = pGet xs i (@hold SV ⟨Q⟩) := rfl
theorem B3d {xs : List PyData} {i : Int} {Q : SV -> Prop} : pIx (.tuple xs) (.int i) Q = pGet xs i (@hold SV ⟨Q⟩) := rfl
theorem A64 {pi : PAr} {pg : PyData -> PEnv -> (PEnv -> Prop) -> Prop} {pt : PTt} {pd : PDt} {cap : List (Option Nat)} {env : PEnv} {Q : SV -> PEnv -> Prop} : B9g pi pg pt pd cap env Q = pi env fun xs e => xs.length < 1000000 /\ M8 xs pg pt pd (J6 cap e) (@hold (List PyData) ⟨fun ys => Q (.own ys) e⟩) := rfl
theorem U3 {pi : PAr} {pg : PyData -> PEnv -> (PEnv -> Prop) -> Prop} {pt : PTt} {pd : PDt} {cap : List (Option Nat)} {i : Nat} {D : PEnds} {env : PEnv} : A2i pi pg pt pd cap i D env = pi env fun xs e => xs.length < 1000000 /\ M8 xs pg pt pd (J6 cap e) (@hold (List PyData) ⟨fun ys => D.nx (e.set i (some (.own ys)))⟩) := rfl
end
end Pu
namespace L2
open PySem PySem.Spec PyProof.Rows
section
variable {X : Cx}
def rInD (K : PySem.W.Frag) (neg : Bool) : R2 := fun x y H Q => ∃ dx dy xs, Den K H x dx /\ Den K H y dy /\ (dy = .list xs \/ dy = .tuple xs) /\ PyData.canLayAll0 xs = true /\ dx.canLay0 = true /\ dx.depth <= 60 /\ Q (.bl (if neg then !(xs.any fun z => z.eqv dx) else xs.any fun z => z.eqv dx)) H
theorem B9m (hu : X.A.units + 64 < cLine) : OpR X (compareOp .In) (rInD X.K false) := by
  intro pins s σ H x y v u Q I rx ry h
  obtain ⟨dx, dy, xs, h1, h2, h3, c1, c2, hd, q⟩ := h
  obtain ⟨as, r1⟩ := h1.reads I rx c2
  obtain ⟨bs, r2⟩ := h2.reads I ry (by rcases h3 with rfl | rfl <;> exact c1)
  rcases h3 with rfl | rfl
  · exact PySem.SeqAt.in_list_reads r2 r1 c1 c2 (by omega) ⟨.bl _, H, I, rfl, q⟩
  · exact PySem.SeqAt.in_tuple_reads r2 r1 c1 c2 (by omega) ⟨.bl _, H, I, rfl, q⟩
theorem A7a (hu : X.A.units + 64 < cLine) : OpR X (compareOp .NotIn) (rInD X.K true) := by
  intro pins s σ H x y v u Q I rx ry h
  obtain ⟨dx, dy, xs, h1, h2, h3, c1, c2, hd, q⟩ := h
  obtain ⟨as, r1⟩ := h1.reads I rx c2
  obtain ⟨bs, r2⟩ := h2.reads I ry (by rcases h3 with rfl | rfl <;> exact c1)
  rcases h3 with rfl | rfl
  · exact PySem.SeqAt.notIn_list_reads r2 r1 c1 c2 (by omega) ⟨.bl _, H, I, rfl, q⟩
  · exact PySem.SeqAt.notIn_tuple_reads r2 r1 c1 c2 (by omega) ⟨.bl _, H, I, rfl, q⟩
theorem A7b {K : PySem.W.Frag} (h : X.K = K) (hu : X.A.units + 64 < cLine) : OpR X (compareOp .In) (rInD K false) := by subst h; exact B9m hu
theorem A4h {K : PySem.W.Frag} (h : X.K = K) (hu : X.A.units + 64 < cLine) : OpR X (compareOp .NotIn) (rInD K true) := by subst h; exact A7a hu
end
end L2
namespace Pu
open PySem L2 My Prf
def pIn (neg : Bool) (x y : PyData) (Q : SV -> Prop) : Prop := P7 y fun xs => PyData.canLayAll0 xs = true /\ x.canLay0 = true /\ x.depth <= 60 /\ Q (.d (.bool (if neg then !(xs.any fun z => z.eqv x) else xs.any fun z => z.eqv x)))
instance ro_in {K : Frag} {neg : Bool} : RO K (rInD K neg) (pIn neg) where
  ok := by
    rintro c w env σ x y dx dy Qp Q rfl E vx vy p k
    unfold pIn P7 at p
    split at p
    · rename_i xs
      exact ⟨dx, _, xs, vx.den E.wok, vy.den E.wok, .inl rfl, p.1, p.2.1, p.2.2.1, k _ _ w (Res.data E (.bl _)) p.2.2.2⟩
    · rename_i xs
      exact ⟨dx, _, xs, vx.den E.wok, vy.den E.wok, .inr rfl, p.1, p.2.1, p.2.2.1, k _ _ w (Res.data E (.bl _)) p.2.2.2⟩
    · exact p.elim
theorem hm_H {w : Wd} : Same (hm w) w.H := fun _ _ h => (A9i h).1
instance (priority := high) re_neH {K : Frag} {ta tb : TE} {pa pb : PDt} [ha : RH K ta pa] [hb : RH K tb pb] : RE K (tOp (rNeD K) ta tb) (pOp pNeD pa pb) where
  ok := by
    rintro c w env σ Qp Q rfl E p k
    refine ha.ok c w env σ _ _ rfl E p fun x dx e1 w1 E1 l1 v1 q1 => ?_
    refine hb.ok c w1 e1 σ _ _ rfl E1 q1 fun y dy e2 w2 E2 l2 v2 q2 => ?_
    have v1' : VH c.K w2 x dx := Den.same (B7c l2) v1
    exact ⟨dx, dy, Den.same hm_H v1', Den.same hm_H v2, q2.1, q2.2.1, q2.2.2.1, k _ _ e2 w2 ((Res.data E2 (.bl _)).pre (l1.trans l2)) q2.2.2.2⟩
instance (priority := high) re_eqH {K : Frag} {ta tb : TE} {pa pb : PDt} [ha : RH K ta pa] [hb : RH K tb pb] : RE K (tOp (rEqD K) ta tb) (pOp pEqD pa pb) where
  ok := by
    rintro c w env σ Qp Q rfl E p k
    refine ha.ok c w env σ _ _ rfl E p fun x dx e1 w1 E1 l1 v1 q1 => ?_
    refine hb.ok c w1 e1 σ _ _ rfl E1 q1 fun y dy e2 w2 E2 l2 v2 q2 => ?_
    have v1' : VH c.K w2 x dx := Den.same (B7c l2) v1
    exact ⟨dx, dy, Den.same hm_H v1', Den.same hm_H v2, q2.1, q2.2.1, q2.2.2.1, k _ _ e2 w2 ((Res.data E2 (.bl _)).pre (l1.trans l2)) q2.2.2.2⟩
def B4i (o : Option (Option SV)) (n : Int) (env : PEnv) (Q : List PyData -> PEnv -> Prop) : Prop := match o with
  | some (some (.bt t)) => ∃ u v xs, t.pair = some (u, v) /\ n = 1 /\ v.sv = .bor xs /\ Q xs env
  | _ => False
def B3l (i : Nat) (n : Int) (env : PEnv) (Q : List PyData -> PEnv -> Prop) : Prop := B4i env[i]? n env Q
theorem A20 {t : OT} {n : Int} {env : PEnv} {Q : List PyData -> PEnv -> Prop} : B4i (some (some (.bt t))) n env Q = ∃ u v xs, t.pair = some (u, v) /\ n = 1 /\ v.sv = .bor xs /\ Q xs env := rfl
theorem EnvOk.take {c : Ct} {w : Wd} {env : PEnv} {σ : St} {i : Nat} {s : SV} (E : EnvOk c w env σ) (h : env[i]? = some (some s)) (hr : s.isRes = true) : ∃ v, σ[i]? = some (some v) /\ Res c w (env.set i none) σ w v s := by
  obtain ⟨v, hv, hV⟩ := E.at' i _ h
  have up : ∀ {j : Nat} {t : SV}, (env.set i none)[j]? = some (some t) -> i ≠ j /\ env[j]? = some (some t) := by
    intro j t q
    rw [List.getElem?_set] at q
    split at q
    · split at q <;> cases q
    · rename_i z; exact ⟨z, q⟩
  have E' : EnvOk c w (env.set i none) σ := ⟨E.wok, E.le0, by simpa using E.len, fun j s q => E.at' j s (up q).2, fun j k s t v u a q1 q2 => E.own j k s t v u a (up q1).2 (up q2).2, E.zf, fun a j t u za q => E.zo a j t u za (up q).2⟩
  exact ⟨v, hv, E', Lw.refl w, hV, fun a f => ⟨fun j t u q z g => (up q).1 (E.own i j _ _ _ _ a h (up q).2 hv z f g), fun za => E.zo a i _ _ za h hv f⟩, hr⟩
def B1o (o : Option (Option SV)) (i : Nat) (env : PEnv) (k : OT -> PEnv -> Prop) : Prop := match o with
  | some (some (.d x)) => k (.leaf x) env
  | some (some (.own xs)) => ∀ a, k (.nd true a (L0 xs)) (env.set i none)
  | some (some (.tr t)) => k t (env.set i none)
  | _ => False
theorem A73 {x : PyData} {i : Nat} {env : PEnv} {k : OT -> PEnv -> Prop} : B1o (some (some (.d x))) i env k = k (.leaf x) env := rfl
theorem A72 {xs : List PyData} {i : Nat} {env : PEnv} {k : OT -> PEnv -> Prop} : B1o (some (some (.own xs))) i env k = ∀ a, k (.nd true a (L0 xs)) (env.set i none) := rfl
theorem A71 {t : OT} {i : Nat} {env : PEnv} {k : OT -> PEnv -> Prop} : B1o (some (some (.tr t))) i env k = k t (env.set i none) := rfl
def B3r (i : Nat) (pr : PEnv -> (OT -> PEnv -> Prop) -> Prop) (env : PEnv) (Q : OT -> PEnv -> Prop) : Prop := B1o env[i]? i env fun t e1 => pr e1 fun r e2 => (∀ a ∈ r.fp, a ∉ t.fp) -> Q (.cons t r) e2
def B88 (i : Nat) (n : Int) (env : PEnv) (Q : SV -> PEnv -> Prop) : Prop := asTr env[i]? fun t => ∃ (m : Nat) (b : Bool) (a : Addr) (ks : OT) (x : PyData), n = m /\ t = .nd b a ks /\ ks.kid m = some (.leaf x) /\ Q (.d x) env
end Pu
namespace L2
open PySem PySem.Spec PyProof.Rows
section
variable {X : Cx} {tg : Expr}
def B8d (K : PySem.W.Frag) : List V -> Hp -> VK -> Prop := fun xs H Q => (∃ p ys, xs = [.ref p] /\ (SqL K H p ys \/ SqT K H p ys) /\ Q (.int ys.length) H) \/ ∃ z, xs = [.str z] /\ z.length <= sizeLine /\ Q (.int z.length) H
theorem C4 {K : PySem.W.Frag} (h : X.K = K) : CallR X (.builtin "len") (B8d K) := by subst h; exact call_len_seq.or A0x
def B5t (K : PySem.W.Frag) : V -> List V -> Hp -> VK -> Prop := fun x vs H Q => ∃ sep p zs, x = .str sep /\ vs = [.ref p] /\ SqL K H p (zs.map V.str) /\ (zs.map fun z => z.length + sep.length).sum <= 1000 /\ Q (.str (sep.join zs)) H
theorem Y5 : ∀ {zs : List Str} {its : List Value}, Vals (zs.map V.str) its -> ∃ l : List (Str × Tok), its = strValues l /\ l.map (·.1) = zs
  | [], _, .nil => ⟨[], rfl, rfl⟩
  | z :: zs, _, .cons r t => by
    obtain ⟨k, rfl⟩ := r
    obtain ⟨l, rfl, e⟩ := Y5 (zs := zs) t
    exact ⟨(z, k) :: l, rfl, by rw [List.map_cons, e]⟩
theorem A3n (k : Nat) : ∀ (zs : List Str) (a : Nat), List.foldl (fun x1 (x2 : Str) => x1 + x2.length + k) a zs = a + (zs.map fun z => z.length + k).sum
  | [], a => by simp
  | z :: zs, a => by rw [List.foldl_cons, A3n k zs, List.map_cons, List.sum_cons]; omega
theorem A0k (k : Array Nat) : ∀ (ps : List Str) (a : Array Nat), (List.foldl (fun acc (p : Str) => acc ++ k ++ p.cps) a ps).size = a.size + (ps.map fun z => z.length + k.size).sum
  | [], a => by simp
  | p :: ps, a => by
    rw [List.foldl_cons, A0k k ps, List.map_cons, List.sum_cons, Array.size_append, Array.size_append]
    show a.size + k.size + p.cps.size + _ = a.size + (p.cps.size + k.size + _)
    omega
theorem B1z {sep : Str} : ∀ {zs : List Str}, (sep.join zs).length <= (zs.map fun z => z.length + sep.length).sum := by
  intro zs
  rw [<- StrLaws.glued_eq_join]
  cases zs with
  | nil => exact Nat.le_refl _
  | cons z r =>
    show (List.foldl (fun acc (p : Str) => acc ++ sep.cps ++ p.cps) z.cps r).size <= _
    rw [A0k, List.map_cons, List.sum_cons]
    show z.cps.size + (r.map fun z => z.length + sep.cps.size).sum <= z.cps.size + sep.cps.size + (r.map fun z => z.length + sep.cps.size).sum
    omega
theorem M2 : 1000 <= sizeLine := by rw [sizeLine_eq]; decide
theorem B67 : MtR X "str.join" (B5t X.K) := by
  intro pins s σ H x vs v us Q I rx rv h
  obtain ⟨sep, p, zs, rfl, rfl, hq, hl, q⟩ := h
  obtain ⟨t, rfl⟩ := rx
  obtain ⟨u, rfl, ru⟩ := rv.one
  cases ru
  obtain ⟨its, r, pl, hz⟩ := I.list hq
  obtain ⟨l, rfl, e⟩ := Y5 r
  have h10 := M2
  have long : Builtin.Str.tooLong (Array.foldl (fun x1 x2 => x1 + x2.length + sep.length) 0 (List.map (fun x => x.fst) l).toArray) = false := by
    rw [List.foldl_toArray, A3n, e]
    unfold Builtin.Str.tooLong
    simp
    omega
  have hj := B1z (sep := sep) (zs := zs)
  refine call_meets F.slot_str_join (typeIs_str s sep t) F.entry_str_join (F.args_str_join_2 _ _) (meets_str_join_list sep t p l long) ⟨pl.isList, ?_⟩
  subst e
  rw [<- StrLaws.glued_eq_join] at q hj
  rcases l with _ | ⟨a, _ | ⟨b, r⟩⟩
  · exact ⟨by omega, .str _, H, I.tok _, ⟨_, rfl⟩, q⟩
  · exact ⟨.str _, H, I, ⟨_, rfl⟩, q⟩
  · exact ⟨by omega, .str _, H, I.tok _, ⟨_, rfl⟩, q⟩
end
end L2
namespace L2
open PySem PySem.Spec PyProof.Rows
section
variable {X : Cx} {tg : Expr} {pos : Pos}
theorem A5p {o i : Expr} {to ti : TE} {t : TSet} (ho : QE X o to) (hi : QE X i ti) (hs : PSet X t)
    (ha : ∀ v, assign (.Subscript o i pos) X.env v = (do
      let ov <- holding [v] (eval o X.env)
      let iv <- holding [v, ov] (eval i X.env)
      standAt pos
      holding [v, ov, iv] (setItem ov iv v)
      release [v, ov, iv] []) := by intro _; rfl) : QG X (.Subscript o i pos) (gSub to ti t) := ⟨A2h ho.out hi.out hs ha⟩
theorem B1s {K : PySem.W.Frag} (h : X.K = K) : MtR X "str.join" (B5t K) := by subst h; exact B67
end
end L2
namespace Pu
open PySem L2 My Prf
def asS (x : PyData) (k : Str -> Prop) : Prop := match x with
  | .str z => k z
  | _ => False
theorem C0v {z : Str} {k : Str -> Prop} : asS (.str z) k = k z := rfl
theorem VV.strE {K : Frag} {w : Wd} {v : V} {z : Str} (h : VV K w v (.str z)) : v = .str z := by
  rcases h with h | ⟨l, vs, xs, e, e', _⟩
  · cases h; rfl
  · cases e'
def sgn (c : Nat) : PyData := .str ⟨#[c]⟩
def C1a (z : Str) : List PyData := z.cps.toList.map sgn
def B3k (pd : PDt) (env : PEnv) (Q : List PyData -> PEnv -> Prop) : Prop := pd env fun x e => asS x fun z => Q (C1a z) e
def pS (gd : Str -> Str -> PyData) (x y : PyData) (Q : SV -> Prop) : Prop := asS x fun i => asS y fun j => Q (.d (gd i j))
def B9h (x y : PyData) (Q : SV -> Prop) : Prop := asS x fun i => asS y fun j => i.length + j.length <= 1000 /\ Q (.d (.str (i ++ j)))
def B6u (z : Str) (i : Int) (Q : SV -> Prop) : Prop := ∃ c, atI z.cps.toList i = some c /\ Q (.d (sgn c))
def pIx2 (x y : PyData) (Q : SV -> Prop) : Prop := match x with
  | .str z => asI y fun i => z.length <= 1000 /\ B6u z i Q
  | x => pIx x y Q
theorem B3i {xs : List PyData} {y : PyData} {Q : SV -> Prop} : pIx2 (.list xs) y Q = pIx (.list xs) y Q := rfl
theorem B3f {xs : List PyData} {y : PyData} {Q : SV -> Prop} : pIx2 (.tuple xs) y Q = pIx (.tuple xs) y Q := rfl
theorem B3h {q : Rat} {y : PyData} {Q : SV -> Prop} : pIx2 (dq q) y Q = pIx (dq q) y Q := rfl
theorem B3j {q : Rat × Rat} {y : PyData} {Q : SV -> Prop} : pIx2 (dcn q) y Q = pIx (dcn q) y Q := rfl
theorem B3g {z : Str} {i : Int} {Q : SV -> Prop} : pIx2 (.str z) (.int i) Q = (z.length <= 1000 /\ B6u z i Q) := rfl
instance (priority := high) ro_ix2 {K : Frag} : RO K (rIx K) pIx2 where
  ok := by
    rintro c w env σ x y dx dy Qp Q rfl E vx vy p k
    unfold pIx2 at p
    split at p
    · unfold asI at p
      split at p
      · obtain ⟨hl, cc, h1, q⟩ := p
        exact .inr (.inr ⟨_, _, cc, vx.strE, vy.intE, Nat.le_trans hl M2, h1, k _ _ w (Res.data E (.str _)) q⟩)
      · exact p.elim
    · exact ro_ix.ok c w env σ x y dx dy Qp Q rfl E vx vy p k
def A4g (xs : List PyData) (Q : SV -> Prop) : Prop := match xs with
  | [.list ys] => Q (.d (.int ys.length))
  | [.tuple ys] => Q (.d (.int ys.length))
  | [.str z] => z.length <= 1000 /\ Q (.d (.int z.length))
  | _ => False
theorem A6u {ys : List PyData} {Q : SV -> Prop} : A4g [.list ys] Q = Q (.d (.int ys.length)) := rfl
theorem A6r {ys : List PyData} {Q : SV -> Prop} : A4g [.tuple ys] Q = Q (.d (.int ys.length)) := rfl
theorem A6t {q : Rat} {Q : SV -> Prop} : A4g [dq q] Q = Q (.d (.int 2)) := rfl
theorem A6s {z : Str} {Q : SV -> Prop} : A4g [.str z] Q = (z.length <= 1000 /\ Q (.d (.int z.length))) := rfl
instance rb_len2 {K : Frag} : RB K (B8d K) A4g where
  ok := by
    rintro c w env σ vs xs Qp Q rfl E vv p k
    unfold A4g at p
    split at p
    · cases vv with | cons h t => cases t; obtain ⟨a, us, e, h1, h2⟩ := h.lst E.wok; exact .inl ⟨a, us, by rw [e], .inl h1, by rw [h2.len]; exact k _ _ w (Res.data E (.int _)) p⟩
    · cases vv with | cons h t => cases t; obtain ⟨a, us, e, h1, h2⟩ := h.tup E.wok; exact .inl ⟨a, us, by rw [e], .inr h1, by rw [h2.len]; exact k _ _ w (Res.data E (.int _)) p⟩
    · cases vv with | cons h t => cases t; exact .inr ⟨_, by rw [h.strE], Nat.le_trans p.1 M2, k _ _ w (Res.data E (.int _)) p.2⟩
    · exact p.elim
def A1f : List PyData -> Option (List Str)
  | [] => some []
  | .str z :: r => (A1f r).map (z :: ·)
  | _ => none
theorem Y6 {K : Frag} {F : Hpp} : ∀ {vs : List V} {xs : List PyData} {zs : List Str}, DenAll K F vs xs -> A1f xs = some zs -> vs = zs.map V.str
  | _, _, zs, .nil, h => by cases h; rfl
  | _, x :: r, zs, .cons d t, h => by
    cases d with
    | str z =>
      have h : (A1f r).map (z :: ·) = some zs := h
      cases q : A1f r with
      | none => rw [q] at h; cases h
      | some ys => rw [q] at h; cases h; rw [Y6 t q]; rfl
    | non => cases h
    | bl => cases h
    | int => cases h
    | lst => cases h
    | tup => cases h
    | dct => cases h
def B6s (po pa : PDt) (env : PEnv) (Q : SV -> PEnv -> Prop) : Prop := po env fun x e => asS x fun sep => pa e fun y e2 => asL y fun ys => ∃ zs, A1f ys = some zs /\ (zs.map fun z => z.length + sep.length).sum <= 1000 /\ Q (.d (.str (sep.join zs))) e2
instance re_join {K : Frag} {to ta : TE} {po pa : PDt} [ho : RW K to po] [ha : RW K ta pa] : RE K (tBM K "str" (B5t K) to (K1 ta tNil)) (B6s po pa) where
  ok := by
    rintro c w env σ Qp Q rfl E p k
    refine ho.ok c w env σ _ _ rfl E p fun v x e1 w1 E1 l1 d1 q1 => ?_
    unfold asS at q1
    split at q1
    · rename_i sep
      have ev := d1.strE
      subst ev
      refine ⟨rfl, ha.ok c w1 e1 σ _ _ rfl E1 q1 fun u y e2 w2 E2 l2 d2 q2 => ?_⟩
      unfold asL at q2
      split at q2
      · obtain ⟨zs, hz, hl, q⟩ := q2
        obtain ⟨a, us, e, h1, h2⟩ := d2.lst E2.wok
        exact ⟨sep, a, zs, rfl, by rw [e], by rw [<- Y6 h2 hz]; exact h1, hl, k _ _ e2 w2 ((Res.data E2 (.str _)).pre (l1.trans l2)) q⟩
      · exact q2.elim
    · exact q1.elim
def B6j (pd : PDt) (i : Nat) (pi : PDt) (D : PEnds) (env : PEnv) : Prop := pd env fun x e => O4 e[i]? fun _ => pi e fun y e2 => asI y fun n => O4 e2[i]? fun xs => ∃ j, ixN xs.length n = some j /\ D.nx (e2.set i (some (.own (xs.set j x))))
theorem DenAll.setAt {K : Frag} {F : Hpp} {v : V} {x : PyData} (d : Den K F v x) : ∀ {vs : List V} {xs : List PyData} (j : Nat), DenAll K F vs xs -> DenAll K F (vs.set j v) (xs.set j x)
  | _, _, _, .nil => .nil
  | _, _, 0, .cons _ t => .cons d t
  | _, _, j + 1, .cons h t => .cons h (DenAll.setAt d j t)
instance rs_setI {K : Frag} {i : Nat} {te ti : TE} {pd pi : PDt} [he : RD K te pd] [hi : RW K ti pi] : RS K (tAsg te (gSub (tVar i) ti B8c)) (B6j pd i pi) where
  ok := by
    rintro c w env σ Dp D rfl E h p
    refine he.ok c w env σ _ _ rfl E p fun v x e1 w1 E1 l1 d1 q1 => ?_
    unfold O4 at q1
    split at q1
    · rename_i xs0 e0
      obtain ⟨o, g0, l, vs, ev, h1, h2, h3, h4, h5⟩ := E1.at' i _ e0
      subst ev
      refine ⟨_, g0, hi.ok c w1 e1 σ _ _ rfl E1 q1 fun u y e2 w2 E2 l2 d2 q2 => ?_⟩
      unfold asI at q2
      split at q2
      · rename_i n
        split at q2
        · rename_i xs e
          obtain ⟨j, hj, q2⟩ := q2
          obtain ⟨o', g0', l', vs', ev', k1, k2, k3, k4, k5⟩ := E2.at' i _ e
          rw [g0] at g0'; cases g0'; cases ev'
          have hn := d2.intE
          refine ⟨l, vs', n, j, rfl, hn, k1, by rw [k5.len]; exact hj, ?_⟩
          exact h.nx _ σ ⟨w2.M, upd w2.H l (.lst (vs'.set j v)), w2.F⟩ (E2.write e g0 k1 k2 k3 k4 (DenAll.setAt (Den.same l2.f d1) j k5)) (l1.f.trans l2.f) q2
        · exact q2.elim
      · exact q2.elim
    · exact q1.elim
def B9e (env : PEnv) (Q : SV -> PEnv -> Prop) : Prop := Q (.d (.dict [])) env
def B3p (env : PEnv) (Q : SV -> PEnv -> Prop) : Prop := Q (.d (.dict [(.none, .none)])) env
theorem A82 : kitB "int" "int" = some true := by decide +kernel
theorem A83 : kitB "int" "bool" = some false := by decide +kernel
theorem A80 : kitB "int" "tuple" = some false := by decide +kernel
theorem A81 : kitB "int" "str" = some false := by decide +kernel
theorem A9a : kitB "bool" "int" = some true := by decide +kernel
theorem A9b : kitB "bool" "bool" = some true := by decide +kernel
theorem A88 : kitB "bool" "tuple" = some false := by decide +kernel
theorem A89 : kitB "bool" "str" = some false := by decide +kernel
theorem A8u : kitB "NoneType" "int" = some false := by decide +kernel
theorem A8v : kitB "NoneType" "bool" = some false := by decide +kernel
theorem A8s : kitB "NoneType" "tuple" = some false := by decide +kernel
theorem A8t : kitB "NoneType" "str" = some false := by decide +kernel
theorem A8q : kitB "str" "int" = some false := by decide +kernel
theorem A8r : kitB "str" "bool" = some false := by decide +kernel
theorem A8o : kitB "str" "tuple" = some false := by decide +kernel
theorem A8p : kitB "str" "str" = some true := by decide +kernel
theorem A8y : kitB "list" "int" = some false := by decide +kernel
theorem A8z : kitB "list" "bool" = some false := by decide +kernel
theorem A8w : kitB "list" "tuple" = some false := by decide +kernel
theorem A8x : kitB "list" "str" = some false := by decide +kernel
theorem A8m : kitB "tuple" "int" = some false := by decide +kernel
theorem A8n : kitB "tuple" "bool" = some false := by decide +kernel
theorem A8k : kitB "tuple" "tuple" = some true := by decide +kernel
theorem A8l : kitB "tuple" "str" = some false := by decide +kernel
theorem A86 : kitB "dict" "int" = some false := by decide +kernel
theorem A87 : kitB "dict" "bool" = some false := by decide +kernel
theorem A84 : kitB "dict" "tuple" = some false := by decide +kernel
theorem A85 : kitB "dict" "str" = some false := by decide +kernel
theorem A13 {kvs : List (PyData × PyData)} : tyD (.dict kvs) = "dict" := rfl
def B3v (pr pr' : PyData -> PyData -> (SV -> Prop) -> Prop) (pa pb pc : PDt) (env : PEnv) (Q : SV -> PEnv -> Prop) : Prop :=
  pa env fun x e1 => pb e1 fun y e2 => pr x y fun s => s.asD fun b => asB b fun k => if k = true then pc e2 fun z e3 => pr' y z fun s2 => Q s2 e3 else Q (.d (.bool false)) e2
end Pu
namespace L2
open PySem PySem.Spec PyProof.Rows
section
variable {prog : Program} {w : World} {A : Around} {E : Value -> Shared -> Prop} {h : Heap} {g : Array GenState} {d : Drawn} {t : Nat} {os : OsState} {a C : Addr} {o : Obj} {vs : Array Value} {K : PySem.W.Frag}
structure ExK (K : PySem.W.Frag) (C : Addr) : Prop where
  ga : PySem.W.findIn K (.ref C) "__getattribute__" = some (some (.builtin "BaseException.__getattribute__"))
  gn : PySem.W.findIn K (.ref C) "__getattr__" = some none
  gc : PySem.W.findIn K (.ref C) "__class__" = some (some (.builtin "object.__class__"))
  sb : PySem.W.subIn K (.ref C) (.type "BaseException") = some true
  so : PySem.W.subIn K (.ref C) (.type "object") = some true
theorem B7w {R : Result -> Shared -> Prop} (X : K.In h) (k : ExK K C) (hx : h.get? a = some o) (hc : o.cls = .ref C) (hq : R (.ok (.ret (.ref C))) ⟨h, g, d, t, os⟩) :
    codeAny (model prog w) A (.call (.builtin "getset_descriptor.__get__") ⟨[.builtin "object.__class__", .ref a, .ref C], []⟩) R ⟨h, g, d, t, os⟩ := by
  have yT : (⟨h, g, d, t, os⟩ : Shared).TypeIs (.builtin "object.__class__") "getset_descriptor" := F.typeOf_object_class
  have LO := PySem.W.looks_subIn (M := model prog w) X k.so
  have ow : (".".intercalate ("object.__class__".cutAt '.').dropLast) = "object" := F.owner_object_class
  refine codeAny_call_builtin F.slot_gs_get.plain F.entry_gs_get (F.slot_gs_get.check _ _ _ _ _ _ _ _ (yT) (F.args_gs_get _ _ _) ?_)
  repeat (any_goals (first | assumption | (with_reducible refine wpAny_loadPart_at hx ?_; rw [hc]) | (rw [ow]; with_reducible refine LO.at ?_) | with_reducible refine LO.at ?_ | wp_step))
  refine ⟨Code.quiet_builtin _ (by decide +kernel), codeAny_builtin (F.entry_object_class) ?_⟩
  repeat (any_goals (first | assumption | (with_reducible refine wpAny_loadPart_at hx ?_; rw [hc]) | wp_step))
theorem B0n {tk : Tok} {Q : Fin -> Shared -> Prop} (X : K.In h) (k : ExK K C) (hx : h.get? a = some o) (hc : o.cls = .ref C) (hq : Q (.done (.ret (.ref C))) ⟨h, g, d, t, os⟩) :
    wpAny (model prog w) A (Builtin.«object.__getattribute__» ⟨[.ref a, .str "__class__" tk], []⟩) Q E ⟨h, g, d, t, os⟩ := by
  have yT : (⟨h, g, d, t, os⟩ : Shared).TypeIs (.builtin "object.__class__") "getset_descriptor" := F.typeOf_object_class
  have LC := PySem.W.looks_findIn (M := model prog w) X k.gc
  have u5 := F.typeOf_object_class
  have u6 := F.slot_gs_get.lookup
  have u7 := F.slot_gs_set.lookup
  repeat (any_goals (first | assumption | (with_reducible refine wpAny_loadPart_at hx ?_; rw [hc]) | with_reducible refine LC.at ?_ | wp_step))
  refine B7w X k hx hc ?_
  repeat (any_goals first | assumption | wp_step)
theorem B0o {M : Model} {nameV : Value} {Q : Unit -> Shared -> Prop} (X : K.In h) (k : ExK K C) (hx : h.get? a = some o) (hc : o.cls = .ref C) (hq : Q () ⟨h, g, d, t, os⟩) :
    wpAny M A (checkBuiltinCall "BaseException.__getattribute__" ⟨[.ref a, nameV], []⟩) Q E ⟨h, g, d, t, os⟩ := by
  have k1 : builtinKind "BaseException.__getattribute__" = some .slot := by decide +kernel
  have k2 : splitId "BaseException.__getattribute__" = some ("BaseException", "__getattribute__") := by decide +kernel
  have LB := PySem.W.looks_subIn (M := M) X k.sb
  have u0 := F.args_bexc_ga (.ref a) nameV
  simp only [checkBuiltinCall, k1, k2]
  refine wpAny_bind ?_
  unfold isInstance
  repeat (first | (with_reducible refine wpAny_loadPart_at hx ?_; rw [hc]) | with_reducible refine LB.at ?_ | wp_step)
  exact hq
theorem C07 {tk : Tok} {Q : Value -> Shared -> Prop} (X : K.In h) (k : ExK K C) (hx : h.get? a = some o) (hc : o.cls = .ref C) (hq : Q (.ref C) ⟨h, g, d, t, os⟩) :
    wpAny (model prog w) A (getAttrBy (.ref a) (.str "__class__" tk) false) Q E ⟨h, g, d, t, os⟩ := by
  have u3 := F.attrBase_ValueError.ga.bind (.ref a)
  have LG := PySem.W.looks_findIn (M := model prog w) X k.ga
  have LN := PySem.W.looks_findIn (M := model prog w) X k.gn
  have z2 : (Value.builtin "BaseException.__getattribute__" == Value.builtin "object.__getattribute__") = false := by decide +kernel
  have z1 : (onTheHeap (Value.ref C) && Value.builtin "BaseException.__getattribute__" == Value.builtin "object.__getattribute__") = false := by rw [z2]; rfl
  repeat (any_goals (first | assumption | (with_reducible refine wpAny_loadPart_at hx ?_; rw [hc]) | with_reducible refine LG.at ?_ | with_reducible refine LN.at ?_ | wp_step))
  refine codeAny_call_builtin F.attrBase_ValueError.ga.plain F.entry_bexc_ga (B0o X k hx hc (B0n X k hx hc ?_))
  repeat (any_goals first | assumption | wp_step)
theorem B49 {Q : Option Value -> Shared -> Prop} (X : K.In h) (k : ExK K C) (hx : h.get? a = some o) (hc : o.cls = .ref C) (hq : Q (some (.ref C)) ⟨h, g, d, t + 1, os⟩) : wpAny (model prog w) A (getAttr? (.ref a) "__class__") Q E ⟨h, g, d, t, os⟩ := by
  unfold getAttr? getAttrBy?
  repeat (any_goals (first | assumption | with_reducible apply C07 X k hx hc | wp_step))
def ExAt (a C : Addr) (h : Heap) : Prop := ∃ o, h.get? a = some o /\ o.cls = .ref C
theorem ExAt.ty {M : Model} (p : ExAt a C h) : PySem.W.Looks M h (typeOf (.ref a)) (.ref C) := by
  obtain ⟨o, e, q⟩ := p
  rw [<- q]
  exact (PySem.W.Looks.ld e).andThen .now
theorem B1y (k : ExK K C) (it : ∀ (M : Model) (h : Heap), K.In h -> PySem.W.Looks M h (isType (.ref C)) true) (ne : ∀ o, K.lookup C = some o -> o.cls ≠ .type "tuple") (hl : (K.lookup C).isSome = true) : PySem.W.KitX K (.ref a) (.ref C) (ExAt a C) where
  ty := fun _ _ _ p => p.ty
  it := fun M h X _ => it M h X
  ne := fun h tp dd its n sl X e => Bool.eq_false_iff.mpr fun q => by
    have z : C = tp := Value.ref.inj (beq_iff_eq.mp q)
    subst z
    obtain ⟨o, ho⟩ := Option.isSome_iff_exists.mp hl
    have := X _ _ ho
    rw [e] at this; cases this
    exact ne _ ho rfl
  ca := fun {_ _ _ _ _ s} X p q => by
    obtain ⟨h, g, d, t, os⟩ := s
    obtain ⟨o, e, z⟩ := p
    exact B49 X k e z q
end
end L2
namespace L2
open PySem PySem.Spec PyProof.Rows
structure Fly (P : Program) (w : World) (outer : List Env) (H : Hp) (s s' : Shared) (a : Addr) (cls a0 : Value) (H' : Hp) (B : Heap) : Prop where
  os : s'.os = s.os
  bare : AllBare s'.gens
  fly : Heap.FlyingW B outer a cls a0 s'.heap
  hok : HOk P w H' B
  keep : ∀ b o, s.heap.get? b = some o -> H b = none -> b ∉ frs outer -> B.get? b = some o
  slot : ∀ b o, s.heap.get? b = some o -> H b = none -> b ∈ frs outer -> ∃ sl, s'.heap.get? b = some { o with slots := sl }
  free : ∀ b o, s.heap.get? b = some o -> H b = none -> H' b = none
  there : ∀ b o, s.heap.get? b = some o -> b ∉ frs outer -> ∃ o', B.get? b = some o'
  tups : ∀ b xs, H b = some (.tup xs) -> H' b = some (.tup xs)
  frzs : ∀ b o u, H b = some (.frz o u) -> H' b = some (.frz o u)
  tbls : ∀ b ps, H b = some (.tbl ps) -> ∃ more, H' b = some (.tbl (ps ++ more))
def CX1 (P : Program) (w : World) : CXT := fun outer H s E e s' => ∃ (a : Addr) (cls a0 : Value) (H' : Hp) (B : Heap), e = .ref a /\ Fly P w outer H s s' a cls a0 H' B /\ E cls none H'
section
variable {P : Program} {w : World} {outer : List Env} {H H' : Hp} {s s' : Shared} {a : Addr} {cls a0 : Value} {B : Heap}
theorem Fly.un (F : Fly P w outer H s s' a cls a0 H' B) : Un (frs outer) [] H H' s.heap s'.heap where
  keep := fun b o e n hb _ => F.fly.1 b o (F.keep b o e n hb)
  slot := fun b o e n hb _ => F.slot b o e n hb
  free := fun b o e n _ => F.free b o e n
  there := fun b o e _ => by
    by_cases hb : b ∈ frs outer
    · obtain ⟨_, o', ho, _⟩ := F.fly.2.2.1.mem hb
      exact ⟨o', ho⟩
    · obtain ⟨o', ho⟩ := F.there b o e hb
      exact ⟨o', F.fly.1 b o' ho⟩
  tups := F.tups
  frzs := F.frzs
  tbls := F.tbls
theorem Fly.step {h' : Heap} (F : Fly P w outer H s s' a cls a0 H' B) (hf : Heap.FlyingW B outer a cls a0 h') (hs : s'.heap.UpToSlots h') : Fly P w outer H s { s' with heap := h' } a cls a0 H' B :=
  ⟨F.os, F.bare, hf, F.hok, F.keep, fun b o e n hb => by
    obtain ⟨sl, e1⟩ := F.slot b o e n hb
    obtain ⟨_, o', ho, hn⟩ := F.fly.2.2.1.mem hb
    rw [e1] at ho; cases ho
    obtain ⟨sl2, e2⟩ := hs b _ e1 hn
    exact ⟨sl2, e2⟩, F.free, F.there, F.tups, F.frzs, F.tbls⟩
theorem B9p {h : Heap} {o : HO} (x : ObjOk P w H h a o) : ∃ ob, h.get? a = some ob := by
  cases o with
  | lst xs => obtain ⟨_, _, _, _, e⟩ := x; exact ⟨_, e⟩
  | tup xs => obtain ⟨_, _, _, o, e, _⟩ := x; exact ⟨_, e⟩
  | dK kvs => obtain ⟨_, _, _, _, o, _, _, e, _⟩ := x; exact ⟨_, e⟩
  | dT kvs => obtain ⟨_, _, _, _, o, _, _, e, _⟩ := x; exact ⟨_, e⟩
  | set S n => obtain ⟨o, _, _, _, e, _⟩ := x; exact ⟨_, e⟩
  | ins C dx fs => obtain ⟨_, _, _, e, _⟩ := x; exact ⟨_, e⟩
  | own y => exact x
  | xd fs => obtain ⟨_, ⟨_, _, _, e, _⟩, _⟩ := x; exact ⟨_, e⟩
  | rng lo hi => obtain ⟨_, _, _, e⟩ := x; exact ⟨_, e⟩
  | frz ob u => obtain ⟨e, _⟩ := x; exact ⟨_, e⟩
  | tbl ps => exact ⟨_, x⟩
  | met f y => exact ⟨_, x⟩
  | ext φ => exact x.2.1
theorem Fly.new (F : Fly P w outer H s s' a cls a0 H' B) : H' a = none := by
  cases q : H' a with
  | none => rfl
  | some o =>
    obtain ⟨ob, e⟩ := B9p (F.hok a o q)
    rw [F.fly.2.1] at e; cases e
end
section
variable {P : Program} {w : World} {K : PySem.W.Frag} {mg : Str -> Option Value} {base : Heap} {N : List Str} {qual : Str} {scope : Scope} {f : Addr} {cd : Value} {A : Around} {outer : List Env} {s0 : Shared} {H0 : Hp} {E : XK}
theorem A21 {X : Cx} {pins : List (Addr × Obj)} {σ : St} {H : Hp} {s : Shared} (I : Inv X pins σ H s) {b : Addr} {o : Obj} (e : X.s₀.heap.get? b = some o) (hb : b ∉ X.fs) : b ∉ frs X.stack := fun z => by
  rcases List.mem_cons.mp (I.stkSub b z) with q | q
  · exact Nat.ne_of_lt (Nat.lt_of_lt_of_le (Heap.lt_size e) I.ok.above) q
  · exact hb q
def B47 (X : Cx) (E : XK) : Prop := ∀ (pins : List (Addr × Obj)) (σ : St) (H : Hp) (s : Shared) (h' : Heap) (e : Addr) (cls : Value) (args : List Value), Inv X pins σ H s -> Heap.MadeExcOf s.heap h' e cls args -> E cls none H -> X.xe (.ref e) { s with heap := h' }
theorem B5f : B47 (cxOf (CX1 P w) P w K mg base N qual scope f cd A outer s0 H0 E) E := by
  intro pins σ H s h' e cls args I hx q
  have nx : ∀ b : Addr, b ∉ (cxOf (CX1 P w) P w K mg base N qual scope f cd A outer s0 H0 E).ex := fun b z => absurd z (List.not_mem_nil)
  have hB : ∀ b o, s.heap.get? b = some o -> b ∉ frs (cxOf (CX1 P w) P w K mg base N qual scope f cd A outer s0 H0 E).stack -> (PySem.W.hideAll s.heap (frs (cxOf (CX1 P w) P w K mg base N qual scope f cd A outer s0 H0 E).stack)).get? b = some o := fun b o e z => PySem.W.hideAll_get _ e z
  have hin : ∀ env ∈ (cxOf (CX1 P w) P w K mg base N qual scope f cd A outer s0 H0 E).stack, ∀ a, env.frame = some a -> a ∈ frs (cxOf (CX1 P w) P w K mg base N qual scope f cd A outer s0 H0 E).stack := fun env he a ha => List.mem_filterMap.mpr ⟨env, he, ha⟩
  refine wpAny_leaves_madeW (base := PySem.W.hideAll s.heap (frs (cxOf (CX1 P w) P w K mg base N qual scope f cd A outer s0 H0 E).stack)) (h := s.heap) I.ok.frames rfl (fun b o q => PySem.W.of_hideAll _ q) (PySem.W.funFrames_hide I.stack hin) hx fun h2 t x1 x2 x3 x4 => ?_
  refine ⟨e, cls, .ref t, H, _, rfl, ⟨I.os, I.bare, x1, fun b o eb => (I.hok b o eb).stay (fun c v hc z => hB c v z fun hm => ?_) (fun _ z => z) (fun _ _ z => z), fun b o e n hb => ?_, fun b o e n hb => ?_, fun b o e n => I.base.free b o e n (nx b), fun b o e hb => ?_, I.base.tups, I.base.frzs, I.base.tbls⟩, q⟩
  · have := I.stkFree c hm
    rcases hc with hc | hc
    · rw [hc, eb] at this; cases this
    · rw [hc] at this; cases this
  · exact hB b o (I.base.keep b o e n hb (nx b)) (A21 I e hb)
  · obtain ⟨sl, e1⟩ := I.base.slot b o e n hb (nx b)
    have hb2 : b ∈ frs (cxOf (CX1 P w) P w K mg base N qual scope f cd A outer s0 H0 E).stack := by
      show b ∈ List.filterMap _ (_ :: outer)
      rw [List.filterMap_cons]
      split
      · exact hb
      · exact List.mem_cons_of_mem _ hb
    obtain ⟨_, o', ho, hn⟩ := I.stack.mem hb2
    rw [e1] at ho; cases ho
    obtain ⟨sl3, e3⟩ := x4 b _ (hx.keeps b _ e1) hn
    exact ⟨sl3, e3⟩
  · obtain ⟨o', e1⟩ := I.base.there b o e (nx b)
    exact ⟨o', hB b o' e1 (A21 I e hb)⟩
end
end L2
namespace L2
open PySem PySem.Spec PyProof.Rows
def A34 : List Value := [.type "ValueError", .type "Exception", .type "BaseException", .type "object"]
theorem exo {K : PySem.W.Frag} {h : Heap} {C : Addr} {nid : String} (X : K.In h) (q : PySem.W.excIn K C A34 nid = true) : ∃ bm N nm qn bs hd sn sub ab col dd k0 k1 k2 k3 k5 mN,
    h.get? C = some (excClassObj nm qn C N bs bm hd sn sub ab col dd k0 k1 k2 k3 k5 nid) /\ h.Ns N mN /\ mN "__init__" = none /\ OwnTail h A34 bm := by
  unfold PySem.W.excIn at q
  split at q
  · rename_i dd cd sl ho
    split at q
    · rename_i C1 bm k0 k1 k2 k3 n k5 e1 e2
      simp only [Bool.and_eq_true, beq_iff_eq, Bool.not_eq_true'] at q
      obtain ⟨⟨⟨⟨⟨q1, q2⟩, q3⟩, q4⟩, q5⟩, q6⟩ := q
      subst q1 q2
      obtain ⟨nm, bs, mro, ns, qn, hd, sn, sub, ab, col, del⟩ := cd
      have e3 : sl = #[k0, k1, k2, k3, some (.builtin n), k5] := by cases sl; simp only at e2; rw [e2]
      simp only at e1 q3 q5 q6
      subst e3 e1 q3
      exact ⟨bm, ns, nm, qn, bs, hd, sn, sub, ab, col, dd, k0, k1, k2, k3, k5, _, X _ _ ho, .of_isNs (PySem.W.isNs_of_in X q5), PySem.W.nsMap_none_of_in X q5 q6, PySem.W.tail_of_in X q4⟩
    · cases q
  · cases q
def B70 (E : XK) (cls : Value) : TS := fun _ _ H => E cls none H
section
variable {X : Cx} {E : XK} {x : Str} {C : Addr} {pos np cpos : Pos} {e : Expr} {es : List Expr} {t : TA}
theorem B02 (hT : B47 X E) (hc : X.calm = true) (hg : Gl X x) (hm : X.mg x = some (.ref C)) (hex : PySem.W.excIn X.K C A34 "ValueError.__new__" = true) {z : Str} {j : Nat} {sp : Pos} (hd : (x == ("__debug__" : Str)) = false := by decide) :
    PS X (.Raise (some (.Call (.Name x np) [.Constant (.str z) j sp] [] cpos)) none pos) (B70 E (.ref C)) := by
  intro pins s σ H D I h
  obtain ⟨bm, N, nm, qn, bs, hd', sn, sub, ab, col, dd, k0, k1, k2, k3, k5, mN, h1, h2, h3, h4⟩ := exo I.ok.mod.kin hex
  refine wpAny_Raise_call_subT (nm := nm) (q := qn) (N := N) (bs := bs) (hdct := hd') (sn := sn) (sub := sub) (ab := ab) (col := col) (dd := dd) (k0 := k0) (k1 := k1) (k2 := k2) (k3 := k3) (k5 := k5) F.excBase_ValueError (h4.hasType (by rfl)) (I.ok.hd hc) rfl h3 (P2 I hg hm ⟨rfl, ?_⟩ hd)
  refine Calls.evalArgs_plain (thn ((I0 (B21 (x := z)) O0 : PA X [.Constant (.str z) j sp] _) cpos pins s σ H (fun vs H' => vs.length <= 1 /\ H' = H) I ⟨Nat.le_refl _, rfl⟩) fun us s2 hA => ?_)
  obtain ⟨vs, H1, I1, r, hl, rfl⟩ := hA
  refine ⟨rfl, ?_, I1.bk _ _ h1, h2.keeps I1.bk, h4.keeps I1.bk, fun h' e made => hT pins σ H1 s2 h' e _ _ I1 made h⟩
  rw [<- r.length]
  exact Nat.le_trans hl (Nat.le_trans (by decide) M2)
end
abbrev Cx.held (X : Cx) (a : Addr) (oe : Obj) : Cx := { X with A := X.A.mark (some (.ref a)), calm := false, pn := (a, oe) :: X.pn, xe := fun _ _ => False }
section
variable {X : Cx} {pins : List (Addr × Obj)} {σ : St} {H : Hp} {s : Shared} {a : Addr} {oe : Obj}
theorem Cx.Ok.held (ok : X.Ok) : (X.held a oe).Ok :=
  ⟨ok.mod, ok.kind, ok.glob, ok.blt, ok.above, ok.inj, ok.has, ok.cab, fun z => (by cases z), ok.frames, ok.stk, ok.exf, ok.bs, ok.bsz, ok.noex, ok.exfs, ok.funs, ok.frf⟩
theorem Inv.hold (I : Inv X pins σ H s) (e : s.heap.get? a = some oe) (n : H a = none) (nl : a ≠ X.env.locals) (nf : a ∉ X.fs) (nc : ∀ v, oe.data ≠ .cell v) : Inv (X.held a oe) pins σ H s :=
  ⟨I.ok.held, I.os, I.bare, I.base, I.loc, I.cell, I.free, I.freeC, fun p hp => by
    rcases List.mem_cons.mp (show p ∈ (a, oe) :: (X.pn ++ pins) from hp) with q | q
    · subst q; exact ⟨e, n, nl, nf, nc⟩
    · exact I.pin p q, I.hok, I.len⟩
theorem Inv.loose (I : Inv (X.held a oe) pins σ H s) (ok : X.Ok) : Inv X pins σ H s :=
  ⟨ok, I.os, I.bare, I.base, I.loc, I.cell, I.free, I.freeC, fun p hp => I.pin p (List.mem_cons_of_mem _ hp), I.hok, I.len⟩
theorem B7d {i : Nat} {n : Str} {pos : Pos} {M : Model} {A : Around} {E : Value -> Shared -> Prop} {Q : Unit -> Shared -> Prop} (I : Inv X pins σ H s) (hN : X.N.Nodup) (hi : X.N[i]? = some n) (hk : X.env.scope.names.lookup n = some .local)
    (h : ∀ s', Inv X pins (σ.set i none) H s' -> Q () s') : wpAny M A (do bindName X.env n .none; unbindBehindTheSuite X.env n pos) Q E s := by
  obtain ⟨m, hn, hl⟩ := id I.loc
  have his : i < σ.length := by rw [I.len]; exact (List.getElem?_eq_some_iff.mp hi).1
  refine wpAny_nameGoes_keeps hk hn (by rw [I.ok.kind]; rfl) fun h' v hn' hs => h _ ?_
  obtain ⟨oo, _, _, hoo, _⟩ := id hn
  have ne : ∀ b o, X.s₀.heap.get? b = some o -> b ≠ X.env.locals := fun b o e => Nat.ne_of_lt (Nat.lt_of_lt_of_le (Heap.lt_size e) I.ok.above)
  refine ⟨I.ok, I.os, I.bare, ⟨fun b o e z hb hx => (hs.2 b (ne b o e)).trans (I.base.keep b o e z hb hx), fun b o e z hb hx => ?_, I.base.free, fun b o e hx => ?_, I.base.tups, I.base.frzs, I.base.tbls⟩, ⟨_, hn', fun j y v2 e1 e2 e3 => ?_⟩, fun y c e => ?_, I.free, I.freeC, fun p hp => ?_, fun b ob e => ?_, by simpa using I.len⟩
  · obtain ⟨sl, e1⟩ := I.base.slot b o e z hb hx
    exact ⟨sl, (hs.2 b (ne b o e)).trans e1⟩
  · obtain ⟨o', e1⟩ := I.base.there b o e hx
    exact ⟨o', (hs.2 b (ne b o e)).trans e1⟩
  · by_cases hj : j = i
    · subst hj
      rw [List.getElem?_set_self his] at e2
      cases e2
    · rw [List.getElem?_set_ne (Ne.symm hj)] at e2
      obtain ⟨u2, r2, q⟩ := hl j y v2 e1 e2 e3
      refine ⟨u2, r2, ?_⟩
      rcases q with ⟨k, e⟩ | ⟨k, c, e, zz⟩
      · refine .inl ⟨k, ?_⟩
        have : y ≠ n := fun e => hj (X1 hN e1 (e ▸ hi))
        simp [this, e]
      · exact .inr ⟨k, c, e, zz.sameBut hs (I.cne y c e)⟩
  · obtain ⟨w2, z⟩ := I.cell y c e
    exact ⟨w2, z.sameBut hs (I.cne y c e)⟩
  · obtain ⟨e, z, nl, nf, d⟩ := I.pin p hp
    exact ⟨(hs.2 p.1 nl).trans e, z, nl, nf, d⟩
  · refine (I.hok b ob e).stay (fun c w2 hc q => (hs.2 c ?_).trans q) (fun _ q => q) fun _ _ q => q
    rintro rfl
    rcases hc with rfl | hc
    · rw [I.free] at e; cases e
    · rw [I.free] at hc; cases hc
end
end L2
namespace L2
open PySem PySem.Spec PyProof.Rows
def B5h (sp : Sp) (t : TA) (C : Addr) (b : Bool) : TS := fun D σ H => t σ H fun vs H1 => sp (vs ++ []) H1 (fun _ _ => False) fun cls _ H2 => cls = .ref C /\ ∀ H3, Same H2 H3 -> D.rt (.bl b) H3
def tKS (i : Nat) (a : Addr) (b : Bool) : TS := fun D σ H => σ[i]? = some (some (.ref a)) /\ ∀ H3, Same H H3 -> D.rt (.bl b) H3
section
variable {P : Program} {w : World} {outer : List Env} {H H' : Hp} {s s' : Shared} {a : Addr} {cls a0 : Value} {B : Heap}
theorem Fly.hok2 (F : Fly P w outer H s s' a cls a0 H' B) : HOk P w H' s'.heap := fun b o e => (F.hok b o e).stay (fun c v _ z => F.fly.1 c v z) (fun _ z => z) fun _ _ z => z
end
section
variable {X : Cx} {pins : List (Addr × Obj)} {σ : St} {H H' : Hp} {s s' : Shared} {a : Addr} {cls a0 : Value} {B : Heap}
theorem Fly.inv (F : Fly X.prog X.w X.stack H s s' a cls a0 H' B) (I : Inv X pins σ H s) : Inv X pins σ H' s' :=
  I.call' (ch := []) F.os F.un F.hok2 F.bare fun b z => absurd z (by simp)
theorem Fly.hold (F : Fly X.prog X.w X.stack H s s' a cls a0 H' B) (I : Inv X pins σ H s) : ∃ oe, s'.heap.get? a = some oe /\ oe.cls = cls /\ Inv (X.held a oe) pins σ H' s' := by
  obtain ⟨oe, vs, e1, e2, e3, _⟩ := F.fly.first
  have I2 := F.inv I
  refine ⟨oe, e1, e2, I2.hold e1 F.new (fun z => ?_) (fun z => ?_) fun v q => by rw [e3] at q; cases q⟩
  · obtain ⟨m, ⟨o, es, ep, ho, hd, _⟩, _⟩ := I2.loc
    rw [<- z, e1] at ho; cases ho; rw [e3] at hd; cases hd
  · obtain ⟨_, o', ho, hn⟩ := I2.funs.mem z
    rw [e1] at ho; cases ho; exact hn _ e3
end
section
variable {X : Cx} {k i : Nat} {f C CH : Addr} {fd : FuncData} {ps : List Str} {sp : Sp} {x xh n : Str} {p pos pos2 pos3 pos4 pos5 : Pos} {e : Expr} {es : List Expr} {t : TA} {b0 : Stmt} {suite : List Stmt} {b : Bool}
theorem B8p (F : FnOk X.prog X.w X.K X.mg X.base (CX1 X.prog X.w) k f fd ps sp) (hr : Room k X.A) (hg : Gl X x) (hm : X.mg x = some (.ref f)) (hk : PySem.W.keepIn X.K (.ref f) = true) (hb : Binds X.K fd ps [])
    (ha : PA X.nox (e :: es) t) (hgh : Gl X xh) (hmh : X.mg xh = some (.ref CH)) (hx : PySem.W.exmOne X.K (.ref C) (.ref CH) = some true) (hN : X.N.Nodup) (hi : X.N[i]? = some n) (hl : X.env.scope.names.lookup n = some .local)
    (hsu : ∀ a oe, oe.cls = .ref C -> PSs (X.held a oe) (b0 :: suite) (tKS i a b))
    (hst : X.stack = X.env :: X.outer := by rfl) (hfr : X.env.frame = some X.env.locals := by rfl)
    (hdb : (x == ("__debug__" : Str)) = false := by decide) (hdb2 : (xh == ("__debug__" : Str)) = false := by decide) (he : starEach (e :: es) X.env = (false, eval e X.env) :: starEach es X.env := by rfl) (hpl : (backTo pos (starEach es X.env)).any (·.1) = false := by rfl)
    (hsw : swapsWith (.Call (.Name x p) (e :: es) [] pos) none pos2.line X.env = pure false := by rfl) :
    PS X (.Try [.Expr (.Call (.Name x p) (e :: es) [] pos) pos2] [.ExceptHandler (some (.Name xh pos3)) (some n) (b0 :: suite) pos4] [] [] pos5) (B5h sp t C b) := by
  intro pins s σ H D I h
  refine wpAny_Try_except (wpAny_execs_cons (wpAny_Expr_any ?_ I.quiet hsw))
  refine wpAny_Call_Name_kw (P2 I hg hm ?_ hdb)
  refine PySem.W.callWith_K (h₀ := X.base) I.ok.mod.kin hk (wpAny_mono (ha pos pins s σ H _ (I.wish _) h) (fun us s1 ⟨vs, H1, I1, r, q⟩ => ⟨I1.unwish.kIn, ?_⟩) fun _ _ z => z.elim) he hpl
  have I1 := I1.unwish
  have r2 : Vals (vs ++ []) (us ++ []) := r.append .nil
  have hl2 : (us ++ []).length = ps.length := by rw [<- r2.length]; exact F.len _ _ _ _ q
  refine wpAny_call (codeAny_mono (F.run X.A X.stack s1 H1 ⟨us, []⟩ (us ++ []) (vs ++ []) _ _ hr I1.env0 (hb s1 us I1.kIn hl2) r2 q) fun r s' hq => ?_)
  cases r with
  | ok fl =>
    cases fl with
    | ret u => obtain ⟨v, H', os, bare, un, hok, r, q⟩ := hq; exact q.elim
    | next => exact False.elim hq
    | brk => exact False.elim hq
    | cont => exact False.elim hq
  | error ev =>
    obtain ⟨a, cls, a0, H2, B, rfl, Fl, rfl, qd⟩ := hq
    have hfrm : X.A.frames = some (X.env :: X.outer) := by rw [<- hst]; exact I.ok.frames
    refine wpAny_looks_onW (outer := X.outer) hfrm hfr (by rw [<- hst]; exact Fl.fly) fun h1 hd1 u1 => ?_
    refine wpAny_landsW hd1 fun h2 hd2 u2 => ?_
    have F2 := Fl.step (h' := h2) (by rw [hst]; exact hd2) (u1.trans u2)
    obtain ⟨oe, e1, e2, IH⟩ := F2.hold I1
    refine wpAny_handleBy_cons (codeAny_handlers_test ?_) (fun z => by cases z)
    refine P2 (X := X.held a oe) IH hgh hmh ?_ hdb2
    refine (PySem.W.exm_one IH.kIn (ExAt.ty ⟨oe, e1, e2⟩) hx).at ?_
    show codeAny _ _ _ _ _
    refine codeAny_handlers_suite_as ?_
    refine wpAny_setFlight_noneW hd2.1 hd2.2.2.1 hd2.2.2.2.at fun h3 k1 k2 k3 k4 => ?_
    have F3 := F2.step (h' := h3) (by rw [hst]; exact ⟨k1, hd2.2.1, k2, k3⟩) fun b o e n => ⟨o.slots, k4 b o e n⟩
    obtain ⟨oe3, e31, e32, IH3⟩ := F3.hold I1
    refine N1 (X := X.held a oe3) IH3 hN hi (.inl hl) (show RelV (.ref a) (.ref a) from rfl) (fun s4 I4 => ?_) (.inr hl)
    have hlen : i < σ.length := by rw [I.len]; exact (List.getElem?_eq_some_iff.mp hi).1
    refine wpAny_mono (hsu a oe3 e32 pins s4 _ _ { nx := fun _ _ => False, rt := D.rt } I4 ⟨List.getElem?_set_self hlen, qd⟩) (fun fl s5 hs => ?_) fun _ _ z => False.elim z
    cases fl with
    | next => obtain ⟨_, _, _, q⟩ := hs; exact q.elim
    | brk => obtain ⟨_, _, _, q⟩ := hs; exact q.elim
    | cont => obtain ⟨_, _, _, q⟩ := hs; exact q.elim
    | ret u =>
      obtain ⟨v, σ5, H5, I5, r5, q5⟩ := hs
      exact B7d (I5.loose I.ok) hN hi hl fun s6 I6 => ⟨v, _, _, I6, r5, q5⟩
end
end L2
namespace L2
open PySem PySem.Spec PyProof.Rows
def tK (i : Nat) (a : Addr) (b : Bool) : TT := fun σ H Q => σ[i]? = some (some (.ref a)) /\ ∀ H3, Same H H3 -> Q b H3
def tKE (i : Nat) (a : Addr) (b : Bool) : TE := fun σ H Q => σ[i]? = some (some (.ref a)) /\ ∀ H3, Same H H3 -> Q (.bl b) H3
structure ExC (K : PySem.W.Frag) (C : Addr) : Prop where
  k : ExK K C
  hd : PySem.W.hasDictIn K C = true
  ne : ∀ o, K.lookup C = some o -> o.cls ≠ .type "tuple"
  hl : (K.lookup C).isSome = true
theorem ExC.kit {K : PySem.W.Frag} {C a : Addr} (c : ExC K C) : PySem.W.KitX K (.ref a) (.ref C) (ExAt a C) :=
  B1y c.k (fun M h X => PySem.W.mc_isType (s := ⟨h, #[], {}, 0, {}⟩) X c.hd) c.ne c.hl
section
variable {X : Cx} {a C : Addr} {oe : Obj} {i : Nat} {b : Bool}
inductive ClV : V -> Value -> Prop
  | own (c : Addr) : ClV (.ref c) (.ref c)
  | ty (c : String) : ClV (.ty c) (.type c)
theorem ClV.get {c : V} {u cv : Value} (h : ClV c cv) (r : RelV c u) : u = cv := by
  cases h with
  | own c => exact r
  | ty c => exact r
inductive ClVs : List V -> List Value -> Prop
  | nil : ClVs [] []
  | cons {c : V} {cv : Value} {r : List V} {s : List Value} : ClV c cv -> ClVs r s -> ClVs (c :: r) (cv :: s)
theorem ClVs.get : ∀ {cs : List V} {us cvs : List Value}, ClVs cs cvs -> Vals cs us -> us = cvs
  | [], _, _, .nil, .nil => rfl
  | _ :: _, _, _, .cons h t, .cons r s => by rw [h.get r, t.get s]
theorem ClVs.len : ∀ {cs : List V} {cvs : List Value}, ClVs cs cvs -> cs.length = cvs.length
  | [], _, .nil => rfl
  | _ :: _, _, .cons _ t => congrArg (· + 1) t.len
theorem Inv.held_at {pins : List (Addr × Obj)} {σ : St} {H : Hp} {s : Shared} (I : Inv (X.held a oe) pins σ H s) (e : oe.cls = .ref C) : ExAt a C s.heap :=
  ⟨oe, (I.pin (a, oe) (List.mem_append_left _ List.mem_cons_self)).1, e⟩
theorem B19 (e : oe.cls = .ref C) (xc : ExC X.K C) : CallR (X.held a oe) (.builtin "isinstance") (fun xs H Q => ∃ c cv b, xs = [.ref a, c] /\ ClV c cv /\ PySem.W.kitOne X.K (.ref C) cv = some b /\ Q (.bl b) H) := by
  rintro pins s σ H xs us Q I r ⟨c, cv, b, rfl, hc, hk, q⟩
  obtain ⟨u, v, rfl, ru, rv⟩ := Vals.two r
  cases (show u = Value.ref a from ru)
  cases hc.get rv
  exact PySem.W.kia_one xc.kit I.kIn (I.held_at e) hk (fun z => nomatch z) fun tk => ⟨.bl b, H, I.tok tk, rfl, q⟩
theorem B0a (e : oe.cls = .ref C) (xc : ExC X.K C) : CallR (X.held a oe) (.builtin "isinstance") (fun xs H Q => ∃ t cs cvs b, xs = [.ref a, .ref t] /\ H t = some (.tup cs) /\ ClVs cs cvs /\ PySem.W.kitAny X.K (.ref C) cvs = some b /\ Q (.bl b) H) := by
  rintro pins s σ H xs us Q I r ⟨t, cs, cvs, b, rfl, ht, hc, hk, q⟩
  obtain ⟨u, v, rfl, ru, rv⟩ := Vals.two r
  cases (show u = Value.ref a from ru)
  cases (show v = Value.ref t from rv)
  obtain ⟨its, r1, ⟨⟨k1, dd, da, sl⟩, h1, h2, n, h3⟩, _⟩ := I.tuple (SqT.of (K := X.K) ht)
  dsimp only at h2 h3
  subst h2 h3
  have ei := hc.get r1
  subst ei
  exact PySem.W.kia_tup xc.kit I.kIn (I.held_at e) h1 hk (fun z => nomatch z) fun tk => ⟨.bl b, H, I.tok tk, rfl, q⟩
structure KE (X : Cx) (i : Nat) (a : Addr) (e : Expr) (b : Bool) : Prop where
  out : PE X e (tKE i a b)
structure KT (X : Cx) (i : Nat) (a : Addr) (e : Expr) (b : Bool) : Prop where
  out : PT X e (tK i a b)
structure KS (X : Cx) (i : Nat) (a : Addr) (e : List Stmt) (b : Bool) : Prop where
  out : PSs X e (tKS i a b)
structure KC (X : Cx) (e : Expr) (cv : Value) : Prop where
  out : ∃ c, ClV c cv /\ PE X e (tC c)
structure KCs (X : Cx) (e : List Expr) (cv : List Value) : Prop where
  out : ∃ c, ClVs c cv /\ PA X e fun _ H Q => Q c H
theorem J5 {x : Str} {D : Addr} {pos : Pos} (hg : Gl X x) (hm : X.mg x = some (.ref D)) (hd : (x == ("__debug__" : Str)) = false := by decide) : KC X (.Name x pos) (.ref D) := ⟨_, .own D, A6d hg hm rfl hd⟩
theorem C1y {x : Str} {c : String} {pos : Pos} (hg : Gl X x) (hm : X.mg x = none) (hv : bootBuiltins x = some (.type c)) (hn : x ≠ "__name__" := by decide) (hd : (x == ("__debug__" : Str)) = false := by decide) : KC X (.Name x pos) (.type c) := ⟨_, .ty c, A6e hg hm hv rfl hn hd⟩
theorem A9c : KCs X [] [] := ⟨_, .nil, O0⟩
theorem E8 {e : Expr} {es : List Expr} {c : Value} {cs : List Value} (h : KC X e c) (t : KCs X es cs) (hs : starEach (e :: es) X.env = (false, eval e X.env) :: starEach es X.env := by rfl) : KCs X (e :: es) (c :: cs) := by
  obtain ⟨c1, h1, h2⟩ := h.out
  obtain ⟨c2, t1, t2⟩ := t.out
  exact ⟨_, .cons h1 t1, I0 h2 t2 hs⟩
theorem A6c {e : Expr} {t t' : TE} (h : PE X e t) (k : ∀ σ H Q, t' σ H Q -> t σ H Q) : PE X e t' := fun pins s σ H Q I q => h pins s σ H Q I (k _ _ _ q)
theorem B8o {e : Expr} {t t' : TT} (h : PT X e t) (k : ∀ σ H Q, t' σ H Q -> t σ H Q) : PT X e t' := fun pins s σ H Q I q => h pins s σ H Q I (k _ _ _ q)
theorem A5w {e : List Stmt} {t t' : TS} (h : PSs X e t) (k : ∀ D σ H, t' D σ H -> t D σ H) : PSs X e t' := fun pins s σ H D I q => h pins s σ H D I (k _ _ _ q)
theorem C0c {n : Str} {ec : Expr} {cv : Value} {p p1 pos : Pos} (he : oe.cls = .ref C) (xc : ExC X.K C) (hg : Gl X "isinstance") (hm : X.mg "isinstance" = none) (hi : X.N[i]? = some n) (hl : Vis X.env.scope n) (hc : KC (X.held a oe) ec cv) (hk : PySem.W.kitOne X.K (.ref C) cv = some b)
    (hd : (n == ("__debug__" : Str)) = false := by decide) (hcd : (n == ("__classdict__" : Str)) = false := by decide) (hs1 : starEach [.Name n p1, ec] X.env = (false, eval (.Name n p1) X.env) :: starEach [ec] X.env := by rfl) (hs2 : starEach [ec] X.env = (false, eval ec X.env) :: starEach [] X.env := by rfl) (hpl : (backTo pos (starEach [ec] X.env)).any (·.1) = false := by rfl) :
    KE (X.held a oe) i a (.Call (.Name "isinstance" p) [.Name n p1, ec] [] pos) b := by
  obtain ⟨c, h1, h2⟩ := hc.out
  refine ⟨A6c (Q2 (X := X.held a oe) (B19 he xc) hg hm (by rfl) (I0 (A6b hi hl hd hcd) (I0 h2 O0 hs2) hs1) (by decide) (by decide) hs1 hpl) fun σ H Q q => ?_⟩
  exact ⟨_, q.1, c, cv, b, rfl, h1, hk, q.2 _ fun _ _ z => z⟩
theorem B40 {n : Str} {ec : List Expr} {x1} {cvs : List Value} {p p1 p2 pos : Pos} (he : oe.cls = .ref C) (xc : ExC X.K C) (hg : Gl X "isinstance") (hm : X.mg "isinstance" = none) (hi : X.N[i]? = some n) (hl : Vis X.env.scope n) (hc : KCs (X.held a oe) ec cvs) (hk : PySem.W.kitAny X.K (.ref C) cvs = some b) (hz : cvs.length <= 1000)
    (hd : (n == ("__debug__" : Str)) = false := by decide) (hcd : (n == ("__classdict__" : Str)) = false := by decide) (hs1 : starEach [.Name n p1, .Tuple ec x1 p2] X.env = (false, eval (.Name n p1) X.env) :: starEach [.Tuple ec x1 p2] X.env := by rfl) (hpl : (backTo pos (starEach [.Tuple ec x1 p2] X.env)).any (·.1) = false := by rfl) :
    KE (X.held a oe) i a (.Call (.Name "isinstance" p) [.Name n p1, .Tuple ec x1 p2] [] pos) b := by
  obtain ⟨c, h1, h2⟩ := hc.out
  refine ⟨A6c (Q2 (X := X.held a oe) (B0a he xc) hg hm (by rfl) (I0 (A6b hi hl hd hcd) (I0 (B20 h2) O0)) (by decide) (by decide) hs1 hpl) fun σ H Q q => ?_⟩
  refine ⟨_, q.1, ?_⟩
  exact ⟨by rw [h1.len]; exact Nat.le_trans hz M2, fun t ht => ⟨t, c, cvs, b, rfl, by unfold upd; rw [if_pos rfl], h1, hk, q.2 _ (Same.upd ht)⟩⟩
theorem KE.t {e : Expr} (h : KE X i a e b) (he : ∀ whole, isTrue e X.env whole = (do let v <- whole; standAt e.pos; holding [v] (truthy v)) := by intro _; rfl) : KT X i a e b :=
  ⟨B8o (A5u h.out he) fun _ _ _ q => ⟨q.1, fun H3 z => ⟨_, rfl, q.2 H3 z⟩⟩⟩
theorem C0d {e e2 : Expr} {rest : List Expr} {c d : Bool} {pos : Pos} (h : KE X i a e b) (h2 : KE X i a (.BoolOp .And (e2 :: rest) pos) c) (hd : (b && c) = d := by rfl) : KE X i a (.BoolOp .And (e :: e2 :: rest) pos) d := by
  subst hd
  exact ⟨A6c (B24 h.out h2.out) fun σ H Q q => ⟨q.1, fun H3 z => ⟨b, rfl, by
    cases b with
    | true => exact ⟨q.1, fun H4 z4 => q.2 H4 (z.trans z4)⟩
    | false => exact q.2 H3 z⟩⟩⟩
theorem C0b {e : Expr} {op} {pos : Pos} (h : KE X i a e b) : KE X i a (.BoolOp op [e] pos) b := ⟨B22 h.out⟩
theorem B94 {e : Expr} {pos : Pos} {rest : List Stmt} (h : KE X i a e b) : KS X i a (.Return (some e) pos :: rest) b :=
  ⟨A5w (G3 (Z4 h.out) (fun _ _ _ _ _ _ q => False.elim q : PSs X rest fun _ _ _ => False)) fun _ _ _ q => q⟩
theorem A8j {c : Expr} {s rest : List Stmt} {pos : Pos} (hc : KT X i a c false) (h : KS X i a rest b) : KS X i a (.If c s [] pos :: rest) b :=
  ⟨A5w (G3 (B04 hc.out (fun _ _ _ _ _ _ q => False.elim q : PSs X s fun _ _ _ => False) W5) h.out) fun _ _ _ q => ⟨q.1, fun H3 z => ⟨q.1, fun H4 z4 => q.2 H4 (z.trans z4)⟩⟩⟩
end
end L2
namespace L2
open PySem PySem.Spec PyProof.Rows
section
variable {X : Cx}
theorem B8g {e : Expr} {t : TT} (h : QT X.nox e t) : QT X e t := ⟨h.out.nox⟩
variable {k i : Nat} {f C CH : Addr} {fd : FuncData} {ps : List Str} {sp : Sp} {x xh n : Str} {p pos pos2 pos3 pos4 pos5 : Pos} {e : Expr} {es : List Expr} {t : TA} {b0 : Stmt} {suite : List Stmt} {b : Bool}
theorem B5u (F : FnOk X.prog X.w X.K X.mg X.base (CX1 X.prog X.w) k f fd ps sp) (hr : Room k X.A) (hg : Gl X x) (hm : X.mg x = some (.ref f)) (hk : PySem.W.keepIn X.K (.ref f) = true) (hb : Binds X.K fd ps [])
    (ha : QA X (e :: es) t) (hgh : Gl X xh) (hmh : X.mg xh = some (.ref CH)) (hx : PySem.W.exmOne X.K (.ref C) (.ref CH) = some true) (hN : X.N.Nodup) (hi : X.N[i]? = some n) (hl : X.env.scope.names.lookup n = some .local)
    (hsu : ∀ a oe, oe.cls = .ref C -> KS (X.held a oe) i a (b0 :: suite) b) (hxe : ∀ e s, X.xe e s -> False := by exact fun _ _ z => z)
    (hst : X.stack = X.env :: X.outer := by rfl) (hfr : X.env.frame = some X.env.locals := by rfl)
    (hdb : (x == ("__debug__" : Str)) = false := by decide) (hdb2 : (xh == ("__debug__" : Str)) = false := by decide) (he : starEach (e :: es) X.env = (false, eval e X.env) :: starEach es X.env := by rfl) (hpl : (backTo pos (starEach es X.env)).any (·.1) = false := by rfl)
    (hsw : swapsWith (.Call (.Name x p) (e :: es) [] pos) none pos2.line X.env = pure false := by rfl) :
    QS X (.Try [.Expr (.Call (.Name x p) (e :: es) [] pos) pos2] [.ExceptHandler (some (.Name xh pos3)) (some n) (b0 :: suite) pos4] [] [] pos5) (B5h sp t C b) :=
  ⟨B8p F hr hg hm hk hb (fun pos pins s σ H Q I q => wpAny_mono (ha.out pos pins s σ H Q I.unwish q) (fun us s' ⟨vs, H1, I1, r, q⟩ => ⟨vs, H1, I1.wish _, r, q⟩) hxe) hgh hmh hx hN hi hl (fun a oe e => (hsu a oe e).out) hst hfr hdb hdb2 he hpl hsw⟩
end
end L2
namespace Pu
open PySem PySem.Spec PyProof.Rows L2 My Prf
def spE (K : Frag) (md : List Md) (C : Addr) (psp : List SV -> Prop) : Sp := fun vs H _ E => ∃ (w : Wd) (as : List SV), w.H = H /\ w.Ok /\ Args K w md vs as /\ psp as /\ ∀ w', w'.Ok -> Le w w' -> E (.ref C) none w'.H
theorem spE.len {K : Frag} {md : List Md} {C : Addr} {psp : List SV -> Prop} {n : Nat} (h : md.length = n) : ∀ vs H Q E, spE K md C psp vs H Q E -> vs.length = n := by
  rintro vs H Q E ⟨w, as, _, _, a, _⟩
  exact a.len.trans h
def A5d (w0 : Wd) : TS := fun _ _ H => ∃ w', w'.H = H /\ w'.Ok /\ Le w0 w'
def B84 (_ : PEnds) (_ : PEnv) : Prop := True
class RSX (K : Frag) (w0 : Wd) (ts : TS) (ps : outParam PSt) : Prop where
  ok : ∀ (c : Ct) (w : Wd) (env : PEnv) (σ : L2.St) (Dp : PEnds) (D : Ends), c.K = K -> c.w0 = w0 -> EnvOk c w env σ -> EndsOk c w Dp D -> ps Dp env -> ts D σ w.H
instance (priority := low) rsx_of {K : Frag} {w0 : Wd} {ts : TS} {ps : PSt} [h : RS K ts ps] : RSX K w0 ts ps := ⟨fun c w env σ Dp D e _ => h.ok c w env σ Dp D e⟩
instance rsx_raise {K : Frag} {w0 : Wd} : RSX K w0 (A5d w0) B84 := ⟨fun c w env σ Dp D _ e E _ _ => ⟨w, rfl, E.wok, e ▸ E.le0⟩⟩
instance rsx_seq {K : Frag} {w0 : Wd} {t u : TS} {p q : PSt} [ht : RSX K w0 t p] [hu : RSX K w0 u q] : RSX K w0 (tSeq t u) (pSeq p q) where
  ok := by
    rintro c w env σ Dp D rfl rfl E h pr
    refine ht.ok c w env σ { Dp with nx := q Dp } _ rfl rfl E ⟨fun e1 σ1 w1 E1 s1 n1 => ?_, h.rt, h.bk, h.ct⟩ pr
    exact hu.ok c w1 e1 σ1 Dp D rfl rfl E1 (h.on s1) n1
instance rsx_if {K : Frag} {w0 : Wd} {tt : TT} {t u : TS} {pt : PTt} {p q : PSt} [hc : RT K tt pt] [ht : RSX K w0 t p] [hu : RSX K w0 u q] : RSX K w0 (tIfS tt t u) (pIf pt p q) where
  ok := by
    rintro c w env σ Dp D rfl rfl E h pr
    refine hc.ok c w env σ _ _ rfl E pr fun b e1 w1 E1 l1 q1 => ?_
    cases b with
    | true => exact ht.ok c w1 e1 σ Dp D rfl rfl E1 (h.on l1.f) q1
    | false => exact hu.ok c w1 e1 σ Dp D rfl rfl E1 (h.on l1.f) q1
theorem C0p {K : Frag} {w : Wd} {ts : TS} {ps : PSt} [hs : RSX K w ts ps] {md : List Md} {vs : List V} {as : List SV} {D : Ends} {N : List Str} (ok : w.Ok) (a : Args K w md vs as)
    (hb : ps ⟨fun _ => False, fun _ => False, fun _ => False, fun _ => False⟩ (as.map some ++ List.replicate (N.length - md.length) none)) : ts D (L2.start N vs) w.H := by
  obtain ⟨hl, hat⟩ := K9 a
  have look : ∀ (i : Nat) s, (as.map some ++ List.replicate (N.length - md.length) none)[i]? = some (some s) -> as[i]? = some s := fun i s e => by
    rw [List.getElem?_append] at e
    split at e
    · rw [List.getElem?_map] at e
      cases q : as[i]? with
      | none => rw [q] at e; cases e
      | some t => rw [q] at e; cases e; rfl
    · rw [List.getElem?_replicate] at e
      split at e <;> cases e
  refine hs.ok ⟨K, w, noZ⟩ w (as.map some ++ List.replicate (N.length - md.length) none) (L2.start N vs) ⟨fun _ => False, fun _ => False, fun _ => False, fun _ => False⟩ D rfl rfl ⟨ok, Le.refl w, by simp [L2.start, hl, a.len], fun i s e => ?_, fun i j s t v u a e _ _ _ f => absurd f ((hat i _ (look i _ e)).2 v a), fun a z => z.elim, fun a j t u z => z.elim⟩ ⟨fun _ _ _ _ _ z => z.elim, fun _ _ _ _ _ _ _ z => z.elim, fun _ _ _ _ _ z => z.elim, fun _ _ _ _ _ z => z.elim⟩ hb
  obtain ⟨⟨v, h1, h2⟩, _⟩ := hat i s (look i s e)
  refine ⟨v, ?_, h2⟩
  unfold L2.start
  rw [List.getElem?_append_left (by rw [List.length_map]; exact (List.getElem?_eq_some_iff.mp h1).1), List.getElem?_map, h1]; rfl
theorem okx {P : Program} {w : World} {K : Frag} {mg : Str -> Option Value} {base : Heap} {x qual : Str} {st : Stmt} {f : Addr} {fd : FuncData} {N ps : List Str} {k : Nat} {md : List Md} {C : Addr} {psp : List SV -> Prop} {ts : Wd -> TS} {pst : PSt} (F : L2.Fun K x qual st f fd) (S : FnScope N ps (A5 st)) (hm : md.length = ps.length)
    (hbody : ∀ (cdv : Value) (A : Around) (outer : List Env) (s : Shared) (H : Hpp) (E : XK) (w0 : Wd), Room k (A.deeper (envOfC qual (A5 st) s.heap.objs.size f cdv)) -> (∀ w', w'.Ok -> Le w0 w' -> E (.ref C) none w'.H) ->
      PSs (cxOf (CX1 P w) P w K mg base N qual (A5 st) f cdv A outer s H E) (A9 st) (ts w0))
    (hs : ∀ w0, RSX K w0 (ts w0) pst) (hb : ∀ as, psp as -> pst ⟨fun _ => False, fun _ => False, fun _ => False, fun _ => False⟩ (as.map some ++ List.replicate (N.length - md.length) none)) : FnOk P w K mg base (CX1 P w) (k + 1) f fd ps (spE K md C psp) := by
  obtain ⟨oc, od, kV, doc, pm, an, cdv, ct, osl, rfl, lk, hcd⟩ := F.ex
  refine C0j lk hcd S (spE.len hm) fun A outer s H vs Q E hr ⟨w0, as, e, ok, a, p, kk⟩ => ?_
  refine ⟨_, hbody cdv A outer s H E w0 hr kk, ?_⟩
  subst e
  haveI := hs w0
  exact C0p ok a (hb as p)
theorem A5o {P : Program} {w : World} {K : Frag} {mg : Str -> Option Value} {base : Heap} {N : List Str} {qual : Str} {scope : Scope} {f : Addr} {cd : Value} {A : Around} {outer : List Env} {s0 : Shared} {H0 : Hpp} {E : XK} {w0 : Wd} {x : Str} {C : Addr} {pos np cpos : Pos} (hk : ∀ w', w'.Ok -> Le w0 w' -> E (.ref C) none w'.H)
    (hg : Gl (cxOf (CX1 P w) P w K mg base N qual scope f cd A outer s0 H0 E) x) (hm : mg x = some (.ref C)) (hex : PySem.W.excIn K C A34 "ValueError.__new__" = true) {z : Str} {j : Nat} {sp : Pos} (hd : (x == ("__debug__" : Str)) = false := by decide) :
    QS (cxOf (CX1 P w) P w K mg base N qual scope f cd A outer s0 H0 E) (.Raise (some (.Call (.Name x np) [.Constant (.str z) j sp] [] cpos)) none pos) (A5d w0) :=
  ⟨fun pins s σ H D I ⟨w', e, ok, l⟩ => B02 B5f rfl hg hm hex hd pins s σ H D I (by subst e; exact hk w' ok l)⟩
def B8w (psp : List SV -> Prop) (pa : PAs) (b : Bool) (D : PEnds) (env : PEnv) : Prop := pa env fun as _ => psp as /\ D.rt (.d (.bool b))
instance rs_tryR {K : Frag} {md : List Md} {psp : List SV -> Prop} {C : Addr} {b : Bool} {ta : TA} {pa : PAs} [ha : RAm K md ta pa] : RS K (B5h (spE K md C psp) ta C b) (B8w psp pa b) where
  ok := by
    rintro c w env σ Dp D rfl E h p
    refine ha.ok c w env σ _ _ rfl E p fun vs as e1 w1 E1 l1 a1 q1 => ?_
    rw [List.append_nil]
    refine ⟨w1, as, rfl, E1.wok, a1, q1.1, fun w' ok l => ⟨rfl, fun H3 s3 => ?_⟩⟩
    have g : Le w' ⟨w'.M, H3, w'.F⟩ := ⟨⟨Same.refl _, fun b o e _ => s3 b o e, fun _ z => z, fun _ z => .inl z, fun b z => by
      cases q : w'.H b with
      | none => rfl
      | some o => have := s3 b o q; rw [show H3 b = none from z] at this; cases this⟩, fun _ _ z => .inl z⟩
    refine h.rt (.bl b) (.d (.bool b)) ⟨w'.M, H3, w'.F⟩ ⟨ok.sub.trans s3, fun p hp => ?_, ok.nf⟩ ((E1.le0.trans l).trans g) (show Den _ _ _ _ from .bl b) rfl q1.2
    exact (ok.st p hp).same s3
end Pu
namespace L2
open PySem PySem.Spec PyProof.Rows
theorem A5n {X : Cx} {st : List Stmt} : QSs X st A16 := ⟨fun _ _ _ _ _ _ q => q.elim⟩
theorem ExC.of {K : PySem.W.Frag} {C : Addr} (ga : PySem.W.findIn K (.ref C) "__getattribute__" = some (some (.builtin "BaseException.__getattribute__"))) (gn : PySem.W.findIn K (.ref C) "__getattr__" = some none)
    (gc : PySem.W.findIn K (.ref C) "__class__" = some (some (.builtin "object.__class__"))) (sb : PySem.W.subIn K (.ref C) (.type "BaseException") = some true) (so : PySem.W.subIn K (.ref C) (.type "object") = some true)
    (hd : PySem.W.hasDictIn K C = true) (ty : (K.lookup C).map (·.cls) = some (.type "type")) : ExC K C :=
  ⟨⟨ga, gn, gc, sb, so⟩, hd, (fun o e z => by rw [e] at ty; simp only [Option.map_some, Option.some.injEq] at ty; rw [ty] at z; exact absurd (Value.type.inj z) (by decide)), (by
    cases q : K.lookup C with
    | none => rw [q] at ty; cases ty
    | some o => rfl)⟩
theorem us0 : ∀ {us : List Value}, us.length = 0 -> us = []
  | [], _ => rfl
theorem usS {n : Nat} : ∀ {us : List Value}, us.length = n + 1 -> ∃ a r, us = a :: r /\ r.length = n
  | a :: r, h => ⟨a, r, rfl, Nat.succ.inj h⟩
theorem us1 {us : List Value} (h : us.length = 1) : ∃ a, us = [a] := by
  obtain ⟨a, r, e, k⟩ := usS h
  exact ⟨a, by rw [e, us0 k]⟩
theorem us2 {us : List Value} (h : us.length = 2) : ∃ a b, us = [a, b] := by
  obtain ⟨a, r, e, k⟩ := usS h; obtain ⟨b, z⟩ := us1 k; exact ⟨a, b, by rw [e, z]⟩
theorem us3 {us : List Value} (h : us.length = 3) : ∃ a b c, us = [a, b, c] := by
  obtain ⟨a, r, e, k⟩ := usS h; obtain ⟨b, c, z⟩ := us2 k; exact ⟨a, b, c, by rw [e, z]⟩
theorem us4 {us : List Value} (h : us.length = 4) : ∃ a b c d, us = [a, b, c, d] := by
  obtain ⟨a, r, e, k⟩ := usS h; obtain ⟨b, c, d, z⟩ := us3 k; exact ⟨a, b, c, d, by rw [e, z]⟩
theorem us5 {us : List Value} (h : us.length = 5) : ∃ a b c d x, us = [a, b, c, d, x] := by
  obtain ⟨a, r, e, k⟩ := usS h; obtain ⟨b, c, d, x, z⟩ := us4 k; exact ⟨a, b, c, d, x, by rw [e, z]⟩
theorem us6 {us : List Value} (h : us.length = 6) : ∃ a b c d x y, us = [a, b, c, d, x, y] := by
  obtain ⟨a, r, e, k⟩ := usS h; obtain ⟨b, c, d, x, y, z⟩ := us5 k; exact ⟨a, b, c, d, x, y, by rw [e, z]⟩
end L2
namespace L2
open PySem PySem.Spec PyProof.Rows
def rngV (n : Nat) : List V := (List.range n).map fun k : Nat => V.int (0 + (k : Int))
theorem A1z : ∀ {xs : List V} {us : List Value}, xs.length = us.length -> (∀ (i : Nat) x u, xs[i]? = some x -> us[i]? = some u -> RelV x u) -> Vals xs us
  | [], [], _, _ => .nil
  | x :: xs, u :: us, h, k => .cons (k 0 x u rfl rfl) (A1z (Nat.succ.inj h) fun i y v e1 e2 => k (i + 1) y v e1 e2)
theorem B0q {n : Nat} {acc : Array Value} (h : ItemsOf (fun i v => ∃ t, v = .int (0 + (i : Int) * 1) t) acc n) : Vals (rngV n) acc.toList := by
  refine A1z (by simp [rngV, h.1]) fun i x u hx hu => ?_
  unfold rngV at hx
  rw [List.getElem?_map] at hx
  cases q : (List.range n)[i]? with
  | none => rw [q] at hx; cases hx
  | some k =>
    rw [q] at hx
    have hk : k = i := by
      obtain ⟨h1, h2⟩ := List.getElem?_eq_some_iff.mp q
      rw [List.getElem_range] at h2; exact h2.symm
    subst hk
    have hx' : V.int (0 + (k : Int)) = x := Option.some.inj hx
    subst hx'
    obtain ⟨t, e⟩ := h.2 k u (by rw [<- Array.getElem?_toList]; exact hu)
    exact ⟨t, by rw [e, Int.mul_one]⟩
def tRng (ta : TA) : TE := fun σ H Q => ta σ H fun vs H1 => ∃ n : Int, vs = [.int n] /\ ∀ r, H1 r = none -> Q (.ref r) (upd H1 r (.rng 0 n))
def A5m : List V -> Hp -> VK -> Prop := fun xs H Q => ∃ (r : Addr) (n : Int), xs = [.ref r] /\ H r = some (.rng 0 n) /\ 0 <= n /\ n <= 1000 /\ ∀ p, H p = none -> Q (.ref p) (upd H p (.lst (rngV n.toNat)))
section
variable {X : Cx}
theorem B0y {a : Expr} {ta : TA} {p2 pos2 : Pos} (hg : Gl X "range") (hm : X.mg "range" = none) (ha : QA X [a] ta) (hs : starEach [a] X.env = [(false, eval a X.env)] := by rfl) : QE X (.Call (.Name "range" p2) [a] [] pos2) (tRng ta) := by
  refine ⟨fun pins s σ H Q I h => ?_⟩
  refine Call_ (S3 I hg hm boot_range (PyProof.Rows.callWith_type1 (thn (ha.out pos2 pins s σ H _ I h) fun us s1 ⟨vs, H1, I1, r1, q1⟩ => ?_) hs rfl))
  obtain ⟨n, e, q⟩ := q1
  subst e
  cases r1 with
  | cons r rr =>
    cases rr
    obtain ⟨t, rfl⟩ := r
    refine call_range_1 ⟨.ref s1.heap.objs.size, _, I1.laid (t' := s1.toks + 1 + 1) (fun b o e => Heap.get?_push_of_some _ e) (Nat.le_refl _) ?_, rfl, q _ (I1.hok.fresh (Nat.le_refl _))⟩
    exact ⟨_, _, _, Heap.get?_push_size _ rfl⟩
theorem A1s (hc : X.calm = true) : CallR X (.type "list") A5m := by
  intro pins s σ H xs us Q I r h
  obtain ⟨a, n, rfl, hr, n0, n1, q⟩ := h
  obtain ⟨u, rfl, rx⟩ := A1d r
  cases rx
  obtain ⟨t, u, v, e⟩ := (show ObjOk X.prog X.w H s.heap a (.rng 0 n) from I.hok a _ hr)
  refine call_list_range (n := n.toNat) (I.ok.hd hc) e (small_one (by omega) (by omega) (by omega) (by omega)) (by rw [rangeSize_one]; split <;> omega) (by omega) fun h' tk acc' c' kp e' it => ?_
  refine ⟨.ref s.heap.objs.size, _, I.laid (t' := tk) kp (Nat.le_refl _) (show ObjOk X.prog X.w _ h' _ (.lst (rngV n.toNat)) from ⟨?_, acc'.toList, c', B0q it, e'⟩), rfl, q _ (I.hok.fresh (Nat.le_refl _))⟩
  simp only [rngV, List.length_map, List.length_range]
  exact Nat.le_trans (by omega : n.toNat <= 1000) M2
end
end L2
namespace Pu
open PySem L2 My Prf
theorem B7i {K : Frag} {F : Hpp} (n : Nat) : DenAll K F (rngV n) (rngD 0 n) := by
  unfold rngV rngD
  generalize List.range n = l
  induction l with
  | nil => exact .nil
  | cons k r ih => exact .cons (.int _) ih
def B6q (pa : PAr) (env : PEnv) (Q : SV -> PEnv -> Prop) : Prop := pa env fun xs e => ∃ n : Int, xs = [.int n] /\ 0 <= n /\ n <= 1000 /\ Q (.own (rngD 0 n.toNat)) e
instance re_lstRng {K : Frag} {ta : TA} {pa : PAr} [ha : RAv K ta pa] : RE K (tCB A5m (K1 (tRng ta) tNil)) (B6q pa) where
  ok := by
    rintro c w env σ Qp Q rfl E p k
    refine ha.ok c w env σ _ _ rfl E p fun vs xs e1 w1 E1 l1 v1 q1 => ?_
    obtain ⟨n, rfl, n0, n1, q⟩ := q1
    have ev : vs = [.int n] := by
      cases v1 with
      | cons h t => cases t; rw [h.intE]
    subst ev
    refine ⟨n, rfl, fun r hr => ⟨r, n, rfl, C8, n0, n1, fun p hp => ?_⟩⟩
    have E2 : EnvOk c (w1.lay r (.rng 0 n)) e1 σ := E1.mono (Wd.lay_ok E1.wok hr) (Wd.lay_le hr)
    exact k _ _ e1 _ ((Res.lst E2 hp (B7i _)).pre (l1.trans (Wd.lay_le hr).toLw)) q
def pRep (pe : PX) (pb : PDt) (env : PEnv) (Q : SV -> PEnv -> Prop) : Prop := pe env fun s e => ∃ xs, s = .own xs /\ pb e fun y e2 => ∃ n : Int, y = .int n /\ 0 <= n /\ n <= 1000 /\ xs.length <= 1000 /\ Q (.own (List.replicate n.toNat xs).flatten) e2
theorem B8b {k len : Nat} (h : k < len) : PySem.seqIndex? (k : Int) len = some k := by
  unfold PySem.seqIndex?
  have h1 : ¬ ((k : Int) < 0) := by omega
  have h2 : (decide ((0 : Int) <= (k : Int)) && decide ((k : Int) < (len : Int))) = true := by simp; omega
  simp only [h1, if_false, h2, if_true, Int.toNat_natCast]
theorem A0p {K : Frag} {F : Hpp} : ∀ {vs : List V} {xs : List PyData} (_ : DenAll K F vs xs) (k : Nat), DenAll K F (vs.eraseIdx k) (xs.eraseIdx k)
  | _, _, .nil, _ => .nil
  | _, _, .cons h t, 0 => t
  | _, _, .cons h t, k + 1 => .cons h (A0p t k)
def B6y (i j : Nat) (pd : PDt) (D : PEnds) (env : PEnv) : Prop := i ≠ j /\ O4 env[i]? fun _ => O4 env[j]? fun _ => pd env fun x e => O4 e[i]? fun xs => O4 e[j]? fun ys => ∃ (k : Nat) (y : PyData), x = .int k /\ ys[k]? = some y /\ xs.length < 1000000 /\ ys.length < 1000000 /\ D.nx ((e.set j (some (.own (ys.eraseIdx k)))).set i (some (.own (xs ++ [y]))))
instance rs_appPop {K : Frag} {i j : Nat} {te : TE} {pd : PDt} [he : RD K te pd] : RS K (B0t (tBM K "list" A1h (tVar i) (K1 (tBM K "list" B2v (tVar j) (K1 te tNil)) tNil))) (B6y i j pd) where
  ok := by
    rintro c w env σ Dp D rfl E h ⟨hij, p⟩
    unfold O4 at p
    split at p
    · rename_i xs0 e0
      split at p
      · rename_i ys0 f0
        obtain ⟨v, g0, l, vs, ev, h1, h2, h3, h4, h5⟩ := E.at' i _ e0
        subst ev
        obtain ⟨v', g1, m, us, ev', k1, k2, k3, k4, k5⟩ := E.at' j _ f0
        subst ev'
        refine ⟨_, g0, .inl ⟨rfl, _, SqL.of h1⟩, _, g1, .inl ⟨rfl, _, SqL.of k1⟩, ?_⟩
        refine he.ok c w env σ _ _ rfl E p fun z x e1 w1 E1 l1 d1 q1 => ?_
        split at q1
        · rename_i xs e2
          split at q1
          · rename_i ys f2
            obtain ⟨k, y, rfl, hy, b1, b2, q⟩ := q1
            obtain ⟨v2, g2, l', vs', ev2, a1, a2, a3, a4, a5⟩ := E1.at' i _ e2
            rw [g0] at g2; cases g2; cases ev2
            obtain ⟨v3, g3, m', us', ev3, c1, c2, c3, c4, c5⟩ := E1.at' j _ f2
            rw [g1] at g3; cases g3; cases ev3
            have hz : z = .int k := Den.intE d1
            subst hz
            obtain ⟨hk, _⟩ := List.getElem?_eq_some_iff.mp hy
            have hl := c5.len
            have hku : k < us'.length := by omega
            obtain ⟨y', hy', dy⟩ := c5.get (List.getElem?_eq_getElem hku)
            rw [hy] at hy'; cases hy'
            have hml : m ≠ l := fun z => by
              subst z
              exact hij (E1.own i j _ _ _ _ m e2 f2 g0 g1 rfl rfl)
            refine ⟨m, us', k, k, us'[k], rfl, rfl, c1, by omega, by omega, B8b hku, List.getElem?_eq_getElem hku, ?_⟩
            have E2 := E1.write f2 g1 c1 c2 c3 c4 (A0p c5 k)
            have e3 : (e1.set j (some (.own (ys.eraseIdx k))))[i]? = some (some (.own xs)) := by rw [List.getElem?_set_ne (Ne.symm hij)]; exact e2
            obtain ⟨v4, g4, l4, vs4, ev4, b1', b2', b3', b4', b5'⟩ := E2.at' i _ e3
            rw [g0] at g4; cases g4; cases ev4
            have ha : upd w1.H m (.lst (us'.eraseIdx k)) l = some (.lst vs') := by rw [C9 (Ne.symm hml)]; exact a1
            refine ⟨l, vs', us'[k], rfl, rfl, ha, by rw [a5.len]; exact T8 b1, ?_⟩
            have hv : vs4 = vs' := by
              have := b1'
              rw [show (Wd.mk w1.M (upd w1.H m (.lst (us'.eraseIdx k))) w1.F).H = upd w1.H m (.lst (us'.eraseIdx k)) from rfl, ha] at this
              cases this; rfl
            subst hv
            exact h.nx _ σ _ (E2.write e3 g0 b1' b2' b3' b4' (b5'.app (.cons dy .nil))) l1.f q
          · exact q1.elim
        · exact q1.elim
      · exact p.elim
    · exact p.elim
end Pu
namespace L2
open PySem PySem.Spec PyProof.Rows
section
variable {prog : Program} {w : World} {A : Around} {E : Value -> Shared -> Prop} {s : Shared}
end
structure Prs (us vs : Array Value) (lo : Addr) (h : Heap) (as : List Addr) : Prop where
  up : as.Pairwise (· < ·)
  ab : ∀ a ∈ as, lo < a
  pr : ∀ (j : Nat) (a : Addr), as[j]? = some a -> ∃ x y, us[j]? = some x /\ vs[j]? = some y /\ IsPair h a x y
section
variable {prog : Program} {w : World} {A : Around} {E : Value -> Shared -> Prop} {s : Shared} {R : Result -> Shared -> Prop} {us vs : Array Value}
end
section
variable {prog : Program} {w : World} {A : Around} {E : Value -> Shared -> Prop} {s : Shared} {us vs : Array Value}
end
end L2
namespace L2
open PySem PySem.Spec PyProof.Rows
section
variable {X : Cx} {pins : List (Addr × Obj)} {σ : St} {H : Hp} {s : Shared}
end
end L2
namespace L2
open PySem PySem.Spec PyProof.Rows
section
variable {X : Cx}
end
end L2
namespace Pu
open PySem L2 My Prf
def A6o (pa : PEnv -> (List (List PyData) -> PEnv -> Prop) -> Prop) (env : PEnv) (Q : SV -> PEnv -> Prop) : Prop := pa env fun xss e => ∃ xs ys, xss = [xs, ys] /\ xs.length <= 1000 /\ Q (.own (zipD xs ys)) e
end Pu
namespace L2
open PySem PySem.Spec PyProof.Rows
section
variable {X : Cx}
end
end L2
namespace Pu
open PySem L2 My Prf
def pIdx (po pa : PDt) (env : PEnv) (Q : SV -> PEnv -> Prop) : Prop := po env fun x e => asL x fun xs => pa e fun d e2 => PyData.canLayAll0 xs = true /\ d.canLay0 = true /\ d.depth <= 60 /\ xs.length <= 1000 /\ ∃ j : Nat, xs.findIdx? (fun z => z.eqv d) = some j /\ Q (.d (.int (j : Int))) e2
end Pu
namespace L2
open PySem PySem.Spec PyProof.Rows
def B76 (d : PyData) : Prop := (d.canLay0 = true /\ d.showable = true /\ d.hasDict = false \/ d = .dict []) /\ d.depth <= 60 /\ d.shown.length <= sizeLine
section
variable {X : Cx}
end
end L2
namespace Pu
open PySem L2 My Prf
def B83 (pa : PDt) (env : PEnv) (Q : SV -> PEnv -> Prop) : Prop := pa env fun d e => B76 d /\ Q (.d (.str d.shown)) e
end Pu
namespace L2
open PySem PySem.Spec PyProof.Rows
def B71 (n : Nat) (i j : Int) : List Nat := sliceRange (sliceBounds (some i) none (some j) n).1 (sliceBounds (some i) none (some j) n).2.1 (sliceBounds (some i) none (some j) n).2.2
section
variable {X : Cx}
end
end L2
namespace Pu
open PySem L2 My Prf
def C09 (xs : List PyData) (i j : Int) : List PyData := (B71 xs.length i j).filterMap (xs[·]?)
def B8y (pe pl ps : PDt) (env : PEnv) (Q : SV -> PEnv -> Prop) : Prop := pe env fun x e1 => asL x fun xs => pl e1 fun y e2 => asI y fun i => ps e2 fun z e3 => asI z fun j => j ≠ 0 /\ Q (.own (C09 xs i j)) e3
end Pu
namespace L2
open PySem PySem.Spec PyProof.Rows
end L2
namespace Pu
open PySem L2 My Prf
def B28 (pa : PEnv -> (List (List PyData) -> PEnv -> Prop) -> Prop) (env : PEnv) (Q : SV -> PEnv -> Prop) : Prop := pa env fun xss e => ∃ xs, xss = [xs] /\ Q (.d (.tuple xs)) e
end Pu
namespace L2
open PySem PySem.Spec PyProof.Rows
def told : PyData -> Str
  | .str z => z
  | d => d.shown
section
variable {X : Cx}
end
end L2
namespace Pu
open PySem L2 My Prf
def pStr (pa : PDt) (env : PEnv) (Q : SV -> PEnv -> Prop) : Prop := pa env fun d e => B76 d /\ Q (.d (.str (told d))) e
end Pu
namespace L2
open PySem PySem.Spec PyProof.Rows
mutual
def lay1 : PyData -> Bool
  | .list xs => B7a xs
  | .tuple xs => B7a xs
  | .dict kvs => kvs.isEmpty
  | .str x => PyData.strOk x
  | _ => true
def B7a : List PyData -> Bool
  | [] => true
  | x :: r => lay1 x && B7a r
end
section
variable {X : Cx} {pins : List (Addr × Obj)} {σ : St} {H : Hp} {s : Shared}
end
end L2
namespace L2
open PySem PySem.Spec PyProof.Rows
def B75 (d : PyData) : Prop := (lay1 d = true /\ d.showable = true) /\ d.depth <= 60 /\ d.shown.length <= sizeLine
section
variable {X : Cx}
end
end L2
namespace Pu
open PySem L2 My Prf
def B8x (pa : PDt) (env : PEnv) (Q : SV -> PEnv -> Prop) : Prop := pa env fun d e => B75 d /\ Q (.d (.str (told d))) e
end Pu
namespace L2
open PySem PySem.Spec PyProof.Rows
end L2
namespace Pu
open PySem L2 My Prf
def C1n (x y : PyData) (Q : SV -> Prop) : Prop := match x, y with
  | .tuple (x :: xs), .tuple (y :: ys) => xs.length + ys.length <= 1000 /\ Q (.d (.tuple (x :: xs ++ y :: ys)))
  | _, _ => False
theorem A66 {x y : PyData} {xs ys : List PyData} {Q : SV -> Prop} : C1n (.tuple (x :: xs)) (.tuple (y :: ys)) Q = (xs.length + ys.length <= 1000 /\ Q (.d (.tuple (x :: xs ++ y :: ys)))) := rfl
end Pu
namespace L2
open PySem PySem.Spec PyProof.Rows
section
variable {prog : Program} {w : World} {A : Around} {E : Value -> Shared -> Prop}
end
end L2
namespace Pu
open PySem L2 My Prf
def qLsU (n : Nat) (pr : List PyData -> PEnv -> (PEnv -> Prop) -> Prop) (x : PyData) (env : PEnv) (Q : PEnv -> Prop) : Prop := match x with
  | .list xs => xs.length = n /\ pr xs env Q
  | _ => False
theorem B2y {n : Nat} {pr : List PyData -> PEnv -> (PEnv -> Prop) -> Prop} {xs : List PyData} {env : PEnv} {Q : PEnv -> Prop} : qLsU n pr (.list xs) env Q = (xs.length = n /\ pr xs env Q) := rfl
def B9j (pd : PDt) (n : Nat) (pr : List PyData -> PEnv -> (PEnv -> Prop) -> Prop) (D : PEnds) (env : PEnv) : Prop := pd env fun x e => qLsU n pr x e D.nx
end Pu
namespace L2
open PySem PySem.Spec PyProof.Rows
theorem A8a {e : Value} {env env2 : Env} (h : env.frame = env2.frame) : noteFrame e env = noteFrame e env2 := by
  unfold noteFrame PySem.frameOf
  rw [h]
section
variable {M : Model} {A : Around} {E : Value -> Shared -> Prop} {s : Shared}
theorem B1u {B : Heap} {l : List Env} {x : Addr} {c z fl : Value} {fo : Option Addr} {Q : Unit -> Shared -> Prop} (m1 : B.StaysIn s.heap) (m2 : s.heap.FunFrames B l) (m3 : s.heap.TracedAtW B x c z fl)
    (k : ∀ g, B.StaysIn g -> g.FunFrames B l -> (∃ fl2, g.TracedAtW B x c z fl2) -> s.heap.UpToSlots g -> Q () { s with heap := g }) : wpAny M A (setFlight (.ref x) fo) Q E s := by
  obtain ⟨ox, us, T, ot, ws, e1, e2, e3, e4, e5, e6, e7, e8, e9⟩ := m3
  have off : ∀ b, b ≠ T -> (s.heap.update T (Obj.mapFields (·.setIfInBounds 3 (fo.elim Value.none fun f => rawInt f)))).get? b = s.heap.get? b := fun b q => Heap.get?_update_other _ _ (Ne.symm q)
  have nT : ∀ b o, s.heap.get? b = some o -> (∀ v, o.data ≠ .fields v) -> b ≠ T := fun b o q n z => by
    rw [z, e7] at q; cases q; exact n ws e8
  have i3 : 3 < ws.size := (Array.getElem?_eq_some_iff.mp e9).1
  unfold setFlight
  refine wpAny_bind (wpAny_field e1 e3 e4 ?_)
  rw [if_pos (by simp : (Value.ref T != Value.none) = true)]
  refine wpAny_setField e7 e8 i3 (k _ (fun b o q => (off b fun z => by rw [z, e5] at q; cases q).trans (m1 b o q)) (m2.of_keeps fun b o q n => ⟨o, (off b (nT b o q n)).trans q, rfl⟩) ?_ fun b o q n => ⟨o.slots, (off b (nT b o q n)).trans q⟩)
  exact ⟨_, ox, us, T, _, _, (off x (Ne.symm e6)).trans e1, e2, e3, e4, e5, e6, Heap.get?_update_self _ e7 (Obj.isFreed_of_fields (Obj.data_mapFields e8 _)), Obj.data_mapFields e8 _, by simp [i3]; rfl⟩
theorem A6f {α : Type} {what : String} {env : Env} {B : Heap} {l : List Env} {x : Addr} {c z fl : Value} {Q : α -> Shared -> Prop} (m1 : B.StaysIn s.heap) (m2 : s.heap.FunFrames B l) (m3 : s.heap.TracedAtW B x c z fl)
    (k : ∀ g, B.StaysIn g -> g.FunFrames B l -> (∃ fl2, g.TracedAtW B x c z fl2) -> s.heap.UpToSlots g -> E (.ref x) { s with heap := g }) : wpAny M A (PySem.passOn what (.ref x) env : Sem α) Q E s := by
  obtain ⟨ox, us, T, ot, ws, e1, e2, e3, e4, e5⟩ := id m3
  unfold PySem.passOn
  refine wpAny_bind (wpAny_field e1 e3 e4 ?_)
  rw [if_neg (by simp : ¬ (Value.ref T == Value.none) = true)]
  exact wpAny_bind (B1u m1 m2 m3 fun g a b c d => wpAny_throw (k g a b c d))
theorem A4t {B : Heap} {env : Env} {outer : List Env} {L x : Addr} {c z fl : Value} {Q : Unit -> Shared -> Prop} (hA : A.frames = some (env :: outer)) (hL : env.frame = some L) (m1 : B.StaysIn s.heap) (m0 : B.get? x = none) (m2 : s.heap.FunFrames B (env :: outer)) (m3 : s.heap.TracedAtW B x c z fl)
    (k : ∀ g, Heap.FlyingW B outer x c z g -> s.heap.UpToSlots g -> Q () { s with heap := g }) : wpAny M A (leaving env (.ref x)) Q E s := by
  by_cases hm : (fl == rawInt L) = true
  · have hm : fl = rawInt L := by simpa using hm
    subst hm
    unfold leaving
    refine wpAny_bind (wpAny_noteFrame_againW hL m3 (wpAny_landsW ⟨m1, m0, m2, m3⟩ fun g ⟨y1, y2, ⟨_, _, y3⟩, y4⟩ u => k g ⟨y1, y2, y3, y4⟩ u))
  · obtain ⟨ox, us, T, ot, ws, e1, ⟨rfl, e2⟩, e3, e4, e5, e6, e7, e8, e9⟩ := m3
    have off : ∀ b, b ≠ T -> (s.heap.update T (Obj.mapFields (·.setIfInBounds 3 .none))).get? b = s.heap.get? b := fun b q => Heap.get?_update_other _ _ (Ne.symm q)
    have nT : ∀ b o, s.heap.get? b = some o -> (∀ v, o.data ≠ .fields v) -> b ≠ T := fun b o q n z => by
      rw [z, e7] at q; cases q; exact n ws e8
    unfold leaving noteFrame
    simp only [hL]
    refine wpAny_bind (wpAny_bind (wpAny_field e1 e3 e4 ?_))
    rw [if_pos (by simp : (Value.ref T != Value.none) = true)]
    refine wpAny_bind (wpAny_field e7 e8 e9 ?_)
    rw [if_neg hm]
    refine wpAny_bind (wpAny_setField e7 e8 (Array.getElem?_eq_some_iff.mp e9).1 ?_)
    refine wpAny_newEntryW hA (m2.of_keeps fun b o q n => ⟨o, (off b (nT b o q n)).trans q, rfl⟩) hL ((off x (Ne.symm e6)).trans e1) (fun b o q => (off b fun z => by rw [z, e5] at q; cases q).trans (m1 b o q)) m0 e3 (Array.getElem?_eq_some_iff.mp e4).1 e2 ?_
    rintro g ⟨y1, ⟨_, _, y2⟩, y3, y4⟩
    exact k g ⟨y1, m0, y2, y3⟩ fun b o q n => y4 b o ((off b (nT b o q n)).trans q) n
end
structure FlyA (P : Program) (w : World) (outer : List Env) (H : Hp) (s s' : Shared) (a : Addr) (cls a0 : Value) (H' : Hp) (B : Heap) (C : Addr) : Prop where
  os : s'.os = s.os
  bare : AllBare s'.gens
  st : B.StaysIn s'.heap
  na : B.get? a = none
  ff : s'.heap.FunFrames B outer
  tr : ∃ fl, s'.heap.TracedAtW B a cls a0 fl
  hok : HOk P w H' B
  keep : ∀ b o, b ≠ C -> s.heap.get? b = some o -> H b = none -> b ∉ frs outer -> B.get? b = some o
  slot : ∀ b o, s.heap.get? b = some o -> H b = none -> b ∈ frs outer -> ∃ sl, s'.heap.get? b = some { o with slots := sl }
  free : ∀ b o, s.heap.get? b = some o -> H b = none -> H' b = none
  there : ∀ b o, b ≠ C -> s.heap.get? b = some o -> b ∉ frs outer -> ∃ o', B.get? b = some o'
  tups : ∀ b xs, H b = some (.tup xs) -> H' b = some (.tup xs)
  frzs : ∀ b o u, H b = some (.frz o u) -> H' b = some (.frz o u)
  tbls : ∀ b ps, H b = some (.tbl ps) -> ∃ more, H' b = some (.tbl (ps ++ more))
section
variable {P : Program} {w : World} {K : PySem.W.Frag} {mg : Str -> Option Value} {base : Heap} {N : List Str} {qual : Str} {scope : Scope} {f : Addr} {cd : Value} {A : Around} {outer : List Env} {s0 : Shared} {H0 : Hp} {E : XK}
theorem B6f {pins : List (Addr × Obj)} {σ : St} {H H' : Hp} {s s' : Shared} {a C : Addr} {cls a0 : Value} {B : Heap} (I : Inv (cxOf (CX1 P w) P w K mg base N qual scope f cd A outer s0 H0 E) pins σ H s) (F : FlyA P w (cxOf (CX1 P w) P w K mg base N qual scope f cd A outer s0 H0 E).stack H s s' a cls a0 H' B C) (hC : s0.heap.objs.size <= C) (q : E cls none H') :
    (cxOf (CX1 P w) P w K mg base N qual scope f cd A outer s0 H0 E).xe (.ref a) s' := by
  have nx : ∀ b : Addr, b ∉ (cxOf (CX1 P w) P w K mg base N qual scope f cd A outer s0 H0 E).ex := fun b z => absurd z (List.not_mem_nil)
  have nC : ∀ b o, s0.heap.get? b = some o -> b ≠ C := fun b o e => Nat.ne_of_lt (Nat.lt_of_lt_of_le (Heap.lt_size e) hC)
  obtain ⟨fl, tr⟩ := F.tr
  refine A4t I.ok.frames rfl F.st F.na F.ff tr fun h' hf hs => ?_
  refine ⟨a, cls, a0, H', B, rfl, ⟨F.os.trans I.os, F.bare, hf, F.hok, fun b o e n hb => ?_, fun b o e n hb => ?_, fun b o e n => ?_, fun b o e hb => ?_, fun b xs e => F.tups b xs (I.base.tups b xs e), fun b o u e => F.frzs b o u (I.base.frzs b o u e), fun b ps e => ?_⟩, q⟩
  · exact F.keep b o (nC b o e) (I.base.keep b o e n hb (nx b)) (I.base.free b o e n (nx b)) (A21 I e hb)
  · obtain ⟨sl, e1⟩ := I.base.slot b o e n hb (nx b)
    have hb2 : b ∈ frs (cxOf (CX1 P w) P w K mg base N qual scope f cd A outer s0 H0 E).stack := by
      show b ∈ List.filterMap _ (_ :: outer)
      rw [List.filterMap_cons]
      split
      · exact hb
      · exact List.mem_cons_of_mem _ hb
    obtain ⟨sl2, e2⟩ := F.slot b _ e1 (I.base.free b o e n (nx b)) hb2
    obtain ⟨_, o', ho, hn⟩ := F.ff.mem hb2
    rw [e2] at ho; cases ho
    obtain ⟨sl3, e3⟩ := hs b _ e2 hn
    exact ⟨sl3, e3⟩
  · obtain ⟨o', e1⟩ := I.base.there b o e (nx b)
    exact F.free b o' e1 (I.base.free b o e n (nx b))
  · obtain ⟨o', e1⟩ := I.base.there b o e (nx b)
    exact F.there b o' (nC b o e) e1 (A21 I e hb)
  · obtain ⟨m1, e1⟩ := I.base.tbls b ps e
    obtain ⟨m2, e2⟩ := F.tbls b _ e1
    exact ⟨m1 ++ m2, by rw [e2, Array.append_assoc]⟩
end
theorem A4u {prog : Program} {w : World} {A : Around} {R : Result -> Shared -> Prop} {s : Shared} {elt target iter : Expr} {ifs : List Expr} {scope : Scope} {pos : Pos} {it acc : Value} {env : Env} (I : Nat -> Shared -> Prop)
    (turn : ∀ n s, I n s -> wpAny (model prog w) A (pyNext it) (fun r s₁ => match r with
      | none => R (.ok .next) s₁
      | some v => wpAny (model prog w) A (letOwnedTupleGo target it v) (fun _ s₁' => wpAny (model prog w) A (assign target env v) (fun _ s₂ =>
          wpAny (model prog w) A (forIn ifs true fun c r => if r = true then do let ok <- isTrue c env (eval c env); pure (ForInStep.yield ok) else pure (ForInStep.yield r)) (fun ok s₃ =>
            if ok = true then wpAny (model prog w) A (eval elt env) (fun x s₄ =>
              wpAny (model prog w) A (call (.builtin "list.append") [acc, x]) (fun _ s₅ => ∃ m, m < n /\ I m s₅) (fun _ _ => False) s₄) (notedBy (model prog w) A env fun x s' => R (.error x) s') s₃
            else ∃ m, m < n /\ I m s₃) (fun _ _ => False) s₂) (fun _ _ => False) s₁') (fun _ _ => False) s₁) (fun _ _ => False) s)
    (n : Nat) (h : I n s) : codeAny (model prog w) A (.compLoop (.ListComp elt [⟨target, iter, ifs, 0⟩] scope pos) 0 it acc env) R s := by
  refine codeAny_loop rfl I (fun n s hI => ?_) n h
  show wpAny _ A ((compTurn (.ListComp elt [⟨target, iter, ifs, 0⟩] scope pos) 0 it acc env).onRaise (fun x => do noteFrame x env; theTreesLotGoes x)) _ _ s
  refine wpAny_noted ?_
  rw [compTurn_list]
  refine wpAny_bind (wpAny_standAt (wpAny_bind (wpAny_mono (turn n s hI) (fun r s₁ h₁ => ?_) fun _ _ h' => h'.elim)))
  cases r with
  | none => exact wpAny_pure h₁
  | some v =>
    refine wpAny_bind (wpAny_mono h₁ (fun _ s₁' h₁' => ?_) fun _ _ h' => h'.elim)
    refine wpAny_bind (wpAny_mono h₁' (fun _ s₂ h₂ => wpAny_bind (wpAny_mono h₂ (fun ok s₃ h₃ => ?_) fun _ _ h' => h'.elim)) fun _ _ h' => h'.elim)
    cases ok with
    | false => exact wpAny_pure ⟨rfl, h₃⟩
    | true =>
      exact wpAny_bind (wpAny_bind (wpAny_mono h₃ (fun x s₄ h₄ => wpAny_bind (wpAny_mono h₄ (fun _ s₅ h₅ => wpAny_pure (wpAny_pure ⟨rfl, h₅⟩)) fun _ _ h' => h'.elim)) fun _ _ h' => h'))
end L2
namespace L2
open PySem PySem.Spec PyProof.Rows
def bx (X : Cx) (scope : Scope) (cl : List (Str × Addr)) (N' : List Str) (s3 : Shared) (H3 : Hp) (fp : List Addr) (E0 : XK) : Value -> Shared -> Prop := fun e s' => ∃ pl σ H s, Inv (X.block scope cl N' s3 H3 fp) pl σ H s /\ CX1 X.prog X.w X.stack H s E0 e s'
theorem B6e {X : Cx} {scope : Scope} {cl : List (Str × Addr)} {N' : List Str} {s3 : Shared} {H3 : Hp} {fp : List Addr} {E0 : XK} : V6 (CX1 X.prog X.w) ((X.block scope cl N' s3 H3 fp).wish (bx X scope cl N' s3 H3 fp E0)) E0 := fun pins σ H s e s' I h => ⟨pins, σ, H, s, I.unwish, h⟩
section
variable {X : Cx} {scope : Scope} {cl : List (Str × Addr)} {N' : List Str} {cap : List (Option Nat)} {elt tg iter : Expr} {ifs : List Expr} {wi : TI} {g : TG} {tt : TT} {te : TE} {pos : Pos}
theorem A4w (E0 : XK) {pins : List (Addr × Obj)} {σ : St} {H2 : Hp} {s2 : Shared} {it : Addr} {fp : List Addr} {tn : Nat -> Heap -> Prop} {J : It} {E : Value -> Shared -> Prop} {RR : Value -> Addr -> Result -> Shared -> Prop} {Fin : Addr -> Hp -> Prop}
    (hc : X.calm = true) (C : CompSc X scope cl N' cap) (I2 : Inv X pins σ H2 s2) (T : Turn X.prog X.w X.K tg J fp it tn) (st2 : tn 0 s2.heap) (f2 : ∀ b ∈ fp, FpOk X pins H2 b)
    (hg : ∀ s3 H3 fp, PG (X.block scope cl N' s3 H3 fp) tg g) (ht : ∀ s3 H3 fp, PTs (X.block scope cl N' s3 H3 fp) ifs tt) (he : ∀ s3 H3 fp, PE ((X.block scope cl N' s3 H3 fp).wish (bx X scope cl N' s3 H3 fp E0)) elt te)
    (go : ∀ D, H2 D = none -> U9 J g tt te D (Fin D) (capσ cap σ) H2)
    (out : ∀ (D C : Addr) (s' : Shared) (m : Str -> Option Value) (H' : Hp), s'.heap.Ns C m -> C ≠ X.env.locals -> H' C = none -> X.s₀.heap.objs.size <= C -> (∀ x c, X.env.cells.lookup x = some c -> c ≠ C) -> (∀ p ∈ X.pn ++ pins, p.1 ≠ C) -> Fin D H' -> Inv X pins σ H' s' -> RR (.ref D) C (.ok .next) s')
    (outE : ∀ (D C : Addr) (s s' : Shared) (H H' : Hp) (m : Str -> Option Value) (a : Addr) (cls a0 : Value) (B : Heap), s.heap.Ns C m -> H C = none -> C ∉ frs X.stack -> X.s₀.heap.objs.size <= C -> Inv X pins σ H s -> Fly X.prog X.w X.stack H s s' a cls a0 H' B -> E0 cls none H' -> notedBy (model X.prog X.w) X.A (compEnvC scope cl C X.env) (fun x s' => RR (.ref D) C (.error x) s') (.ref a) s') :
    wpAny (model X.prog X.w) X.A (newList []) (fun acc s₃ => wpAny (model X.prog X.w) X.A (newFunctionEnv scope X.env.globals cl [] X.env.qual none .none (some X.env)) (fun cenv s₄ =>
      codeAny (model X.prog X.w) X.A (.compStart (.ListComp elt [⟨tg, iter, ifs, 0⟩] scope pos) 0 (.ref it) acc { cenv with scope := relabel scope X.env }) (RR acc cenv.locals) s₄) E s₃) E s2 := by
  refine wpAny_newObj_type (wpAny_newFunctionEnv C.cell (by intro y hy; simp at hy) (fun h₁ hns₁ hsb₁ => ?_) C.kind)
  have hD : H2 s2.heap.objs.size = none := I2.hok.fresh (Nat.le_refl _)
  obtain ⟨W, ⟨m0, w0⟩, turn⟩ := go _ hD
  have I3 : Inv X pins σ (upd H2 s2.heap.objs.size (.lst [])) { s2 with heap := s2.heap.push { cls := .type "list", dict := none, data := .seq ([] : List Value).toArray } } :=
    I2.laid (t' := s2.toks) (o := .lst []) (fun b u e => Heap.get?_push_of_some _ e) (Nat.le_refl _) ⟨Nat.zero_le _, [], 0, .nil, Heap.get?_push_size _ rfl⟩
  have f3 : ∀ b ∈ fp, FpOk X pins (upd H2 s2.heap.objs.size (.lst [])) b := fun b hb => by
    obtain ⟨f0, fr⟩ := f2 b hb
    obtain ⟨o, e, _⟩ := T.obj _ _ st2 b hb
    exact ⟨by rw [C9 (Nat.ne_of_lt (Heap.lt_size e))]; exact f0, fr⟩
  generalize hs3 : ({ s2 with heap := s2.heap.push { cls := .type "list", dict := none, data := .seq ([] : List Value).toArray } } : Shared) = s3 at hns₁ hsb₁ I3 ⊢
  have o3 : ∀ b o, s2.heap.get? b = some o -> s3.heap.get? b = some o := fun b o e => by rw [<- hs3]; exact Heap.get?_push_of_some _ e
  have hk : ∀ b o, s3.heap.get? b = some o -> h₁.get? b = some o := fun b o e => by
    rw [hsb₁.2 b (Nat.ne_of_lt (Heap.lt_size e))]; exact Heap.get?_push_of_some _ e
  have st3 : tn 0 s3.heap := T.keep _ _ _ st2 fun b _ o e => o3 b o e
  have ho : ∀ b ∈ fp, ∃ o, s3.heap.get? b = some o := fun b hb => let ⟨o, e, _⟩ := T.obj _ _ st3 b hb; ⟨o, e⟩
  have I4 := A02 (tk := s3.toks + ([] : List (Str × Value)).length) I3 C f3 ho hns₁ hk
  have st4 : tn 0 h₁ := T.keep _ _ _ st3 fun b _ o e => hk b o e
  have hX : ∀ {H' : Hp} {pl : List (Addr × Obj)}, (∀ b ∈ fp, H' b = none) -> (∀ p ∈ pl, p.1 ∉ fp) -> ∀ b ∈ fp, FpOk (X.block scope cl N' s3 (upd H2 s2.heap.objs.size (.lst [])) fp) pl H' b := fun {H' pl} hn hp b hb => by
    refine ⟨hn b hb, I4.ok.exf b hb |>.1, I4.ok.exfs b hb, .inl hb, (I4.ok.exf b hb).2, fun p hp' z => ?_⟩
    have hp'' : p ∈ pl := by simpa [Cx.block] using hp'
    exact hp p hp'' (by rw [z]; exact hb)
  have fr3 : ∀ b ∈ fp, (upd H2 s2.heap.objs.size (.lst [])) b = none := fun b hb => (f3 b hb).1
  have loop : ∀ s₅ : Shared, s₅ = { s3 with heap := h₁, toks := s3.toks + ([] : List (Str × Value)).length } ->
      codeAny (model X.prog X.w) X.A (.compLoop (.ListComp elt [⟨tg, iter, ifs, 0⟩] scope pos) 0 (.ref it) (.ref s2.heap.objs.size) (compEnvC scope cl s3.heap.objs.size X.env)) (RR (.ref s2.heap.objs.size) s3.heap.objs.size) s₅ := by
    rintro s₅ rfl
    refine A4u (fun n s' => ∃ i σ' H' ys, Inv (X.block scope cl N' s3 (upd H2 s2.heap.objs.size (.lst [])) fp) [] σ' H' s' /\ tn i s'.heap /\ (∀ b ∈ fp, H' b = none) /\ W i n σ' H' ys) ?_ m0 ⟨0, _, _, [], I4, st4, fr3, w0⟩
    rintro n s6 ⟨i, σ6, H6, ys, I6, st6, fr6, w6⟩
    obtain ⟨hl6, hz6, hgo⟩ := turn i n σ6 H6 ys w6
    rcases hgo with ⟨stop, fin⟩ | ⟨go', step⟩
    · refine wpAny_mono (T.done (X.block scope cl N' s3 (upd H2 s2.heap.objs.size (.lst [])) fp) rfl rfl rfl hc i [] s6 σ6 H6 (fun _ _ => False) I6 (hX fr6 (fun _ z => nomatch z)) st6 stop) (fun r s7 ⟨hr, I7⟩ => ?_) fun _ _ z => z.elim
      subst hr
      obtain ⟨m7, hn7, _⟩ := id I7.loc
      refine out _ _ s7 m7 H6 hn7 (Nat.ne_of_gt I3.lt) I7.free I3.sz (fun x c e z => ?_) (fun p hp z => ?_) fin (S8 I3 I7 f3 (.refl ..))
      · obtain ⟨v, q⟩ := I3.cell x c e
        exact absurd q.lt (by rw [z]; exact Nat.lt_irrefl _)
      · exact absurd (Heap.lt_size (I3.pin p hp).1) (by rw [z]; exact Nat.lt_irrefl _)
    · refine wpAny_mono (T.item (X.block scope cl N' s3 (upd H2 s2.heap.objs.size (.lst [])) fp) rfl rfl rfl hc i [] s6 σ6 H6 (fun _ _ => False) I6 (hX fr6 (fun _ z => nomatch z)) st6 go') (fun r s7 ⟨u, hr, h7⟩ => ?_) fun _ _ z => z.elim
      subst hr
      refine wpAny_mono h7 (fun _ s8 ⟨x, H8, I8, r8, y8, st8, fr8⟩ => ?_) fun _ _ z => z.elim
      have I8' := I8.pinned (hX fr8 (fun _ z => nomatch z)) (T.obj _ _ st8)
      have again : ∀ {s9 : Shared} {σ9 : St} {H9 : Hp}, Inv (X.block scope cl N' s3 (upd H2 s2.heap.objs.size (.lst [])) fp) ([] ++ U2 fp s8.heap) σ9 H9 s9 -> ∀ {zs : List V}, (∃ m', m' < n /\ W (i + 1) m' σ9 H9 zs) ->
          ∃ m, m < n /\ ∃ i σ' H' ys, Inv (X.block scope cl N' s3 (upd H2 s2.heap.objs.size (.lst [])) fp) [] σ' H' s9 /\ tn i s9.heap /\ (∀ b ∈ fp, H' b = none) /\ W i m σ' H' ys := fun {s9 σ9 H9} I9 {zs} ⟨m', hm, w9⟩ => by
        refine ⟨m', hm, i + 1, σ9, H9, zs, I9.unpinned, T.keep _ _ _ st8 fun b hb o e => (I9.pin (b, o) (List.mem_append_right _ (List.mem_append_right _ (K0 hb e)))).1, fun b hb => ?_, w9⟩
        obtain ⟨o, e, d⟩ := T.obj _ _ st8 b hb
        exact (I9.pin (b, o) (List.mem_append_right _ (List.mem_append_right _ (K0 hb e)))).2.1
      refine wpAny_mono (hg _ _ _ _ s8 σ6 H8 x u _ I8' r8 (step x H8 y8)) (fun _ s9 ⟨σ9, H9, I9, q9⟩ => ?_) fun _ _ z => z.elim
      refine wpAny_mono (ht _ _ _ _ s9 σ9 H9 _ I9 q9) (fun ok s10 ⟨H10, I10, q10⟩ => ?_) fun _ _ z => z.elim
      cases ok with
      | false => exact again I10 q10
      | true =>
        rw [if_pos rfl]
        refine wpAny_mono (he _ _ _ _ s10 σ9 H10 _ (I10.wish _) q10) (fun yv s11 ⟨y, H11, I11w, r11, zs, hz, hlen, q11⟩ => ?_) fun xv s11 ⟨pl, σx, Hx, sx, Jx, a, cls, a0, H', B, ex, Fx, qx⟩ => by
          subst ex
          obtain ⟨mx, nx, _⟩ := id Jx.loc
          exact outE _ _ sx s11 Hx H' mx a cls a0 B nx Jx.free (fun z => by
            obtain ⟨_, o', ho, _⟩ := I3.stack.mem z
            exact absurd (Heap.lt_size ho) (Nat.lt_irrefl _)) I3.sz (S8 I3 Jx f3 (.refl ..)) Fx qx
        have I11 := I11w.unwish
        refine wpAny_mono (F4 (X := X.block scope cl N' s3 (upd H2 s2.heap.objs.size (.lst [])) fp) _ s11 σ9 H11 (.ref s2.heap.objs.size) [y] (.ref s2.heap.objs.size) [yv] (fun _ H' => ∃ m', m' < n /\ W (i + 1) m' σ9 H' (zs ++ [y])) I11 rfl (.cons r11 .nil) ⟨_, zs, y, rfl, rfl, hz, hlen, q11⟩) (fun _ s12 ⟨_, H12, I12, _, q12⟩ => ?_) fun _ _ z => z.elim
        exact again I12 q12
  exact codeAny_compStart_list (loop _ rfl) (T.self _ 0 _ _ _ st4 (loop _ rfl))
end
theorem A9o {B h1 h2 : Heap} {C : Addr} (k : ∀ b, b ≠ C -> h2.get? b = h1.get? b) : ∀ {l : List Env}, h1.FunFrames B l -> C ∉ frs l -> h2.FunFrames (PySem.W.hideAll B [C]) l
  | [], _, _ => trivial
  | env :: r, ⟨q1, ⟨L, o, q2, q3, q4, q5⟩, q6⟩, n => by
    have hL : L ≠ C := fun z => n (List.mem_filterMap.mpr ⟨env, List.mem_cons_self, by rw [q2, z]⟩)
    refine ⟨q1, ⟨L, o, q2, ?_, (k L hL).trans q4, q5⟩, A9o k q6 fun z => n (by
      obtain ⟨e, h1, h2⟩ := List.mem_filterMap.mp z
      exact List.mem_filterMap.mpr ⟨e, List.mem_cons_of_mem _ h1, h2⟩)⟩
    cases z : (PySem.W.hideAll B [C]).get? L with
    | none => rfl
    | some o => have := PySem.W.of_hideAll _ z; rw [q3] at this; cases this
theorem A3j {B : Heap} {C b : Addr} (h : B.get? b = none) : (PySem.W.hideAll B [C]).get? b = none := by
  cases z : (PySem.W.hideAll B [C]).get? b with
  | none => rfl
  | some o => have := PySem.W.of_hideAll _ z; rw [h] at this; cases this
section
variable {P : Program} {w : World} {K : PySem.W.Frag} {mg : Str -> Option Value} {base : Heap} {N : List Str} {qual : Str} {dsc : Scope} {f : Addr} {cd : Value} {A : Around} {outer : List Env} {s0 : Shared} {H0 : Hp} {E : XK}
variable {scope : Scope} {cl : List (Str × Addr)} {N' : List Str} {cap : List (Option Nat)} {elt tg iter : Expr} {ifs : List Expr} {wi : TI} {g : TG} {tt : TT} {te : TE} {pos : Pos}
theorem B1e {X : Cx} (hX : X = cxOf (CX1 P w) P w K mg base N qual dsc f cd A outer s0 H0 E) (C : CompSc X scope cl N' cap) (hi : PI X tg iter wi) (hg : ∀ s3 H3 fp, PG (X.block scope cl N' s3 H3 fp) tg g) (ht : ∀ s3 H3 fp, PTs (X.block scope cl N' s3 H3 fp) ifs tt)
    (he : ∀ s3 H3 fp, PE ((X.block scope cl N' s3 H3 fp).wish (bx X scope cl N' s3 H3 fp E)) elt te) (hs : ∀ x, foldedSetIterable iter X.env x = pure x := by intro _; rfl) : PE X (.ListComp elt [⟨tg, iter, ifs, 0⟩] scope pos) (A37 wi g tt te cap) := by
  intro pins s σ H Q I h
  rw [eval_ListComp]
  refine wpAny_comprehension_free (use := none) rfl hs C.clos C.kind C.names (thn (hi pins s σ H _ I h) fun v s1 h1 => thn h1 fun itv s2 h2 => ?_)
  obtain ⟨it, fp, tn, J, H2, e, I2, T, st2, f2, go⟩ := h2
  subst e
  refine A4w E (RR := fun acc C => compPost (model X.prog X.w) X.A X.xe none (EP X pins σ Q) acc C) (Fin := fun D H' => Q (.ref D) H') (by rw [hX]; rfl) C I2 T st2 f2 hg ht he go ?_ ?_
  · intro D C' s' m H' hn n1 n2 n3 n4 n5 fin inv
    exact ⟨m, hn, fun h' hs' => ⟨.ref D, H', inv.turned (t' := s'.toks) (fun b o hb e => (hs'.2 b hb).trans e) n2 n1 (.inr n3) n4 n5, rfl, fin⟩⟩
  · intro D C' s s' H H' m a cls a0 B hn n1 n2 n3 I F q
    subst hX
    show wpAny _ _ (noteFrame (.ref a) _) _ _ _
    rw [A8a (env := compEnvC scope cl C' (cxOf (CX1 P w) P w K mg base N qual dsc f cd A outer s0 H0 E).env) (env2 := (cxOf (CX1 P w) P w K mg base N qual dsc f cd A outer s0 H0 E).env) rfl]
    refine wpAny_looks_onW I.ok.frames rfl F.fly fun h1 hd1 u1 => ?_
    obtain ⟨oc, _, _, hoc, hdc, _⟩ := id hn
    have bC : B.get? C' = some oc := F.keep C' oc hoc n1 n2
    have hC' : H' C' = none := F.free C' oc hoc n1
    obtain ⟨k1, k2, k3, k4⟩ := hd1
    refine ⟨m, u1.ns ?_, fun h2 hs2 cenv hcl => ?_⟩
    · obtain ⟨o, es, ep, e1, r⟩ := hn
      exact ⟨o, es, ep, F.fly.1 C' o (F.keep C' o e1 n1 n2), r⟩
    have off : ∀ b, b ≠ C' -> h2.get? b = h1.get? b := fun b hb => hs2.2 b hb
    have z2 : (PySem.W.hideAll B [C']).StaysIn h2 := fun b o e => by
      have nb : b ≠ C' := fun z => by rw [z, PySem.W.hideAll_none [C'] (List.mem_singleton.mpr rfl)] at e; cases e
      exact (off b nb).trans (k1 b o (PySem.W.of_hideAll _ e))
    have z3 := A9o off k3 n2
    obtain ⟨fl, z4⟩ : ∃ fl, h2.TracedAtW (PySem.W.hideAll B [C']) a cls a0 fl := by
      obtain ⟨oe, vs, T, oT, ts, t1, t2, t3, t4, t5, t6, t7, t8⟩ := k4
      exact ⟨_, oe, vs, T, oT, ts, (off a fun z => by rw [z, bC] at k2; cases k2).trans t1, t2, t3, t4, A3j t5, t6, (off T fun z => by rw [z, bC] at t5; cases t5).trans t7, t8⟩
    refine A6f z2 z3 z4 fun g y1 y2 y3 y4 => ?_
    refine B6f (B := PySem.W.hideAll B [C']) (C := C') I ⟨F.os, F.bare, y1, A3j k2, y2, y3, fun b o eb => (F.hok b o eb).stay (fun c v hc z => PySem.W.hideAll_get _ z fun hm => ?_) (fun _ z => z) (fun _ _ z => z), fun b o nb e n hb => PySem.W.hideAll_get _ (F.keep b o e n hb) (fun hm => nb (List.mem_singleton.mp hm)), fun b o e n hb => ?_, F.free, fun b o nb e hb => ?_, F.tups, F.frzs, F.tbls⟩ n3 q
    · have hm := List.mem_singleton.mp hm
      rcases hc with hc | hc
      · rw [<- hc, hm, hC'] at eb; cases eb
      · rw [hm, hC'] at hc; cases hc
    · obtain ⟨sl, e1⟩ := F.slot b o e n hb
      obtain ⟨_, o', ho, hn'⟩ := F.fly.2.2.1.mem hb
      rw [e1] at ho; cases ho
      obtain ⟨sl2, e2⟩ := u1 b _ e1 hn'
      have nb : b ≠ C' := fun z => n2 (z ▸ hb)
      obtain ⟨sl3, e3⟩ := y4 b _ ((off b nb).trans e2) hn'
      exact ⟨sl3, e3⟩
    · obtain ⟨o', e1⟩ := F.there b o e hb
      exact ⟨o', PySem.W.hideAll_get _ e1 (fun hm => nb (List.mem_singleton.mp hm))⟩
end
end L2
namespace L2
open PySem PySem.Spec PyProof.Rows
def tF (t : TE) : TE := fun σ H _ => t σ H fun _ _ => False
def tEor (t u : TE) : TE := fun σ H Q => t σ H Q \/ u σ H Q
section
variable {X : Cx} {e : Expr} {t u : TE}
theorem qe_F (h : QE X e t) : QE X e (tF t) := ⟨fun pins s σ H Q I hw => wpAny_mono (h.out pins s σ H _ I hw) (fun _ _ ⟨_, _, _, _, z⟩ => z.elim) fun _ _ z => z⟩
theorem C1d (h : QE X e t) (h2 : QE X e u) : QE X e (tEor t u) := ⟨fun pins s σ H Q I hw => hw.elim (h.out pins s σ H Q I) (h2.out pins s σ H Q I)⟩
theorem C1c {scope : Scope} {cl : List (Str × Addr)} {N' : List Str} {s3 : Shared} {H3 : Hp} {fp : List Addr} {E : Value -> Shared -> Prop} (h : QE (X.block scope cl N' s3 H3 fp) e t) : QE ((X.block scope cl N' s3 H3 fp).wish E) e t :=
  ⟨PE.nox (show PE ((X.block scope cl N' s3 H3 fp).wish fun _ _ => False) e t from h.out)⟩
end
section
variable {P : Program} {w : World} {K : PySem.W.Frag} {mg : Str -> Option Value} {base : Heap} {N : List Str} {qual : Str} {dsc : Scope} {f : Addr} {cd : Value} {A : Around} {outer : List Env} {s0 : Shared} {H0 : Hp} {E : XK}
variable {scope : Scope} {cl : List (Str × Addr)} {N' : List Str} {cap : List (Option Nat)} {elt tg iter : Expr} {ifs : List Expr} {wi : TI} {g : TG} {tt : TT} {te : TE} {pos : Pos}
theorem A5q {X : Cx} (hX : X = cxOf (CX1 P w) P w K mg base N qual dsc f cd A outer s0 H0 E) (C : CompSc X scope cl N' cap) (hi : QI X tg iter wi) (hg : ∀ s3 H3 fp, QG (X.block scope cl N' s3 H3 fp) tg g) (ht : ∀ s3 H3 fp, QTs (X.block scope cl N' s3 H3 fp) ifs tt)
    (he : ∀ s3 H3 fp, QE ((X.block scope cl N' s3 H3 fp).wish (bx X scope cl N' s3 H3 fp E)) elt te) (hs : ∀ x, foldedSetIterable iter X.env x = pure x := by intro _; rfl) : QE X (.ListComp elt [⟨tg, iter, ifs, 0⟩] scope pos) (A37 wi g tt te cap) :=
  ⟨B1e hX C hi.out (fun a b c => (hg a b c).out) (fun a b c => (ht a b c).out) (fun a b c => (he a b c).out) hs⟩
end
end L2
namespace Pu
open PySem PySem.Spec PyProof.Rows L2 My Prf
def tXW (w0 : Wd) (K : Frag) (md : List Md) (psp : List SV -> Prop) (ta : TA) : TE := fun σ H _ => ta σ H fun vs H1 => ∃ (w : Wd) (as : List SV), w.H = H1 /\ w.Ok /\ Args K w md vs as /\ psp as /\ Le w0 w
theorem A39 {X : Cx} {k : Nat} {f C : Addr} {fd : FuncData} {ps : List Str} {md : List Md} {psp : List SV -> Prop} {K : Frag} {E : XK} {w0 : Wd} {x : Str} {p pos : Pos} {e : Expr} {es : List Expr} {t : TA} (hK : X.K = K) (F : FnOk X.prog X.w X.K X.mg X.base (CX1 X.prog X.w) k f fd ps (spE K md C psp)) (hr : Room k X.A) (hg : Gl X x) (hm : X.mg x = some (.ref f)) (hkp : PySem.W.keepIn X.K (.ref f) = true) (hb : Binds X.K fd ps []) (hx : V6 (CX1 X.prog X.w) X E) (hk : ∀ w', w'.Ok -> Le w0 w' -> E (.ref C) none w'.H)
    (ha : QA X (e :: es) t) (hdb : (x == ("__debug__" : Str)) = false := by decide) (he : starEach (e :: es) X.env = (false, eval e X.env) :: starEach es X.env := by rfl) (hpl : (backTo pos (starEach es X.env)).any (·.1) = false := by rfl) : QE X (.Call (.Name x p) (e :: es) [] pos) (tXW w0 K md psp t) := ⟨by
  intro pins s σ H Q I h
  refine wpAny_Call_Name_kw (P2 I hg hm ?_ hdb)
  refine PySem.W.callWith_K (h₀ := X.base) I.ok.mod.kin hkp (thn (ha.out pos pins s σ H _ I h) fun us s1 ⟨vs, H1, I1, r, wd, as, e1, e2, e3, e4, e5⟩ => ⟨I1.kIn, ?_⟩) he hpl
  refine B2u F hr hb .nil hx I1 r ?_
  rw [List.append_nil]
  exact ⟨wd, as, e1, e2, e3, e4, fun w' ok l => hk w' ok (e5.trans l)⟩⟩
def B3t (xs : List PyData) (pg : PyData -> PEnv -> (PEnv -> Prop) -> Prop) (pt : PTt) (pd : PDt) (pax : PAs) (psp : List SV -> Prop) (e0 : PEnv) : Prop :=
  ∃ (n : Nat) (Pv : Nat -> PEnv -> Prop), n < xs.length /\ Pv 0 e0 /\ (∀ i x e, i < n -> xs[i]? = some x -> Pv i e -> pg x e fun e2 => pt e2 fun b e3 => b = true /\ pd e3 fun _ e4 => Pv (i + 1) e4) /\ ∀ x e, xs[n]? = some x -> Pv n e -> pg x e fun e2 => pt e2 fun b e3 => b = true /\ pax e3 fun as _ => psp as
theorem B18 {K : Frag} {g : TG} {tt : TT} {te : TE} {ta : TA} {md : List Md} {psp : List SV -> Prop} {pg : PyData -> PEnv -> (PEnv -> Prop) -> Prop} {pt : PTt} {pd : PDt} {pax : PAs} [hg : RG K g pg] [ht : RT K tt pt] [he : RD K te pd] [ha : RAm K md ta pax] {c : Ct} {w : Wd} {env : PEnv} {σ : L2.St} {J : It} {xs : List PyData} {cap : List (Option Nat)} {D : Addr} {Fin : Hpp -> Prop}
    (hK : c.K = K) (E : EnvOk c w env σ) (wk : Walk c w J xs) (hn : xs.length < 1000000) (p : B3t xs pg pt pd pax psp (J6 cap env)) (hD : w.H D = none) : U9 J g tt (tEor te (tXW c.w0 K md psp ta)) D Fin (capσ cap σ) w.H := by
  subst hK
  obtain ⟨n, Pv, hnx, p0, step, last⟩ := p
  refine ⟨fun i m σ' H' vs => m = xs.length - i /\ i <= n /\ ∃ e w', w'.H = H' /\ EnvOk ⟨c.K, w, fun a => a = D⟩ w' e σ' /\ w'.H D = some (.lst vs) /\ vs.length <= i /\ Pv i e,
    ⟨xs.length, rfl, Nat.zero_le _, J6 cap env, w.lay D (.lst []), rfl, E.cap cap hD, C8, Nat.le_refl _, p0⟩, ?_⟩
  rintro i m σ1 _ vs ⟨rfl, hle, e1, w1, rfl, E1, h1, hvl, q1⟩
  refine ⟨h1, T8 (by omega), ?_⟩
  obtain ⟨go, stop, yld⟩ := wk w1 E1.wok (E.le0.trans E1.le0) E1.le0.f
  have hlt : i < xs.length := by omega
  refine .inr ⟨go i hlt, fun v H' y => ?_⟩
  obtain ⟨w1', x, rfl, ok1', le1, hx, dx⟩ := yld i v H' y hlt
  replace h1 := le1.h _ _ h1 (E1.zf D rfl).2.2
  replace E1 := E1.mono ok1' le1
  clear yld go stop y le1 ok1'
  generalize w1' = w1 at E1 h1 dx
  by_cases hi : i < n
  · refine hg.ok ⟨c.K, w, fun a => a = D⟩ w1 e1 σ1 v x _ _ rfl E1 dx (step i x e1 hi hx q1) fun e2 σ2 E2 q2 => ?_
    refine ht.ok ⟨c.K, w, fun a => a = D⟩ w1 e2 σ2 _ _ rfl E2 q2 fun b e3 w3 E3 l3 q3 => ?_
    obtain ⟨rfl, q3⟩ := q3
    have nm := (E2.zf D rfl).2.2
    have h3 := l3.h _ _ h1 nm
    rw [if_pos rfl]
    refine .inl (he.ok ⟨c.K, w, fun a => a = D⟩ w3 e3 σ2 _ _ rfl E3 q3 fun y' y e4 w4 E4 l4 d4 q4 => ?_)
    have h4 := l4.h _ _ h3 (E3.zf D rfl).2.2
    exact ⟨vs, h4, T8 (by omega), xs.length - (i + 1), by omega, rfl, hi, e4, ⟨w4.M, upd w4.H D (.lst (vs ++ [y'])), w4.F⟩, rfl, E4.writeZ rfl hD, C8, by rw [List.length_append]; simp; exact hvl, q4⟩
  · have e : i = n := by omega
    subst e
    refine hg.ok ⟨c.K, w, fun a => a = D⟩ w1 e1 σ1 v x _ _ rfl E1 dx (last x e1 hx q1) fun e2 σ2 E2 q2 => ?_
    refine ht.ok ⟨c.K, w, fun a => a = D⟩ w1 e2 σ2 _ _ rfl E2 q2 fun b e3 w3 E3 l3 q3 => ?_
    obtain ⟨rfl, q3⟩ := q3
    rw [if_pos rfl]
    refine .inr (ha.ok ⟨c.K, w, fun a => a = D⟩ w3 e3 σ2 _ _ rfl E3 q3 fun us as e4 w4 E4 l4 a4 q4 => ?_)
    exact ⟨w4, as, rfl, E4.wok, a4, q4, E.le0.trans E4.le0⟩
def B82 (pi : PAr) (pg : PyData -> PEnv -> (PEnv -> Prop) -> Prop) (pt : PTt) (pd : PDt) (pax : PAs) (psp : List SV -> Prop) (cap : List (Option Nat)) (_ : PEnds) (env : PEnv) : Prop := pi env fun xs e => xs.length < 1000000 /\ B3t xs pg pt pd pax psp (J6 cap e)
instance rsx_retC {K : Frag} {w0 : Wd} {md : List Md} {psp : List SV -> Prop} {wi : TI} {g : TG} {tt : TT} {te : TE} {ta : TA} {cap : List (Option Nat)} {pi : PAr} {pg : PyData -> PEnv -> (PEnv -> Prop) -> Prop} {pt : PTt} {pd : PDt} {pax : PAs} {sp : Sp} {E1 : XK} [hi : RI K wi pi] [hg : RG K g pg] [ht : RT K tt pt] [he : RD K te pd] [ha : RAm K md ta pax] :
    RSX K w0 (tRet (A38 sp [] E1 (K1 (tF (A37 wi g tt (tEor te (tXW w0 K md psp ta)) cap)) tNil))) (B82 pi pg pt pd pax psp cap) where
  ok := by
    rintro c w env σ Dp D rfl rfl E h p
    refine hi.ok c w env σ _ _ rfl E p fun J xs e1 w1 E1 l1 wk ⟨hn, q⟩ Dn hD => ?_
    exact B18 (pg := pg) (pt := pt) (pd := pd) (pax := pax) rfl E1 wk hn q hD
end Pu
set_option synthInstance.maxHeartbeats 0
set_option synthInstance.maxSize 100000
set_option maxHeartbeats 4000000
namespace Prf
open PySem L2 My Pu
local macro_rules | `(tactic| trivial) => `(tactic| try simp only [pSeq, B6o, B3y, B9f, A6n, B9d, pRet, A6m, A7z, A7y, A7x, A7w, B81, pIf, pAsg, B6x, B3a, B4g, pApp, B0j, B3u, B85, B1f, C03, pYes, pNot, pAnd, pOr, B6m, B6z, pOrV, pIfE, pOp, pI_i, B9a, pEqD, pNeD, pIsN, B86, A0h, A3g, A0j, A3f, A0i, A3e, B3e, B3d, pU_i, pUn, pNil, B1g, pTup, pLst, pCB, A6q, Z8, A2m, B31, B3c, B3b, B3n, B3o, A2k, A2j, B3m, B4h, A47, A14, A46, A11, A12, A45, A48, B26, B4a, B39, B38, A6h, A7m, A7l, A7n, pC, pdat, C02, C01, A67, B6n, A63, A62, A2q, C0w, B41, B5v, B2x, A5s, W4, A2d, A6g, B6t, A2p, A2x, A2w, A2y, A30, V4, A1a, A1b, A6l, A7v, A6k, A7u, pFor, A64, U3, J6, SV.lent, A1k, B6l, C0x, pSlL, pRev, A6j, A7t, B3w, B30, B3z, A6y, List.map_cons, List.map_nil, List.replicate_succ, List.replicate_zero, List.cons_append, List.nil_append, List.getElem?_cons_zero, List.getElem?_cons_succ, List.set_cons_zero, List.set_cons_succ, List.length_cons, List.length_nil, B6w, B6v, B9c, B9b, Option.bind_some, Option.bind_none, Option.map_some, Option.map_none, Option.join_some, A6w, A6v, A8h, A25, A24, A90, A3s, A9x, A3q, B4l, B44, X4, A3o, A0n, A0m, A9e, B2o, decide_eq_true_eq, Bool.not_eq_true', decide_eq_false_iff_not, ite_not, true_and, and_true, reduceIte, Nat.zero_le, Nat.reduceAdd, Nat.reduceLeDiff, Nat.reduceSub, Int.zero_add, A2o, A2n, List.length_map, A4z, B33, A49, A9k, A9t, A8g, A9y, B4m, B4w, B4z, B4v, B4y, B4p, B4t, B4s, B4n, B4o, B4q, Bool.true_eq_false, Bool.false_eq_true, reduceCtorEq, Bool.not_true, Bool.not_false, decide_true, decide_false, B25, B37, A61, A77, pLsN, pLsC, B6r, A6p, A75, A74, A76, A1p, A91, A9u, A3h, eq_self, B6g, V3, A09, A3p, A9r, A3b, A28, A3a, A27, A29, A26, B4u, B4x, B4r, B8z, B3q, B87, ot_d, ot_o, ot_t, A2r, A6i, A7q, A7p, A7r, A7o, pKid, A65, B45, B6d, C00, C0z, C0y, pTr, B29, B4e, B4d, B4f, B3s, B27, B4c, B4b, A68, A78, Y3, A5r, A3i, B3l, A20, B3r, A73, A72, A71, B88, pIn, A82, A83, A80, A81, A9a, A9b, A88, A89, A8u, A8v, A8s, A8t, A8q, A8r, A8o, A8p, A8y, A8z, A8w, A8x, A8m, A8n, A8k, A8l, A86, A87, A84, A85, A13, C0v, B3k, pS, B9h, B3i, B3f, B3h, B3j, B3g, A6u, A6r, A6t, A6s, B6s, B6j, B9e, B3v, pRep, A6o, B3p, pIdx, B83, B8y, B28, pStr, B8x, A66, B9j, B2y])
local macro_rules | `(tactic| nofun) => `(tactic| try simp -implicitDefEqProofs only [pSeq, B6o, B3y, B9f, A6n, B9d, pRet, A6m, A7z, A7y, A7x, A7w, B81, pIf, pAsg, B6x, B3a, B4g, pApp, B0j, B3u, B85, B1f, C03, pYes, pNot, pAnd, pOr, B6m, B6z, pOrV, pIfE, pOp, pI_i, B9a, pEqD, pNeD, pIsN, B86, A0h, A3g, A0j, A3f, A0i, A3e, B3e, B3d, pU_i, pUn, pNil, B1g, pTup, pLst, pCB, A6q, Z8, A2m, B31, B3c, B3b, B3n, B3o, A2k, A2j, B3m, B4h, A47, A14, A46, A11, A12, A45, A48, B26, B4a, B39, B38, A6h, A7m, A7l, A7n, pC, pdat, C02, C01, A67, B6n, A63, A62, A2q, C0w, B41, B5v, B2x, A5s, W4, A2d, A6g, B6t, A2p, A2x, A2w, A2y, A30, V4, A1a, A1b, A6l, A7v, A6k, A7u, pFor, A64, U3, J6, SV.lent, A1k, B6l, C0x, pSlL, pRev, A6j, A7t, B3w, B30, B3z, A6y, List.map_cons, List.map_nil, List.replicate_succ, List.replicate_zero, List.cons_append, List.nil_append, List.getElem?_cons_zero, List.getElem?_cons_succ, List.set_cons_zero, List.set_cons_succ, List.length_cons, List.length_nil, B6w, B6v, B9c, B9b, Option.bind_some, Option.bind_none, Option.map_some, Option.map_none, Option.join_some, A6w, A6v, A8h, A25, A24, A90, A3s, A9x, A3q, B4l, B44, X4, A3o, A0n, A0m, A9e, B2o, decide_eq_true_eq, Bool.not_eq_true', decide_eq_false_iff_not, ite_not, true_and, and_true, reduceIte, Nat.zero_le, Nat.reduceAdd, Nat.reduceLeDiff, Nat.reduceSub, Int.zero_add, A2o, A2n, List.length_map, A4z, B33, A49, A9k, A9t, A8g, A9y, B4m, B4w, B4z, B4v, B4y, B4p, B4t, B4s, B4n, B4o, B4q, Bool.true_eq_false, Bool.false_eq_true, reduceCtorEq, Bool.not_true, Bool.not_false, decide_true, decide_false, B25, B37, A61, A77, pLsN, pLsC, B6r, A6p, A75, A74, A76, A1p, A91, A9u, A3h, eq_self, B6g, V3, A09, A3p, A9r, A3b, A28, A3a, A27, A29, A26, B4u, B4x, B4r, B8z, B3q, B87, ot_d, ot_o, ot_t, A2r, A6i, A7q, A7p, A7r, A7o, pKid, A65, B45, B6d, C00, C0z, C0y, pTr, B29, B4e, B4d, B4f, B3s, B27, B4c, B4b, A68, A78, Y3, A5r, A3i, B3l, A20, B3r, A73, A72, A71, B88, pIn, A82, A83, A80, A81, A9a, A9b, A88, A89, A8u, A8v, A8s, A8t, A8q, A8r, A8o, A8p, A8y, A8z, A8w, A8x, A8m, A8n, A8k, A8l, A86, A87, A84, A85, A13, C0v, B3k, pS, B9h, B3i, B3f, B3h, B3j, B3g, A6u, A6r, A6t, A6s, B6s, B6j, B9e, B3v, pRep, A6o, B3p, pIdx, B83, B8y, B28, pStr, B8x, A66, B9j, B2y])
set_option genInjectivity false
set_option genSizeOfSpec false
structure Adr where
  a_commonpart : Addr
  d_commonpart : FuncData
  a_plus : Addr
  d_plus : FuncData
  a_minus : Addr
  d_minus : FuncData
  a_product : Addr
  d_product : FuncData
  a_parted : Addr
  d_parted : FuncData
  a_isless : Addr
  d_isless : FuncData
  a_larger : Addr
  d_larger : FuncData
  a_sumof : Addr
  d_sumof : FuncData
  a_ratebetween : Addr
  d_ratebetween : FuncData
  a_isoffered : Addr
  d_isoffered : FuncData
  a_cornersabove : Addr
  d_cornersabove : FuncData
  a_priceoftime : Addr
  d_priceoftime : FuncData
  a_endof : Addr
  d_endof : FuncData
  a_priceof : Addr
  d_priceof : FuncData
  a_wholeof : Addr
  d_wholeof : FuncData
  a_Lbegun : Addr
  d_Lbegun : FuncData
  a_Ltake : Addr
  d_Ltake : FuncData
  a_Llow : Addr
  d_Llow : FuncData
  a_Lplus : Addr
  d_Lplus : FuncData
  a_Lminus : Addr
  d_Lminus : FuncData
  a_Ltimes : Addr
  d_Ltimes : FuncData
  a_Lunder : Addr
  d_Lunder : FuncData
  a_Lamount : Addr
  d_Lamount : FuncData
  a_Loffer : Addr
  d_Loffer : FuncData
  a_Lnames : Addr
  d_Lnames : FuncData
  a_Lorder : Addr
  d_Lorder : FuncData
  a_Llag : Addr
  d_Llag : FuncData
  a_Lwaits : Addr
  d_Lwaits : FuncData
  a_Lholds : Addr
  d_Lholds : FuncData
  a_Lgroups : Addr
  d_Lgroups : FuncData
  a_Lnet : Addr
  d_Lnet : FuncData
  a_Lalike : Addr
  d_Lalike : FuncData
  a_Lcopy : Addr
  d_Lcopy : FuncData
  a_Ltime : Addr
  d_Ltime : FuncData
  a_Lprice : Addr
  d_Lprice : FuncData
  a_Lplan : Addr
  d_Lplan : FuncData
  a_Lnotime : Addr
  d_Lnotime : FuncData
  a_Llatest : Addr
  d_Llatest : FuncData
  a_law : Addr
  d_law : FuncData
  k_NOUGHT : Addr
  k_NoTime : Addr
  k_HurryError : Addr
  k_NoChange : Addr
  k_NoDeed : Addr
  k_NoDiary : Addr
  k_NoJoin : Addr
  k_NoName : Addr
  k_NoNet : Addr
  k_NoNumber : Addr
  k_NoPaper : Addr
  k_NoRow : Addr
  k_NoText : Addr
  k_NoTree : Addr
  k_NotSteps : Addr
  k_NotStraight : Addr
  k_TooMany : Addr
  k_Unbalanced : Addr
structure Txt (K : PySem.W.Frag) (mg : Str -> Option Value) (D : Adr) : Prop where
  F_commonpart : Fun K "common_part" "common_part" s_commonpart D.a_commonpart D.d_commonpart
  m_commonpart : mg "common_part" = some (.ref D.a_commonpart)
  F_plus : Fun K "plus" "plus" s_plus D.a_plus D.d_plus
  m_plus : mg "plus" = some (.ref D.a_plus)
  F_minus : Fun K "minus" "minus" s_minus D.a_minus D.d_minus
  m_minus : mg "minus" = some (.ref D.a_minus)
  F_product : Fun K "product" "product" s_product D.a_product D.d_product
  m_product : mg "product" = some (.ref D.a_product)
  F_parted : Fun K "parted" "parted" s_parted D.a_parted D.d_parted
  m_parted : mg "parted" = some (.ref D.a_parted)
  F_isless : Fun K "is_less" "is_less" s_isless D.a_isless D.d_isless
  m_isless : mg "is_less" = some (.ref D.a_isless)
  F_larger : Fun K "larger" "larger" s_larger D.a_larger D.d_larger
  m_larger : mg "larger" = some (.ref D.a_larger)
  F_sumof : Fun K "sum_of" "sum_of" s_sumof D.a_sumof D.d_sumof
  m_sumof : mg "sum_of" = some (.ref D.a_sumof)
  F_ratebetween : Fun K "rate_between" "rate_between" s_ratebetween D.a_ratebetween D.d_ratebetween
  m_ratebetween : mg "rate_between" = some (.ref D.a_ratebetween)
  F_isoffered : Fun K "is_offered" "is_offered" s_isoffered D.a_isoffered D.d_isoffered
  m_isoffered : mg "is_offered" = some (.ref D.a_isoffered)
  F_cornersabove : Fun K "corners_above" "corners_above" s_cornersabove D.a_cornersabove D.d_cornersabove
  m_cornersabove : mg "corners_above" = some (.ref D.a_cornersabove)
  F_priceoftime : Fun K "price_of_time" "price_of_time" s_priceoftime D.a_priceoftime D.d_priceoftime
  m_priceoftime : mg "price_of_time" = some (.ref D.a_priceoftime)
  F_endof : Fun K "end_of" "end_of" s_endof D.a_endof D.d_endof
  m_endof : mg "end_of" = some (.ref D.a_endof)
  F_priceof : Fun K "price_of" "price_of" s_priceof D.a_priceof D.d_priceof
  m_priceof : mg "price_of" = some (.ref D.a_priceof)
  F_wholeof : Fun K "whole_of" "whole_of" s_wholeof D.a_wholeof D.d_wholeof
  m_wholeof : mg "whole_of" = some (.ref D.a_wholeof)
  F_Lbegun : Fun K "_law_begun" "_law_begun" s_Lbegun D.a_Lbegun D.d_Lbegun
  m_Lbegun : mg "_law_begun" = some (.ref D.a_Lbegun)
  F_Ltake : Fun K "_law_take" "_law_take" s_Ltake D.a_Ltake D.d_Ltake
  m_Ltake : mg "_law_take" = some (.ref D.a_Ltake)
  F_Llow : Fun K "_law_low" "_law_low" s_Llow D.a_Llow D.d_Llow
  m_Llow : mg "_law_low" = some (.ref D.a_Llow)
  F_Lplus : Fun K "_law_plus" "_law_plus" s_Lplus D.a_Lplus D.d_Lplus
  m_Lplus : mg "_law_plus" = some (.ref D.a_Lplus)
  F_Lminus : Fun K "_law_minus" "_law_minus" s_Lminus D.a_Lminus D.d_Lminus
  m_Lminus : mg "_law_minus" = some (.ref D.a_Lminus)
  F_Ltimes : Fun K "_law_times" "_law_times" s_Ltimes D.a_Ltimes D.d_Ltimes
  m_Ltimes : mg "_law_times" = some (.ref D.a_Ltimes)
  F_Lunder : Fun K "_law_under" "_law_under" s_Lunder D.a_Lunder D.d_Lunder
  m_Lunder : mg "_law_under" = some (.ref D.a_Lunder)
  F_Lamount : Fun K "_law_amount" "_law_amount" s_Lamount D.a_Lamount D.d_Lamount
  m_Lamount : mg "_law_amount" = some (.ref D.a_Lamount)
  F_Loffer : Fun K "_law_offer" "_law_offer" s_Loffer D.a_Loffer D.d_Loffer
  m_Loffer : mg "_law_offer" = some (.ref D.a_Loffer)
  F_Lnames : Fun K "_law_names" "_law_names" s_Lnames D.a_Lnames D.d_Lnames
  m_Lnames : mg "_law_names" = some (.ref D.a_Lnames)
  F_Lorder : Fun K "_law_order" "_law_order" s_Lorder D.a_Lorder D.d_Lorder
  m_Lorder : mg "_law_order" = some (.ref D.a_Lorder)
  F_Llag : Fun K "_law_lag" "_law_lag" s_Llag D.a_Llag D.d_Llag
  m_Llag : mg "_law_lag" = some (.ref D.a_Llag)
  F_Lwaits : Fun K "_law_waits" "_law_waits" s_Lwaits D.a_Lwaits D.d_Lwaits
  m_Lwaits : mg "_law_waits" = some (.ref D.a_Lwaits)
  F_Lholds : Fun K "_law_holds" "_law_holds" s_Lholds D.a_Lholds D.d_Lholds
  m_Lholds : mg "_law_holds" = some (.ref D.a_Lholds)
  F_Lgroups : Fun K "_law_groups" "_law_groups" s_Lgroups D.a_Lgroups D.d_Lgroups
  m_Lgroups : mg "_law_groups" = some (.ref D.a_Lgroups)
  F_Lnet : Fun K "_law_net" "_law_net" s_Lnet D.a_Lnet D.d_Lnet
  m_Lnet : mg "_law_net" = some (.ref D.a_Lnet)
  F_Lalike : Fun K "_law_alike" "_law_alike" s_Lalike D.a_Lalike D.d_Lalike
  m_Lalike : mg "_law_alike" = some (.ref D.a_Lalike)
  F_Lcopy : Fun K "_law_copy" "_law_copy" s_Lcopy D.a_Lcopy D.d_Lcopy
  m_Lcopy : mg "_law_copy" = some (.ref D.a_Lcopy)
  F_Ltime : Fun K "_law_time" "_law_time" s_Ltime D.a_Ltime D.d_Ltime
  m_Ltime : mg "_law_time" = some (.ref D.a_Ltime)
  F_Lprice : Fun K "_law_price" "_law_price" s_Lprice D.a_Lprice D.d_Lprice
  m_Lprice : mg "_law_price" = some (.ref D.a_Lprice)
  F_Lplan : Fun K "_law_plan" "_law_plan" s_Lplan D.a_Lplan D.d_Lplan
  m_Lplan : mg "_law_plan" = some (.ref D.a_Lplan)
  F_Lnotime : Fun K "_law_no_time" "_law_no_time" s_Lnotime D.a_Lnotime D.d_Lnotime
  m_Lnotime : mg "_law_no_time" = some (.ref D.a_Lnotime)
  F_Llatest : Fun K "_law_latest" "_law_latest" s_Llatest D.a_Llatest D.d_Llatest
  m_Llatest : mg "_law_latest" = some (.ref D.a_Llatest)
  F_law : Fun K "law" "law" s_law D.a_law D.d_law
  m_law : mg "law" = some (.ref D.a_law)
  c_NOUGHT : mg "NOUGHT" = some (.ref D.k_NOUGHT)
  c_NoTime : mg "NoTime" = some (.ref D.k_NoTime)
  c_HurryError : mg "HurryError" = some (.ref D.k_HurryError)
  c_NoChange : mg "NoChange" = some (.ref D.k_NoChange)
  c_NoDeed : mg "NoDeed" = some (.ref D.k_NoDeed)
  c_NoDiary : mg "NoDiary" = some (.ref D.k_NoDiary)
  c_NoJoin : mg "NoJoin" = some (.ref D.k_NoJoin)
  c_NoName : mg "NoName" = some (.ref D.k_NoName)
  c_NoNet : mg "NoNet" = some (.ref D.k_NoNet)
  c_NoNumber : mg "NoNumber" = some (.ref D.k_NoNumber)
  c_NoPaper : mg "NoPaper" = some (.ref D.k_NoPaper)
  c_NoRow : mg "NoRow" = some (.ref D.k_NoRow)
  c_NoText : mg "NoText" = some (.ref D.k_NoText)
  c_NoTree : mg "NoTree" = some (.ref D.k_NoTree)
  c_NotSteps : mg "NotSteps" = some (.ref D.k_NotSteps)
  c_NotStraight : mg "NotStraight" = some (.ref D.k_NotStraight)
  c_TooMany : mg "TooMany" = some (.ref D.k_TooMany)
  c_Unbalanced : mg "Unbalanced" = some (.ref D.k_Unbalanced)
  z_ValueError : mg "ValueError" = none
  z_abs : mg "abs" = none
  z_all : mg "all" = none
  z_bool : mg "bool" = none
  z_int : mg "int" = none
  z_isinstance : mg "isinstance" = none
  z_len : mg "len" = none
  z_list : mg "list" = none
  z_max : mg "max" = none
  z_min : mg "min" = none
  z_range : mg "range" = none
  z_str : mg "str" = none
  z_tuple : mg "tuple" = none
  z_zip : mg "zip" = none
  c2_NOUGHT : Pu.GD K D.k_NOUGHT (dq 0)
  ex_NoTime : PySem.W.excIn K D.k_NoTime A34 "ValueError.__new__" = true
  xm_NoTime_HurryError : PySem.W.exmOne K (.ref D.k_NoTime) (.ref D.k_HurryError) = some true
  xga_NoTime : PySem.W.findIn K (.ref D.k_NoTime) "__getattribute__" = some (some (.builtin "BaseException.__getattribute__"))
  xgn_NoTime : PySem.W.findIn K (.ref D.k_NoTime) "__getattr__" = some none
  xgc_NoTime : PySem.W.findIn K (.ref D.k_NoTime) "__class__" = some (some (.builtin "object.__class__"))
  xsb_NoTime : PySem.W.subIn K (.ref D.k_NoTime) (.type "BaseException") = some true
  xso_NoTime : PySem.W.subIn K (.ref D.k_NoTime) (.type "object") = some true
  xhd_NoTime : PySem.W.hasDictIn K D.k_NoTime = true
  xty_NoTime : (K.lookup D.k_NoTime).map (·.cls) = some (.type "type")
  xt_NoTime_NoChange_NoDeed_NoDiary_NoJoin_NoName_NoNet_NoNumber_NoPaper : PySem.W.kitAny K (.ref D.k_NoTime) [(.ref D.k_NoChange), (.ref D.k_NoDeed), (.ref D.k_NoDiary), (.ref D.k_NoJoin), (.ref D.k_NoName), (.ref D.k_NoNet), (.ref D.k_NoNumber), (.ref D.k_NoPaper)] = some false
  xt_NoTime_NoRow_NoText_NoTree_NotSteps_NotStraight_TooMany_Unbalanced : PySem.W.kitAny K (.ref D.k_NoTime) [(.ref D.k_NoRow), (.ref D.k_NoText), (.ref D.k_NoTree), (.ref D.k_NotSteps), (.ref D.k_NotStraight), (.ref D.k_TooMany), (.ref D.k_Unbalanced)] = some false
  xi_NoTime_ValueError : PySem.W.kitOne K (.ref D.k_NoTime) (.type "ValueError") = some true
  xi_NoTime_NoTime : PySem.W.kitOne K (.ref D.k_NoTime) (.ref D.k_NoTime) = some true
abbrev sp_law := B5n
section
variable {K : PySem.W.Frag} {mg : Str -> Option Value} {D : Adr}
theorem sc_commonpart : FnScope ["one", "other"] ["one", "other"] (A5 s_commonpart) := ⟨rfl, rfl, rfl, by decide +kernel, rfl, by decide +kernel, by decide +kernel⟩
theorem K6 (T : Txt K mg D) : Binds K D.d_commonpart ["one", "other"] [] := T.F_commonpart.binds (ps := ["one", "other"]) fun _ _ _ _ _ _ us hl => by obtain ⟨_, _, rfl⟩ := us2 hl; rfl
theorem sc_plus : FnScope ["one", "other", "shared", "mine", "theirs", "top", "rest"] ["one", "other"] (A5 s_plus) := ⟨rfl, rfl, rfl, by decide +kernel, rfl, by decide +kernel, by decide +kernel⟩
theorem A3y (T : Txt K mg D) : Binds K D.d_plus ["one", "other"] [] := T.F_plus.binds (ps := ["one", "other"]) fun _ _ _ _ _ _ us hl => by obtain ⟨_, _, rfl⟩ := us2 hl; rfl
theorem sc_minus : FnScope ["one", "other"] ["one", "other"] (A5 s_minus) := ⟨rfl, rfl, rfl, by decide +kernel, rfl, by decide +kernel, by decide +kernel⟩
theorem A1u (T : Txt K mg D) : Binds K D.d_minus ["one", "other"] [] := T.F_minus.binds (ps := ["one", "other"]) fun _ _ _ _ _ _ us hl => by obtain ⟨_, _, rfl⟩ := us2 hl; rfl
theorem sc_product : FnScope ["one", "other", "mine", "theirs"] ["one", "other"] (A5 s_product) := ⟨rfl, rfl, rfl, by decide +kernel, rfl, by decide +kernel, by decide +kernel⟩
theorem A07 (T : Txt K mg D) : Binds K D.d_product ["one", "other"] [] := T.F_product.binds (ps := ["one", "other"]) fun _ _ _ _ _ _ us hl => by obtain ⟨_, _, rfl⟩ := us2 hl; rfl
theorem sc_parted : FnScope ["one", "other", "top", "bottom"] ["one", "other"] (A5 s_parted) := ⟨rfl, rfl, rfl, by decide +kernel, rfl, by decide +kernel, by decide +kernel⟩
theorem B2g (T : Txt K mg D) : Binds K D.d_parted ["one", "other"] [] := T.F_parted.binds (ps := ["one", "other"]) fun _ _ _ _ _ _ us hl => by obtain ⟨_, _, rfl⟩ := us2 hl; rfl
theorem sc_isless : FnScope ["one", "other"] ["one", "other"] (A5 s_isless) := ⟨rfl, rfl, rfl, by decide +kernel, rfl, by decide +kernel, by decide +kernel⟩
theorem Q4 (T : Txt K mg D) : Binds K D.d_isless ["one", "other"] [] := T.F_isless.binds (ps := ["one", "other"]) fun _ _ _ _ _ _ us hl => by obtain ⟨_, _, rfl⟩ := us2 hl; rfl
theorem sc_larger : FnScope ["one", "other"] ["one", "other"] (A5 s_larger) := ⟨rfl, rfl, rfl, by decide +kernel, rfl, by decide +kernel, by decide +kernel⟩
theorem B2h (T : Txt K mg D) : Binds K D.d_larger ["one", "other"] [] := T.F_larger.binds (ps := ["one", "other"]) fun _ _ _ _ _ _ us hl => by obtain ⟨_, _, rfl⟩ := us2 hl; rfl
theorem sc_sumof : FnScope ["some", "total", "one"] ["some"] (A5 s_sumof) := ⟨rfl, rfl, rfl, by decide +kernel, rfl, by decide +kernel, by decide +kernel⟩
theorem B0d (T : Txt K mg D) : Binds K D.d_sumof ["some"] [] := T.F_sumof.binds (ps := ["some"]) fun _ _ _ _ _ _ us hl => by obtain ⟨_, rfl⟩ := us1 hl; rfl
theorem sc_ratebetween : FnScope ["longer", "quicker"] ["longer", "quicker"] (A5 s_ratebetween) := ⟨rfl, rfl, rfl, by decide +kernel, rfl, by decide +kernel, by decide +kernel⟩
theorem X7 (T : Txt K mg D) : Binds K D.d_ratebetween ["longer", "quicker"] [] := T.F_ratebetween.binds (ps := ["longer", "quicker"]) fun _ _ _ _ _ _ us hl => by obtain ⟨_, _, rfl⟩ := us2 hl; rfl
theorem sc_isoffered : FnScope ["offer", "time", "kind", "corners"] ["offer", "time"] (A5 s_isoffered) := ⟨rfl, rfl, rfl, by decide +kernel, rfl, by decide +kernel, by decide +kernel⟩
theorem S9 (T : Txt K mg D) : Binds K D.d_isoffered ["offer", "time"] [] := T.F_isoffered.binds (ps := ["offer", "time"]) fun _ _ _ _ _ _ us hl => by obtain ⟨_, _, rfl⟩ := us2 hl; rfl
theorem sc_cornersabove : FnScope ["corners", "time"] ["corners", "time"] (A5 s_cornersabove) := ⟨rfl, rfl, rfl, by decide +kernel, rfl, by decide +kernel, by decide +kernel⟩
theorem T6 (T : Txt K mg D) : Binds K D.d_cornersabove ["corners", "time"] [] := T.F_cornersabove.binds (ps := ["corners", "time"]) fun _ _ _ _ _ _ us hl => by obtain ⟨_, _, rfl⟩ := us2 hl; rfl
theorem sc_priceoftime : FnScope ["offer", "time", "corners", "at", "longer"] ["offer", "time"] (A5 s_priceoftime) := ⟨rfl, rfl, rfl, by decide +kernel, rfl, by decide +kernel, by decide +kernel⟩
theorem L4 (T : Txt K mg D) : Binds K D.d_priceoftime ["offer", "time"] [] := T.F_priceoftime.binds (ps := ["offer", "time"]) fun _ _ _ _ _ _ us hl => by obtain ⟨_, _, rfl⟩ := us2 hl; rfl
theorem sc_endof : FnScope ["step"] ["step"] (A5 s_endof) := ⟨rfl, rfl, rfl, by decide +kernel, rfl, by decide +kernel, by decide +kernel⟩
theorem B0e (T : Txt K mg D) : Binds K D.d_endof ["step"] [] := T.F_endof.binds (ps := ["step"]) fun _ _ _ _ _ _ us hl => by obtain ⟨_, rfl⟩ := us1 hl; rfl
theorem sc_priceof : FnScope ["net", "plan"] ["net", "plan"] (A5 s_priceof) := ⟨rfl, rfl, rfl, by decide +kernel, rfl, by decide +kernel, by decide +kernel⟩
theorem A08 (T : Txt K mg D) : Binds K D.d_priceof ["net", "plan"] [] := T.F_priceof.binds (ps := ["net", "plan"]) fun _ _ _ _ _ _ us hl => by obtain ⟨_, _, rfl⟩ := us2 hl; rfl
theorem sc_wholeof : FnScope ["plan", "latest_end", "step"] ["plan"] (A5 s_wholeof) := ⟨rfl, rfl, rfl, by decide +kernel, rfl, by decide +kernel, by decide +kernel⟩
theorem B0c (T : Txt K mg D) : Binds K D.d_wholeof ["plan"] [] := T.F_wholeof.binds (ps := ["plan"]) fun _ _ _ _ _ _ us hl => by obtain ⟨_, rfl⟩ := us1 hl; rfl
theorem sc_Lbegun : FnScope ["_law_script", "_law_k", "_law_cell"] ["_law_script", "_law_k"] (A5 s_Lbegun) := ⟨rfl, rfl, rfl, by decide +kernel, rfl, by decide +kernel, by decide +kernel⟩
theorem O3 (T : Txt K mg D) : Binds K D.d_Lbegun ["_law_script", "_law_k"] [] := T.F_Lbegun.binds (ps := ["_law_script", "_law_k"]) fun _ _ _ _ _ _ us hl => by obtain ⟨_, _, rfl⟩ := us2 hl; rfl
theorem sc_Ltake : FnScope ["_law_state", "_law_many", "_law_digit", "_law_made", "_law_turn"] ["_law_state", "_law_many"] (A5 s_Ltake) := ⟨rfl, rfl, rfl, by decide +kernel, rfl, by decide +kernel, by decide +kernel⟩
theorem C7 (T : Txt K mg D) : Binds K D.d_Ltake ["_law_state", "_law_many"] [] := T.F_Ltake.binds (ps := ["_law_state", "_law_many"]) fun _ _ _ _ _ _ us hl => by obtain ⟨_, _, rfl⟩ := us2 hl; rfl
theorem sc_Llow : FnScope ["_law_top", "_law_bottom", "_law_one", "_law_other"] ["_law_top", "_law_bottom"] (A5 s_Llow) := ⟨rfl, rfl, rfl, by decide +kernel, rfl, by decide +kernel, by decide +kernel⟩
theorem V2 (T : Txt K mg D) : Binds K D.d_Llow ["_law_top", "_law_bottom"] [] := T.F_Llow.binds (ps := ["_law_top", "_law_bottom"]) fun _ _ _ _ _ _ us hl => by obtain ⟨_, _, rfl⟩ := us2 hl; rfl
theorem sc_Lplus : FnScope ["_law_one", "_law_other"] ["_law_one", "_law_other"] (A5 s_Lplus) := ⟨rfl, rfl, rfl, by decide +kernel, rfl, by decide +kernel, by decide +kernel⟩
theorem J4 (T : Txt K mg D) : Binds K D.d_Lplus ["_law_one", "_law_other"] [] := T.F_Lplus.binds (ps := ["_law_one", "_law_other"]) fun _ _ _ _ _ _ us hl => by obtain ⟨_, _, rfl⟩ := us2 hl; rfl
theorem sc_Lminus : FnScope ["_law_one", "_law_other"] ["_law_one", "_law_other"] (A5 s_Lminus) := ⟨rfl, rfl, rfl, by decide +kernel, rfl, by decide +kernel, by decide +kernel⟩
theorem K7 (T : Txt K mg D) : Binds K D.d_Lminus ["_law_one", "_law_other"] [] := T.F_Lminus.binds (ps := ["_law_one", "_law_other"]) fun _ _ _ _ _ _ us hl => by obtain ⟨_, _, rfl⟩ := us2 hl; rfl
theorem sc_Ltimes : FnScope ["_law_one", "_law_other"] ["_law_one", "_law_other"] (A5 s_Ltimes) := ⟨rfl, rfl, rfl, by decide +kernel, rfl, by decide +kernel, by decide +kernel⟩
theorem Q5 (T : Txt K mg D) : Binds K D.d_Ltimes ["_law_one", "_law_other"] [] := T.F_Ltimes.binds (ps := ["_law_one", "_law_other"]) fun _ _ _ _ _ _ us hl => by obtain ⟨_, _, rfl⟩ := us2 hl; rfl
theorem sc_Lunder : FnScope ["_law_one", "_law_other"] ["_law_one", "_law_other"] (A5 s_Lunder) := ⟨rfl, rfl, rfl, by decide +kernel, rfl, by decide +kernel, by decide +kernel⟩
theorem X8 (T : Txt K mg D) : Binds K D.d_Lunder ["_law_one", "_law_other"] [] := T.F_Lunder.binds (ps := ["_law_one", "_law_other"]) fun _ _ _ _ _ _ us hl => by obtain ⟨_, _, rfl⟩ := us2 hl; rfl
theorem sc_Lamount : FnScope ["_law_state", "_law_plain", "_law_least", "_law_way", "_law_bottom"] ["_law_state", "_law_plain", "_law_least"] (A5 s_Lamount) := ⟨rfl, rfl, rfl, by decide +kernel, rfl, by decide +kernel, by decide +kernel⟩
theorem K3 (T : Txt K mg D) : Binds K D.d_Lamount ["_law_state", "_law_plain", "_law_least"] [] := T.F_Lamount.binds (ps := ["_law_state", "_law_plain", "_law_least"]) fun _ _ _ _ _ _ us hl => by obtain ⟨_, _, _, rfl⟩ := us3 hl; rfl
theorem sc_Loffer : FnScope ["_law_state", "_law_kind", "_law_most", "_law_plain", "_law_many", "_law_time_here", "_law_price_here", "_law_gaps", "_law_gap", "_law_corners", "_law_rate", "_law_step"] ["_law_state", "_law_kind", "_law_most", "_law_plain"] (A5 s_Loffer) := ⟨rfl, rfl, rfl, by decide +kernel, rfl, by decide +kernel, by decide +kernel⟩
theorem B2k (T : Txt K mg D) : Binds K D.d_Loffer ["_law_state", "_law_kind", "_law_most", "_law_plain"] [] := T.F_Loffer.binds (ps := ["_law_state", "_law_kind", "_law_most", "_law_plain"]) fun _ _ _ _ _ _ us hl => by obtain ⟨_, _, _, _, rfl⟩ := us4 hl; rfl
theorem sc_Lnames : FnScope ["_law_state", "_law_many", "_law_way", "_law_turn", "_law_base", "_law_at", "_law_words", "_law_made", "_law_k", "_law_letters"] ["_law_state", "_law_many"] (A5 s_Lnames) := ⟨rfl, rfl, rfl, by decide +kernel, rfl, by decide +kernel, by decide +kernel⟩
theorem B2l (T : Txt K mg D) : Binds K D.d_Lnames ["_law_state", "_law_many"] [] := T.F_Lnames.binds (ps := ["_law_state", "_law_many"]) fun _ _ _ _ _ _ us hl => by obtain ⟨_, _, rfl⟩ := us2 hl; rfl
theorem sc_Lorder : FnScope ["_law_state", "_law_many", "_law_left", "_law_made"] ["_law_state", "_law_many"] (A5 s_Lorder) := ⟨rfl, rfl, rfl, by decide +kernel, rfl, by decide +kernel, by decide +kernel⟩
theorem A3z (T : Txt K mg D) : Binds K D.d_Lorder ["_law_state", "_law_many"] [] := T.F_Lorder.binds (ps := ["_law_state", "_law_many"]) fun _ _ _ _ _ _ us hl => by obtain ⟨_, _, rfl⟩ := us2 hl; rfl
theorem sc_Llag : FnScope ["_law_state", "_law_plain", "_law_lag_here"] ["_law_state", "_law_plain"] (A5 s_Llag) := ⟨rfl, rfl, rfl, by decide +kernel, rfl, by decide +kernel, by decide +kernel⟩
theorem B0h (T : Txt K mg D) : Binds K D.d_Llag ["_law_state", "_law_plain"] [] := T.F_Llag.binds (ps := ["_law_state", "_law_plain"]) fun _ _ _ _ _ _ us hl => by obtain ⟨_, _, rfl⟩ := us2 hl; rfl
theorem sc_Lwaits : FnScope ["_law_state", "_law_many", "_law_plain", "_law_order_here", "_law_rare", "_law_made", "_law_k", "_law_j", "_law_far"] ["_law_state", "_law_many", "_law_plain"] (A5 s_Lwaits) := ⟨rfl, rfl, rfl, by decide +kernel, rfl, by decide +kernel, by decide +kernel⟩
theorem B2i (T : Txt K mg D) : Binds K D.d_Lwaits ["_law_state", "_law_many", "_law_plain"] [] := T.F_Lwaits.binds (ps := ["_law_state", "_law_many", "_law_plain"]) fun _ _ _ _ _ _ us hl => by obtain ⟨_, _, _, rfl⟩ := us3 hl; rfl
theorem sc_Lholds : FnScope ["_law_state", "_law_many", "_law_plain", "_law_late", "_law_made", "_law_k", "_law_kind", "_law_moment"] ["_law_state", "_law_many", "_law_plain", "_law_late"] (A5 s_Lholds) := ⟨rfl, rfl, rfl, by decide +kernel, rfl, by decide +kernel, by decide +kernel⟩
theorem B2m (T : Txt K mg D) : Binds K D.d_Lholds ["_law_state", "_law_many", "_law_plain", "_law_late"] [] := T.F_Lholds.binds (ps := ["_law_state", "_law_many", "_law_plain", "_law_late"]) fun _ _ _ _ _ _ us hl => by obtain ⟨_, _, _, _, rfl⟩ := us4 hl; rfl
theorem sc_Lgroups : FnScope ["_law_state", "_law_works", "_law_left", "_law_made", "_law_size", "_law_alike_here"] ["_law_state", "_law_works"] (A5 s_Lgroups) := ⟨rfl, rfl, rfl, by decide +kernel, rfl, by decide +kernel, by decide +kernel⟩
theorem B0i (T : Txt K mg D) : Binds K D.d_Lgroups ["_law_state", "_law_works"] [] := T.F_Lgroups.binds (ps := ["_law_state", "_law_works"]) fun _ _ _ _ _ _ us hl => by obtain ⟨_, _, rfl⟩ := us2 hl; rfl
theorem sc_Lnet : FnScope ["_law_script", "_law_at", "_law_most", "_law_corners", "_law_kinds", "_law_plain", "_law_state", "_law_many", "_law_names_here", "_law_works", "_law_late", "_law_name", "_law_offer_here", "_law_waits_here", "_law_holds_here"] ["_law_script", "_law_at", "_law_most", "_law_corners", "_law_kinds", "_law_plain"] (A5 s_Lnet) := ⟨rfl, rfl, rfl, by decide +kernel, rfl, by decide +kernel, by decide +kernel⟩
theorem C0u (T : Txt K mg D) : Binds K D.d_Lnet ["_law_script", "_law_at", "_law_most", "_law_corners", "_law_kinds", "_law_plain"] [] := T.F_Lnet.binds (ps := ["_law_script", "_law_at", "_law_most", "_law_corners", "_law_kinds", "_law_plain"]) fun _ _ _ _ _ _ us hl => by obtain ⟨_, _, _, _, _, _, rfl⟩ := us6 hl; rfl
theorem sc_Lalike : FnScope ["_law_found", "_law_due"] ["_law_found", "_law_due"] (A5 s_Lalike) := ⟨rfl, rfl, rfl, by decide +kernel, rfl, by decide +kernel, by decide +kernel⟩
theorem Q6 (T : Txt K mg D) : Binds K D.d_Lalike ["_law_found", "_law_due"] [] := T.F_Lalike.binds (ps := ["_law_found", "_law_due"]) fun _ _ _ _ _ _ us hl => by obtain ⟨_, _, rfl⟩ := us2 hl; rfl
theorem sc_Lcopy : FnScope ["_law_net_here", "_law_works"] ["_law_net_here"] (A5 s_Lcopy) := ⟨rfl, rfl, rfl, by decide +kernel, rfl, by decide +kernel, by decide +kernel⟩
theorem B7r (T : Txt K mg D) : Binds K D.d_Lcopy ["_law_net_here"] [] := T.F_Lcopy.binds (ps := ["_law_net_here"]) fun _ _ _ _ _ _ us hl => by obtain ⟨_, rfl⟩ := us1 hl; rfl
theorem sc_Ltime : FnScope ["_law_state", "_law_offer_here", "_law_kind", "_law_corners", "_law_at", "_law_gap"] ["_law_state", "_law_offer_here"] (A5 s_Ltime) := ⟨rfl, rfl, rfl, by decide +kernel, rfl, by decide +kernel, by decide +kernel⟩
theorem B7p (T : Txt K mg D) : Binds K D.d_Ltime ["_law_state", "_law_offer_here"] [] := T.F_Ltime.binds (ps := ["_law_state", "_law_offer_here"]) fun _ _ _ _ _ _ us hl => by obtain ⟨_, _, rfl⟩ := us2 hl; rfl
theorem sc_Lprice : FnScope ["_law_offer_here", "_law_time_here", "_law_kind", "_law_corners", "_law_corner", "_law_one", "_law_other", "_law_part", "_law_whole", "_law_share"] ["_law_offer_here", "_law_time_here"] (A5 s_Lprice) := ⟨rfl, rfl, rfl, by decide +kernel, rfl, by decide +kernel, by decide +kernel⟩
theorem B2j (T : Txt K mg D) : Binds K D.d_Lprice ["_law_offer_here", "_law_time_here"] [] := T.F_Lprice.binds (ps := ["_law_offer_here", "_law_time_here"]) fun _ _ _ _ _ _ us hl => by obtain ⟨_, _, rfl⟩ := us2 hl; rfl
theorem sc_Lplan : FnScope ["_law_state", "_law_net_here", "_law_plan_here", "_law_name", "_law_offer_here", "_law_start", "_law_at", "_law_time_here", "_law_some"] ["_law_state", "_law_net_here"] (A5 s_Lplan) := ⟨rfl, rfl, rfl, by decide +kernel, rfl, by decide +kernel, by decide +kernel⟩
theorem B7q (T : Txt K mg D) : Binds K D.d_Lplan ["_law_state", "_law_net_here"] [] := T.F_Lplan.binds (ps := ["_law_state", "_law_net_here"]) fun _ _ _ _ _ _ us hl => by obtain ⟨_, _, rfl⟩ := us2 hl; rfl
theorem sc_Lnotime : FnScope ["_law_net_here", "_law_plan_here", "e"] ["_law_net_here", "_law_plan_here"] (A5 s_Lnotime) := ⟨rfl, rfl, rfl, by decide +kernel, rfl, by decide +kernel, by decide +kernel⟩
theorem B0f (T : Txt K mg D) : Binds K D.d_Lnotime ["_law_net_here", "_law_plan_here"] [] := T.F_Lnotime.binds (ps := ["_law_net_here", "_law_plan_here"]) fun _ _ _ _ _ _ us hl => by obtain ⟨_, _, rfl⟩ := us2 hl; rfl
theorem sc_Llatest : FnScope ["_law_plan_here", "_law_behind", "_law_start", "_law_time_here", "_law_end"] ["_law_plan_here"] (A5 s_Llatest) := ⟨rfl, rfl, rfl, by decide +kernel, rfl, by decide +kernel, by decide +kernel⟩
theorem B0g (T : Txt K mg D) : Binds K D.d_Llatest ["_law_plan_here"] [] := T.F_Llatest.binds (ps := ["_law_plan_here"]) fun _ _ _ _ _ _ us hl => by obtain ⟨_, rfl⟩ := us1 hl; rfl
theorem sc_law : FnScope ["_law_script", "_law_at", "_law_state", "_law_kinds", "_law_net_here", "_law_plan_here", "_law_prices", "_law_handed", "_law_given", "_law_whole", "_law_price_here"] ["_law_script"] (A5 s_law) := ⟨rfl, rfl, rfl, by decide +kernel, rfl, by decide +kernel, by decide +kernel⟩
theorem C3b (T : Txt K mg D) : Binds K D.d_law ["_law_script"] [] := T.F_law.binds (ps := ["_law_script"]) fun _ _ _ _ _ _ us hl => by obtain ⟨_, rfl⟩ := us1 hl; rfl
end
theorem A0e : (PyData.str "steps").canLay0 = true := by decide +kernel
theorem B4k : (PyData.str "straight").canLay0 = true := by decide +kernel
theorem A9s : PyData.eqv (.str "steps") (.str "steps") = true := by decide +kernel
theorem C0o : PyData.eqv (.str "straight") (.str "straight") = true := by decide +kernel
theorem C2r : PyData.eqv (.str "steps") (.str "straight") = false := by decide +kernel
theorem A9q : PyData.eqv (.str "straight") (.str "steps") = false := by decide +kernel
def offD (kd : Str) (cs : List (Rat × Rat)) : PyData := .tuple [.str kd, .list (cs.map dcn)]
def Kd (kd : Str) : Prop := kd = "straight" \/ kd = "steps"
theorem Kd.lay {kd : Str} (h : Kd kd) : (PyData.str kd).canLay0 = true := by rcases h with rfl | rfl; exact B4k; exact A0e
def G7 (c d : Rat × Rat) : Rat := (d.2 - c.2) / (c.1 - d.1)
theorem C2c {s : Str} : OT.sv (.leaf (.str s)) = .d (.str s) := rfl
theorem C08 {xs : List PyData} : OT.sv (.leaf (.list xs)) = .bor xs := rfl
def OffT (t0 : OT) (kd : Str) (cs : List (Rat × Rat)) : Prop := t0 = .leaf (.tuple [.str kd, .list (cs.map dcn)]) \/ ∃ a b, t0 = .nd false a (.cons (.leaf (.str kd)) (.cons (.nd true b (L0 (cs.map dcn))) .nil))
def P5 (c d : Rat × Rat) (t : Rat) : Rat := c.2 + G7 c d * (c.1 - t)
theorem A18 {c d : Rat × Rat} (h : d.1 < c.1) (h1 : SmR 161 85 c.1) (h2 : SmR 285 151 c.2) (h3 : SmR 161 85 d.1) (h4 : SmR 285 151 d.2) : SmR 607 549 (G7 c d) :=
  ((h4.sub h2).div (h1.sub h3) (by grind)).mono (by decide) (by decide)
theorem part (t : Rat) : ∀ {cs : List (Rat × Rat)}, Dec cs -> ∃ A B, cs = A ++ B /\ cs.filter (fun c => decide (t < c.1)) = A /\ (∀ c ∈ A, t < c.1) /\
    ((B = [] /\ cs.filter (fun c => decide (t <= c.1)) = A /\ cs.filter (fun c => decide (c.1 = t)) = []) \/
     ∃ b r, B = b :: r /\ b.1 <= t /\ (b.1 = t -> cs.filter (fun c => decide (t <= c.1)) = A ++ [b] /\ cs.filter (fun c => decide (c.1 = t)) = [b]) /\ (b.1 < t -> cs.filter (fun c => decide (t <= c.1)) = A /\ cs.filter (fun c => decide (c.1 = t)) = []))
  | [], _ => ⟨[], [], rfl, rfl, fun _ z => (nomatch z), .inl ⟨rfl, rfl, rfl⟩⟩
  | c :: r, h => by
    by_cases hc : t < c.1
    · have h1 : t <= c.1 := Rat.le_of_lt hc
      have h2 : ¬ c.1 = t := fun e => by grind
      obtain ⟨A, B, e, fA, hA, hB⟩ := part t h.tail
      refine ⟨c :: A, B, by rw [e]; rfl, by rw [List.filter_cons, if_pos (by simpa using hc), fA], fun d hd => ?_, ?_⟩
      · rcases List.mem_cons.mp hd with rfl | z
        · exact hc
        · exact hA d z
      · rw [List.filter_cons, if_pos (by simpa using h1), List.filter_cons, if_neg (by simpa using h2)]
        rcases hB with ⟨b1, b2, b3⟩ | ⟨b, r', b1, b2, b3, b4⟩
        · exact .inl ⟨b1, by rw [b2], b3⟩
        · exact .inr ⟨b, r', b1, b2, fun z => ⟨by rw [(b3 z).1]; rfl, (b3 z).2⟩, fun z => ⟨by rw [(b4 z).1], (b4 z).2⟩⟩
    · have hr : ∀ d ∈ r, d.1 < t := fun d hd => by have := h.lt d hd; grind
      have n1 : r.filter (fun c => decide (t < c.1)) = [] := List.filter_eq_nil_iff.mpr fun d hd => by have := hr d hd; simp; grind
      have n2 : r.filter (fun c => decide (t <= c.1)) = [] := List.filter_eq_nil_iff.mpr fun d hd => by have := hr d hd; simp; grind
      have n3 : r.filter (fun c => decide (c.1 = t)) = [] := List.filter_eq_nil_iff.mpr fun d hd => by have := hr d hd; simp; grind
      refine ⟨[], c :: r, rfl, by rw [List.filter_cons, if_neg (by simpa using hc), n1], fun _ z => (nomatch z), .inr ⟨c, r, rfl, by grind, fun e => ?_, fun e => ?_⟩⟩
      · exact ⟨by rw [List.filter_cons, if_pos (by simp [e]), n2]; rfl, by rw [List.filter_cons, if_pos (by simp [e]), n3]⟩
      · exact ⟨by rw [List.filter_cons, if_neg (by simp; grind), n2], by rw [List.filter_cons, if_neg (by simp; grind), n3]⟩
def Price (cs : List (Rat × Rat)) (t p : Rat) : Prop := ∃ A b r, cs = A ++ b :: r /\ cs.filter (fun c => decide (t < c.1)) = A /\ b.1 <= t /\ ((b.1 = t /\ p = b.2) \/ (b.1 < t /\ ∃ A' l, A = A' ++ [l] /\ p = P5 l b t))
theorem Price.uniq {cs : List (Rat × Rat)} {t p q : Rat} (h : Price cs t p) (h' : Price cs t q) : p = q := by
  obtain ⟨A, b, r, e, f, _, h⟩ := h
  obtain ⟨A', b', r', e', f', _, h'⟩ := h'
  have eA : A = A' := f.symm.trans f'
  subst eA
  rw [e] at e'
  have e2 := List.append_cancel_left e'
  cases e2
  rcases h with ⟨h1, rfl⟩ | ⟨h1, A1, l1, g1, rfl⟩
  · rcases h' with ⟨h2, rfl⟩ | ⟨h2, _⟩
    · rfl
    · grind
  · rcases h' with ⟨h2, rfl⟩ | ⟨h2, A2, l2, g2, rfl⟩
    · grind
    · rw [g1] at g2
      have := List.append_inj' g2 rfl
      obtain ⟨_, e3⟩ := this
      cases e3; rfl
def Out (kd : Str) (cs : List (Rat × Rat)) (t : Rat) (c0 cl : Rat × Rat) (out : List (Rat × Rat)) : Prop :=
  (c0.1 < t /\ out = [(t, c0.2)]) \/ (¬ c0.1 < t /\ kd = "steps" /\ out = cs.filter fun c => decide (t <= c.1)) \/ (¬ c0.1 < t /\ kd = "straight" /\ ¬ cl.1 < t /\ out = cs) \/ (¬ c0.1 < t /\ kd = "straight" /\ cl.1 < t /\ ∃ p, Price cs t p /\ out = cs.filter (fun c => decide (t < c.1)) ++ [(t, p)])
theorem A0g : ("steps" : Str) ≠ "straight" := by decide +kernel
theorem Out.uniq {kd : Str} {cs : List (Rat × Rat)} {t : Rat} {c0 cl : Rat × Rat} {o o' : List (Rat × Rat)} (h : Out kd cs t c0 cl o) (h' : Out kd cs t c0 cl o') : o = o' := by
  rcases h with ⟨h1, rfl⟩ | ⟨h1, rfl, rfl⟩ | ⟨h1, rfl, h2, rfl⟩ | ⟨h1, rfl, h2, p, hp, rfl⟩ <;> rcases h' with ⟨g1, rfl⟩ | ⟨g1, g, rfl⟩ | ⟨g1, g, g2, rfl⟩ | ⟨g1, g, g2, q, hq, rfl⟩
  all_goals first | rfl | exact absurd h1 g1 | exact absurd g1 h1 | exact absurd h2 g2 | exact absurd g2 h2 | exact absurd g A0g | exact absurd g.symm A0g | rw [hp.uniq hq]
theorem B7x (c d : Rat × Rat) (t : Rat) : c.2 + (c.1 - t) / (c.1 - d.1) * (d.2 - c.2) = P5 c d t := by
  unfold P5 G7
  rw [Rat.div_def, Rat.div_def]
  grind
theorem Q9 {A r : List (Rat × Rat)} {b : Rat × Rat} : (A ++ b :: r)[A.length]? = some b := by simp
theorem X3 {A r : List (Rat × Rat)} {l : Rat × Rat} : ((A ++ [l]) ++ r)[A.length]? = some l := by simp
def TOk (cs : List (Rat × Rat)) (t : Rat) (c0 cl : Rat × Rat) : Prop := OfOk cs 161 85 285 151 /\ SmR 339 261 t /\ cs[0]? = some c0 /\ cs[cs.length - 1]? = some cl
theorem C1t (c d : Rat × Rat) : P5 c d c.1 = c.2 := by unfold P5; grind
theorem C1s {c d : Rat × Rat} (h : d.1 < c.1) : P5 c d d.1 = d.2 := by
  unfold P5 G7
  have hn : c.1 - d.1 ≠ 0 := by grind
  rw [Rat.div_mul_cancel hn]; grind
theorem B0u {c d : Rat × Rat} {t : Rat} (h : d.1 < c.1) (h1 : SmR 161 85 c.1) (h2 : SmR 285 151 c.2) (h3 : SmR 161 85 d.1) (h4 : SmR 285 151 d.2) (ht : SmR 339 261 t) : SmR 1200 1100 (P5 c d t) :=
  (h2.add ((A18 h h1 h2 h3 h4).mul (h1.sub ht))).mono (by decide) (by decide)
def lm (vs : List Rat) (m : Rat) : Rat := vs.foldl (fun m v => if v < m then v else m) m
theorem C1u (vs : List Rat) (v m : Rat) : lm (vs ++ [v]) m = if v < lm vs m then v else lm vs m := by unfold lm; rw [List.foldl_append]; rfl
theorem C1v : ∀ (vs : List Rat) (m : Rat), lm vs m <= m /\ ∀ v ∈ vs, lm vs m <= v
  | [], m => ⟨Rat.le_refl, fun v h => absurd h (by simp)⟩
  | v :: r, m => by
    obtain ⟨h1, h2⟩ := C1v r (if v < m then v else m)
    have e : lm (v :: r) m = lm r (if v < m then v else m) := rfl
    rw [e]
    have h3 : (if v < m then v else m) <= m /\ (if v < m then v else m) <= v := by
      split
      · constructor <;> grind
      · constructor <;> grind
    refine ⟨by grind, fun x hx => ?_⟩
    rcases List.mem_cons.mp hx with rfl | hx
    · grind
    · exact h2 x hx
theorem B9y : ∀ (vs : List Rat) (m : Rat), lm vs m = m \/ lm vs m ∈ vs
  | [], m => .inl rfl
  | v :: r, m => by
    have e : lm (v :: r) m = lm r (if v < m then v else m) := rfl
    rw [e]
    rcases B9y r (if v < m then v else m) with h | h
    · rw [h]
      split
      · exact .inr List.mem_cons_self
      · exact .inl rfl
    · exact .inr (List.mem_cons_of_mem _ h)
def val (q : Rat) (c : Rat × Rat) : Rat := c.2 + q * c.1
theorem B5p {c : Rat × Rat} {q : Rat} (h1 : SmR 400 300 c.1) (h2 : SmR 1200 1100 c.2) (h3 : SmR 1000 900 q) : SmR 2501 2300 (c.2 + q * c.1) := (h2.add (h3.mul h1)).mono (by decide) (by decide)
theorem C2d {q : Rat} {c : Rat × Rat} (h1 : SmR 161 85 c.1) (h2 : SmR 285 151 c.2) (h3 : SmR 1000 900 q) : SmR 2501 2300 (val q c) := B5p (h1.mono (by decide) (by decide)) (h2.mono (by decide) (by decide)) h3
theorem B1v {f : Rat × Rat -> Rat} {cs : List (Rat × Rat)} {i : Nat} {c : Rat × Rat} (h : cs[i]? = some c) : (cs.map f).take (i + 1) = (cs.map f).take i ++ [f c] := by
  rw [List.take_add_one, List.getElem?_map, h]; rfl
theorem A4x {q m t : Rat} {c d : Rat × Rat} (hcd : d.1 < c.1) (h1 : m <= val q c) (h2 : m <= val q d) (t1 : d.1 <= t) (t2 : t <= c.1) : ¬ P5 c d t + q * t < m := by
  have hn : c.1 - d.1 ≠ 0 := by grind
  have hp : 0 < c.1 - d.1 := by grind
  obtain ⟨x, hx⟩ : ∃ x, x = (c.1 - t) / (c.1 - d.1) := ⟨_, rfl⟩
  have hx1 : x * (c.1 - d.1) = c.1 - t := by rw [hx]; exact Rat.div_mul_cancel hn
  have x0 : 0 <= x := by
    refine Rat.le_of_mul_le_mul_right (c := c.1 - d.1) ?_ hp
    rw [hx1]; grind
  have x1 : x <= 1 := by
    refine Rat.le_of_mul_le_mul_right (c := c.1 - d.1) ?_ hp
    rw [hx1]; grind
  have e1 : G7 c d * (c.1 - t) = (d.2 - c.2) * x := by
    unfold G7
    rw [hx, Rat.div_def, Rat.div_def]; grind
  have e2 : P5 c d t + q * t = (1 - x) * val q c + x * val q d := by
    unfold P5 val
    rw [e1]
    have ht : t = c.1 - x * (c.1 - d.1) := by grind
    rw [ht]; grind
  have a1 : 0 <= (1 - x) * (val q c - m) := Rat.mul_nonneg (by grind) (by grind)
  have a2 : 0 <= x * (val q d - m) := Rat.mul_nonneg x0 (by grind)
  rw [e2]
  grind
theorem C05 {x : Int} (h : x <= 60) : Rat.divInt x 60 <= 1 := by
  have e : Rat.divInt 1 1 - Rat.divInt x 60 = Rat.divInt (1 * 60 - x * 1) (1 * 60) := Rat.divInt_sub_divInt _ _ (by decide) (by decide)
  have h1 : 0 <= Rat.divInt (1 * 60 - x * 1) (1 * 60) := N9 (by omega) (by decide)
  have h2 : Rat.divInt 1 1 = 1 := by decide +kernel
  rw [<- e, h2] at h1
  grind
theorem OfOk.up {cs : List (Rat × Rat)} {a b c d a' b' c' d' : Nat} (h : OfOk cs a b c d) (h1 : a <= a') (h2 : b <= b') (h3 : c <= c') (h4 : d <= d') : OfOk cs a' b' c' d' :=
  ⟨h.ne, h.le, h.dec, fun x hx => ⟨(h.sm x hx).1.mono h1 h2, (h.sm x hx).2.mono h3 h4⟩⟩
theorem A9v : ∀ qs : List Rat, PyData.canLayAll0 (qs.map dq) = true
  | [] => rfl
  | q :: r => by
    show ((dq q).canLay0 && PyData.canLayAll0 (r.map dq)) = true
    rw [B43, A9v r]; rfl
theorem A0o : ∀ qs : List Rat, PyData.depthAll (qs.map dq) <= 1
  | [] => Nat.zero_le _
  | q :: r => by
    show max (dq q).depth (PyData.depthAll (r.map dq)) <= 1
    have h1 := A0o r
    have h2 : (dq q).depth = 1 := rfl
    omega
theorem C2m (qs : List Rat) : (PyData.list (qs.map dq)).canLay0 = true := A9v qs
theorem C21 (qs : List Rat) : (PyData.list (qs.map dq)).depth <= 60 := by
  show PyData.depthAll (qs.map dq) + 1 <= 60
  have := A0o qs
  omega
theorem C2h {kd : Str} (cs : List (Rat × Rat)) (h : (PyData.str kd).canLay0 = true) : (PyData.tuple [.str kd, .list (cs.map dcn)]).canLay0 = true := by
  show ((PyData.str kd).canLay0 && (PyData.canLayAll0 (cs.map dcn) && true)) = true
  rw [h, A93]; rfl
theorem C06 {kd : Str} (cs : List (Rat × Rat)) : (PyData.tuple [.str kd, .list (cs.map dcn)]).depth <= 60 := by
  show max 0 (max (PyData.depthAll (cs.map dcn) + 1) 0) + 1 <= 60
  have := A0q cs
  omega
theorem C04 {l : List (Rat × Rat)} {i j : Nat} {c d : Rat × Rat} (h : Dec l) (h1 : l[i]? = some c) (h2 : l[j]? = some d) (h3 : i <= j) : d.1 <= c.1 := by
  rcases Nat.lt_or_ge i j with z | z
  · exact Rat.le_of_lt (h.get h1 h2 z)
  · have : i = j := by omega
    subst this; rw [h1] at h2; cases h2; exact Rat.le_refl
theorem Price.sm {cs : List (Rat × Rat)} {t p : Rat} (h : Price cs t p) (ok : OfOk cs 161 85 285 151) (st : SmR 339 261 t) : SmR 1200 1100 p := by
  obtain ⟨A, b, r, e, f, hb, h⟩ := h
  have sb := ok.sm b (by rw [e]; simp)
  rcases h with ⟨h1, rfl⟩ | ⟨h1, A', l, eA, rfl⟩
  · exact sb.2.mono (by decide) (by decide)
  · have sl := ok.sm l (by rw [e, eA]; simp)
    have hl : l ∈ cs.filter (fun c => decide (t < c.1)) := by rw [f, eA]; simp
    have := (List.mem_filter.mp hl).2
    simp at this
    exact B0u (by grind) sl.1 sl.2 sb.1 sb.2 st
theorem Price.ge {cs : List (Rat × Rat)} {t p q m : Rat} (h : Price cs t p) (hall : ∀ c ∈ cs, m <= val q c) : ¬ val q (t, p) < m := by
  obtain ⟨A, b, r, e, f, hb, h⟩ := h
  have vb := hall b (by rw [e]; simp)
  rcases h with ⟨h1, rfl⟩ | ⟨h1, A', l, eA, rfl⟩
  · subst h1; exact Rat.not_lt.mpr vb
  · have vl := hall l (by rw [e, eA]; simp)
    have hl : l ∈ cs.filter (fun c => decide (t < c.1)) := by rw [f, eA]; simp
    have hl := (List.mem_filter.mp hl).2
    simp at hl
    exact A4x (c := l) (d := b) (by grind) vl vb (by grind) (by grind)
theorem smr0 : SmR 1 1 0 := ⟨by unfold Sm; decide, by unfold Sm; decide⟩
theorem smq0 : SmQ 3900 0 := ⟨smr0.1.mono (by decide), smr0.2.mono (by decide)⟩
def CvI (l : List (Rat × Rat)) : Prop := ∀ (i : Nat) a b c, l[i]? = some a -> l[i + 1]? = some b -> l[i + 2]? = some c -> G7 a b < G7 b c
def Ltt (l : List (Rat × Rat)) : Prop := l.Pairwise fun a b => b.1 < a.1
theorem B7u : ∀ {l : List (Rat × Rat)}, Dec l -> Ltt l
  | [], _ => .nil
  | _ :: _, h => .cons (fun d hd => h.lt d hd) (B7u h.tail)
theorem Q8 {a b : Rat × Rat} (h : b.1 < a.1) : G7 a b * (a.1 - b.1) = b.2 - a.2 := by unfold G7; exact Rat.div_mul_cancel (by grind)
theorem CvI.push {l : List (Rat × Rat)} {c : Rat × Rat} (H : CvI l) (h : ∀ A a b, l = A ++ [a, b] -> G7 a b < G7 b c) : CvI (l ++ [c]) := by
  intro j x y z h1 h2 h3
  have hl : j + 2 < l.length + 1 := by have := (List.getElem?_eq_some_iff.mp h3).1; simpa using this
  rcases (show j + 2 < l.length \/ j + 2 = l.length by omega) with q | q
  · rw [List.getElem?_append_left (by omega)] at h1 h2 h3
    exact H j x y z h1 h2 h3
  · rw [List.getElem?_append_left (by omega)] at h1 h2
    rw [List.getElem?_append_right (by omega), q, Nat.sub_self] at h3
    cases h3
    refine h (l.take j) x y ?_
    have e1 : l.drop j = [x, y] := by
      refine List.ext_getElem? fun k => ?_
      rw [List.getElem?_drop]
      match k with
      | 0 => simpa using h1
      | 1 => simpa using h2
      | k + 2 => simp; omega
    rw [<- e1, List.take_append_drop]
def CvR (l : List (Rat × Rat)) (R : Rat) : Prop := CvI l /\ ∀ A a b, l = A ++ [a, b] -> G7 a b = R
theorem CvR.one (c : Rat × Rat) : CvR [c] 0 := by
  refine ⟨fun i a b d h1 h2 h3 => ?_, fun A a b e => ?_⟩
  · have := (List.getElem?_eq_some_iff.mp h3).1; simp at this
  · have := congrArg List.length e; simp at this
theorem CvR.step {cs : List (Rat × Rat)} {T P R q v v2 : Rat} (q0 : 0 < q) (v0 : 0 < v) (hv : v2 = (R + v) * q) (h : CvR (cs ++ [(T, P)]) R) : CvR (cs ++ [(T, P)] ++ [(T - q, P + v2)]) (R + v) := by
  have es : G7 (T, P) (T - q, P + v2) = R + v := by
    have e := Q8 (a := (T, P)) (b := (T - q, P + v2)) (by show T - q < T; grind)
    have e' : G7 (T, P) (T - q, P + v2) * q = (R + v) * q := by
      rw [<- hv]
      have : G7 (T, P) (T - q, P + v2) * (T - (T - q)) = P + v2 - P := e
      grind
    have hq : q ≠ 0 := by grind
    rw [<- Rat.mul_div_cancel (b := q) hq (a := G7 (T, P) (T - q, P + v2)), e', Rat.mul_div_cancel hq]
  refine ⟨h.1.push fun A a b e => ?_, fun A a b e => ?_⟩
  · have hb : b = (T, P) := by
      have e' : cs ++ [(T, P)] = (A ++ [a]) ++ [b] := by rw [e]; simp
      have := (List.append_inj' e' rfl).2
      cases this; rfl
    have := h.2 A a b e
    rw [this, hb, es]; grind
  · have e' : cs ++ [(T, P), (T - q, P + v2)] = A ++ [a, b] := by rw [<- e]; simp
    have := (List.append_inj' e' rfl).2
    cases this; exact es
theorem CvI.scale {l : List (Rat × Rat)} {s k : Rat} (hs : 0 < s) (hk : 0 < k) (d : Ltt l) (h : CvI l) : CvI (l.map fun c => (c.1 * s, c.2 * k)) := by
  have hh : ∀ {a b : Rat × Rat}, b.1 < a.1 -> G7 (a.1 * s, a.2 * k) (b.1 * s, b.2 * k) * s = G7 a b * k := by
    intro a b hb
    have m := Rat.mul_pos (show 0 < a.1 - b.1 by grind) hs
    have e1 := Q8 (a := (a.1 * s, a.2 * k)) (b := (b.1 * s, b.2 * k)) (by show b.1 * s < a.1 * s; grind)
    have e2 := Q8 hb
    have e1' : G7 (a.1 * s, a.2 * k) (b.1 * s, b.2 * k) * (a.1 * s - b.1 * s) = b.2 * k - a.2 * k := e1
    generalize G7 (a.1 * s, a.2 * k) (b.1 * s, b.2 * k) = z at *
    have hn : a.1 - b.1 ≠ 0 := by grind
    have e3 : (z * s) * (a.1 - b.1) = (G7 a b * k) * (a.1 - b.1) := by grind
    rw [<- Rat.mul_div_cancel (b := a.1 - b.1) hn (a := z * s), e3, Rat.mul_div_cancel hn]
  intro i a b c h1 h2 h3
  rw [List.getElem?_map] at h1 h2 h3
  cases x1 : l[i]? with
  | none => rw [x1] at h1; cases h1
  | some a' => cases x2 : l[i + 1]? with
    | none => rw [x2] at h2; cases h2
    | some b' => cases x3 : l[i + 2]? with
      | none => rw [x3] at h3; cases h3
      | some c' =>
        rw [x1] at h1; rw [x2] at h2; rw [x3] at h3
        cases h1; cases h2; cases h3
        have lt1 : b'.1 < a'.1 := List.pairwise_iff_getElem.mp d i (i + 1) (List.getElem?_eq_some_iff.mp x1).1 (List.getElem?_eq_some_iff.mp x2).1 (by omega) |> fun z => by
          rw [(List.getElem?_eq_some_iff.mp x1).2, (List.getElem?_eq_some_iff.mp x2).2] at z; exact z
        have lt2 : c'.1 < b'.1 := List.pairwise_iff_getElem.mp d (i + 1) (i + 2) (List.getElem?_eq_some_iff.mp x2).1 (List.getElem?_eq_some_iff.mp x3).1 (by omega) |> fun z => by
          rw [(List.getElem?_eq_some_iff.mp x2).2, (List.getElem?_eq_some_iff.mp x3).2] at z; exact z
        have g := h i a' b' c' x1 x2 x3
        have g1 := hh lt1
        have g2 := hh lt2
        have g3 := Rat.mul_pos (show 0 < G7 b' c' - G7 a' b' by grind) hk
        refine Rat.not_le.mp fun z => ?_
        have g4 := Rat.mul_nonneg (show 0 <= G7 (a'.1 * s, a'.2 * k) (b'.1 * s, b'.2 * k) - G7 (b'.1 * s, b'.2 * k) (c'.1 * s, c'.2 * k) by grind) (Rat.le_of_lt hs)
        grind
theorem C22 {α : Type} {f : α -> PyData} {xs : List α} {n : Nat} (h : n <= xs.length) : cutD (xs.map f) none (some (n : Int)) = (xs.take n).map f := by
  unfold cutD
  rw [HT.sIx_none, show HT.sIx (xs.map f).length (xs.map f).length (some (n : Int)) = min n xs.length by rw [List.length_map]; exact HT.sIx_nat _ _ n, List.map_take]
  rw [Nat.min_eq_left h]; simp
theorem C23 {α : Type} {f : α -> PyData} {xs : List α} {n : Nat} (h : n <= xs.length) : cutD (xs.map f) (some (n : Int)) none = (xs.drop n).map f := by
  unfold cutD
  rw [HT.sIx_none, show HT.sIx (xs.map f).length 0 (some (n : Int)) = min n xs.length by rw [List.length_map]; exact HT.sIx_nat _ _ n, List.map_drop, Nat.min_eq_left h, List.length_map]
  rw [List.take_of_length_le (by simp)]
def RiseO (cs : List (Rat × Rat)) : Prop := ∀ (i : Nat) c d, cs[i]? = some c -> cs[i + 1]? = some d -> d.1 < c.1 /\ c.2 < d.2
theorem RiseO.one (c : Rat × Rat) : RiseO [c] := fun i a b _ h => by rw [List.getElem?_eq_none (by simp)] at h; cases h
theorem RiseO.snoc {cs : List (Rat × Rat)} {c d : Rat × Rat} (h : RiseO (cs ++ [c])) (h1 : d.1 < c.1) (h2 : c.2 < d.2) : RiseO (cs ++ [c] ++ [d]) := fun i a b ha hb => by
  rcases Nat.lt_trichotomy (i + 1) (cs ++ [c]).length with z | z | z
  · rw [List.getElem?_append_left (by omega)] at ha
    rw [List.getElem?_append_left z] at hb
    exact h i a b ha hb
  · rw [List.getElem?_append_left (by omega)] at ha
    rw [z, List.getElem?_append_right (Nat.le_refl _), Nat.sub_self] at hb
    have hi : i = cs.length := by simp at z; exact z
    rw [hi, List.getElem?_append_right (Nat.le_refl _), Nat.sub_self] at ha
    cases ha; cases hb
    exact ⟨h1, h2⟩
  · rw [List.getElem?_eq_none (by simp at z ⊢; omega)] at hb; cases hb
def sumR (qs : List Rat) : Rat := qs.foldr (· + ·) 0
theorem Y4 : ∀ (qs : List Rat) (q : Rat), sumR (qs ++ [q]) = sumR qs + q
  | [], q => by show q + 0 = 0 + q; grind
  | p :: r, q => by
    have h := Y4 r q
    show p + sumR (r ++ [q]) = p + sumR r + q
    rw [h]; grind
theorem V8 : ∀ {qs : List Rat}, (∀ q ∈ qs, 0 < q) -> 0 <= sumR qs
  | [], _ => Rat.le_refl
  | p :: r, h => by
    have h1 := V8 (qs := r) fun q hq => h q (List.mem_cons_of_mem _ hq)
    have h2 := h p List.mem_cons_self
    show 0 <= p + sumR r
    grind
structure OfG (kd : Str) (cs : List (Rat × Rat)) (a b c d : Nat) : Prop where
  ok : OfOk cs a b c d
  nn : ∀ x ∈ cs, 0 <= x.1 /\ 0 <= x.2
  up : RiseO cs
  cv : kd = "straight" -> CvI cs
theorem RiseO.scale {cs : List (Rat × Rat)} {s k : Rat} (hs : 0 < s) (hk : 0 < k) (h : RiseO cs) : RiseO (cs.map fun c => (c.1 * s, c.2 * k)) := fun i a b ha hb => by
  rw [List.getElem?_map] at ha hb
  obtain ⟨c, hc, rfl⟩ := Option.map_eq_some_iff.mp ha
  obtain ⟨d, hd, rfl⟩ := Option.map_eq_some_iff.mp hb
  obtain ⟨h1, h2⟩ := h i c d hc hd
  exact ⟨Rat.mul_lt_mul_of_pos_right h1 hs, Rat.mul_lt_mul_of_pos_right h2 hk⟩
def wD (w : Int × Int × Rat) : PyData := .tuple [.int w.1, .int w.2.1, dq w.2.2]
def hD (h : Str × Int × Rat) : PyData := .tuple [.str h.1, .int h.2.1, dq h.2.2]
def On (B k : Nat) (q : Rat) : Prop := ∃ z : Int, q = Rat.divInt z (B : Int) /\ z.natAbs <= k * B
theorem On.mono {B k l : Nat} {q : Rat} (h : On B k q) (g : k <= l) : On B l q := let ⟨z, e, b⟩ := h; ⟨z, e, Nat.le_trans b (Nat.mul_le_mul_right _ g)⟩
theorem On.add {B k l : Nat} {p q : Rat} (hB : 0 < B) (h : On B k p) (g : On B l q) : On B (k + l) (p + q) := by
  obtain ⟨z, rfl, b⟩ := h
  obtain ⟨y, rfl, c⟩ := g
  have hn : (B : Int) ≠ 0 := by omega
  refine ⟨z + y, ?_, Nat.le_trans (Int.natAbs_add_le _ _) (by rw [Nat.add_mul]; omega)⟩
  rw [Rat.divInt_add_divInt _ _ hn hn, <- Int.add_mul, Rat.divInt_mul_right hn]
theorem On.neg {B k : Nat} {p : Rat} (h : On B k p) : On B k (-p) := by
  obtain ⟨z, rfl, b⟩ := h
  exact ⟨-z, by rw [Rat.neg_divInt], by rw [Int.natAbs_neg]; exact b⟩
theorem On.sub {B k l : Nat} {p q : Rat} (hB : 0 < B) (h : On B k p) (g : On B l q) : On B (k + l) (p - q) := by
  rw [Rat.sub_eq_add_neg]; exact h.add hB g.neg
theorem On.of {B a b : Nat} {q : Rat} (hB : 0 < B) (h : SmR a b q) (d : q.den ∣ B) : On B (2 ^ a) q := by
  obtain ⟨c, rfl⟩ := d
  have hd := q.den_pos
  by_cases hc : c = 0
  · subst hc; rw [Nat.mul_zero] at hB; exact absurd hB (Nat.lt_irrefl _)
  · refine ⟨q.num * c, ?_, ?_⟩
    · rw [Int.natCast_mul, Rat.divInt_mul_right (by omega), Rat.num_divInt_den]
    · rw [Int.natAbs_mul, Int.natAbs_natCast]
      have h1 : q.num.natAbs <= 2 ^ a := Nat.le_of_lt h.1
      exact Nat.mul_le_mul h1 (Nat.le_mul_of_pos_left _ hd)
theorem On.zero {B : Nat} : On B 0 0 := ⟨0, by rw [Rat.zero_divInt], by simp⟩
theorem On.q {B k : Nat} {q : Rat} (hB : 0 < B) (h : On B k q) (g : k * B < 2 ^ 3900) (g2 : B < 2 ^ 3900) : SmQ 3900 q := by
  obtain ⟨z, rfl, b⟩ := h
  have := SmR.low (n := 3900) (d := 3900) (t := z) (b := (B : Int)) (Nat.lt_of_le_of_lt b g) (by unfold Sm; rw [Int.natAbs_natCast]; exact g2) (by omega)
  exact ⟨this.1, this.2⟩
theorem On.up {B C k : Nat} {q : Rat} (hC : 0 < C) (h : On B k q) : On (B * C) k q := by
  obtain ⟨z, rfl, b⟩ := h
  refine ⟨z * C, by rw [Int.natCast_mul, Rat.divInt_mul_right (by omega)], ?_⟩
  rw [Int.natAbs_mul, Int.natAbs_natCast, <- Nat.mul_assoc]
  exact Nat.mul_le_mul_right _ b
def bot (qs : List Rat) : Nat := qs.foldr (fun q b => q.den * b) 1
theorem B7k : ∀ qs : List Rat, 0 < bot qs
  | [] => by decide
  | q :: r => Nat.mul_pos q.den_pos (B7k r)
theorem B7l : ∀ {qs : List Rat} {q : Rat}, q ∈ qs -> q.den ∣ bot qs
  | p :: r, q, h => by
    rcases List.mem_cons.mp h with rfl | h
    · exact Nat.dvd_mul_right _ _
    · exact Nat.dvd_trans (B7l h) (Nat.dvd_mul_left _ _)
theorem C0t {a b : Nat} : ∀ {qs : List Rat}, (∀ q ∈ qs, SmR a b q) -> bot qs <= 2 ^ (b * qs.length)
  | [], _ => by simp [bot]
  | q :: r, h => by
    have h1 := C0t (qs := r) fun x hx => h x (List.mem_cons_of_mem _ hx)
    have h2 : q.den < 2 ^ b := by have := (h q List.mem_cons_self).2; unfold Sm at this; rwa [Int.natAbs_natCast] at this
    show q.den * bot r <= _
    rw [List.length_cons, Nat.mul_add, Nat.mul_one, Nat.add_comm, Nat.pow_add]
    exact Nat.mul_le_mul (Nat.le_of_lt h2) h1
theorem C20 {a b c : Nat} (h : a ∣ b) : a ∣ b * c := Nat.dvd_trans h (Nat.dvd_mul_right _ _)
theorem C16 {a b c : Nat} (h : a ∣ c) : a ∣ b * c := Nat.dvd_trans h (Nat.dvd_mul_left _ _)
theorem B15 {a b : Str} : PyData.eqv (.str a) (.str b) = decide (a = b) := by
  rw [Bool.eq_iff_iff, decide_eq_true_eq]
  simp [PyData.eqv]
def LL : Nat := 591133442051411133755680800
theorem E6 : 0 < LL := by decide
theorem B9z {d : Nat} (h0 : 0 < d) (h : d < 64) : d ∣ LL := by
  have k : ∀ d : Fin 64, d.val = 0 \/ LL % d.val = 0 := by decide +kernel
  rcases k ⟨d, h⟩ with z | z
  · exact absurd z (Nat.ne_of_gt h0)
  · exact Nat.dvd_of_mod_eq_zero z
theorem M0 {q : Rat} (h : SmR 41 6 q) : On LL (2 ^ 41) q := by
  refine On.of E6 h (B9z q.den_pos ?_)
  have := h.2; unfold Sm at this; rw [Int.natAbs_natCast] at this; exact this
theorem On.mul {B C k l : Nat} {p q : Rat} (h : On B k p) (g : On C l q) : On (B * C) (k * l) (p * q) := by
  obtain ⟨z, rfl, b⟩ := h
  obtain ⟨y, rfl, c⟩ := g
  refine ⟨z * y, by rw [Rat.divInt_mul_divInt, Int.natCast_mul], ?_⟩
  rw [Int.natAbs_mul]
  have := Nat.mul_le_mul b c
  rw [Nat.mul_mul_mul_comm] at this
  exact this
theorem B35 {B k : Nat} {n : Int} (hB : 0 < B) (h : n.natAbs <= k) : On B k (n : Rat) := by
  refine ⟨n * (B : Int), ?_, by rw [Int.natAbs_mul, Int.natAbs_natCast]; exact Nat.mul_le_mul_right _ h⟩
  have := Rat.divInt_mul_right (n := n) (d := 1) (a := (B : Int)) (by omega)
  rw [Int.one_mul] at this
  rw [this]
  have e := Rat.num_divInt_den (n : Rat)
  rw [Rat.num_intCast, Rat.den_intCast] at e
  exact e.symm
theorem onQ {B k : Nat} {q : Rat} (h : On B k q) (hB : 0 < B) (hb : B <= 2 ^ 1000) (g : k <= 2 ^ 1000) : SmQ 3900 q := by
  refine h.q hB (Nat.lt_of_le_of_lt (Nat.mul_le_mul g hb) ?_) (Nat.lt_of_le_of_lt hb ?_)
  · rw [<- Nat.pow_add]; exact Nat.pow_lt_pow_right (by decide) (by decide)
  · exact Nat.pow_lt_pow_right (by decide) (by decide)
theorem C2a : LL <= 2 ^ 1000 := Nat.le_trans (Nat.le_of_ble_eq_true rfl : LL <= 2 ^ 100) (Nat.pow_le_pow_right (by decide) (by decide))
theorem onL {a : Nat} {q : Rat} (h : On LL (2 ^ a) q) (ha : a <= 1000) : SmQ 3900 q := onQ h E6 C2a (Nat.pow_le_pow_right (by decide) ha)
theorem On.p2 {B a b : Nat} {q : Rat} (h : On B (2 ^ a) q) (g : a <= b) : On B (2 ^ b) q := h.mono (Nat.pow_le_pow_right (by decide) g)
theorem On.add2 {B a b : Nat} {p q : Rat} (hB : 0 < B) (h : On B (2 ^ a) p) (g : On B (2 ^ a) q) (hb : a + 1 <= b) : On B (2 ^ b) (p + q) := by
  refine (h.add hB g).mono (Nat.le_trans ?_ (Nat.pow_le_pow_right (by decide) hb))
  rw [Nat.pow_succ]; omega
theorem On.sub2 {B a b : Nat} {p q : Rat} (hB : 0 < B) (h : On B (2 ^ a) p) (g : On B (2 ^ a) q) (hb : a + 1 <= b) : On B (2 ^ b) (p - q) := by
  refine (h.sub hB g).mono (Nat.le_trans ?_ (Nat.pow_le_pow_right (by decide) hb))
  rw [Nat.pow_succ]; omega
def OnP (l : List (Rat × Rat)) : Prop := ∀ (i : Nat) a b, l[i]? = some a -> l[i + 1]? = some b -> On LL (2 ^ 45) (G7 a b)
theorem OnP.one (c : Rat × Rat) : OnP [c] := fun i a b _ h => by rw [List.getElem?_eq_none (by simp)] at h; cases h
theorem OnP.snoc {l : List (Rat × Rat)} {c d : Rat × Rat} (h : OnP (l ++ [c])) (h1 : On LL (2 ^ 45) (G7 c d)) : OnP (l ++ [c] ++ [d]) := fun i a b ha hb => by
  rcases Nat.lt_trichotomy (i + 1) (l ++ [c]).length with z | z | z
  · rw [List.getElem?_append_left (by omega)] at ha
    rw [List.getElem?_append_left z] at hb
    exact h i a b ha hb
  · rw [List.getElem?_append_left (by omega)] at ha
    rw [z, List.getElem?_append_right (Nat.le_refl _), Nat.sub_self] at hb
    have hi : i = l.length := by simp at z; exact z
    rw [hi, List.getElem?_append_right (Nat.le_refl _), Nat.sub_self] at ha
    cases ha; cases hb
    exact h1
  · rw [List.getElem?_eq_none (by simp at z ⊢; omega)] at hb; cases hb
def OnC (cs : List (Rat × Rat)) : Prop := ∀ c ∈ cs, On LL (2 ^ 45) c.1 /\ On (LL * LL) (2 ^ 90) c.2
def WOk (n : Int) (ws : List (Int × Int × Rat)) : Prop := ∀ w ∈ ws, (0 <= w.1 /\ w.1 < n) /\ (0 <= w.2.1 /\ w.2.1 < n) /\ On LL (2 ^ 55) w.2.2
theorem WOk.snoc {n : Int} {ws : List (Int × Int × Rat)} {w : Int × Int × Rat} (h : WOk n ws) (g : (0 <= w.1 /\ w.1 < n) /\ (0 <= w.2.1 /\ w.2.1 < n) /\ On LL (2 ^ 55) w.2.2) : WOk n (ws ++ [w]) := fun x hx => by
  rcases List.mem_append.mp hx with z | z
  · exact h x z
  · rw [List.mem_singleton.mp z]; exact g
theorem B32 {n : Int} {os : List Int} (h : ∀ o ∈ os, 0 <= o /\ o < n) {j : Nat} (hj : j < os.length) : ∃ o, (0 <= o /\ o < n) /\ L2.atI (os.map PyData.int) (j : Int) = some (.int o) :=
  ⟨os[j], h _ (List.getElem_mem hj), F5 (by rw [List.getElem?_map, List.getElem?_eq_getElem hj]; rfl)⟩
def Hk (k : Str) : Prop := k = "from" \/ k = "till" \/ k = "by"
def HOk (n : Int) (hs : List (Str × Int × Rat)) : Prop := ∀ h ∈ hs, Hk h.1 /\ (0 <= h.2.1 /\ h.2.1 < n) /\ On LL (2 ^ 55) h.2.2
theorem HOk.snoc {n : Int} {hs : List (Str × Int × Rat)} {h : Str × Int × Rat} (k : HOk n hs) (g : Hk h.1 /\ (0 <= h.2.1 /\ h.2.1 < n) /\ On LL (2 ^ 55) h.2.2) : HOk n (hs ++ [h]) := fun x hx => by
  rcases List.mem_append.mp hx with z | z
  · exact k x z
  · rw [List.mem_singleton.mp z]; exact g
theorem C11 {g : Int} (g0 : 0 <= g) (g1 : g < 4) : ∃ kd : Str, Hk kd /\ L2.atI [PyData.str "from", .str "from", .str "till", .str "by"] g = some (.str kd) := by
  have hg : g = 0 \/ g = 1 \/ g = 2 \/ g = 3 := by omega
  rcases hg with rfl | rfl | rfl | rfl
  · exact ⟨_, .inl rfl, rfl⟩
  · exact ⟨_, .inl rfl, rfl⟩
  · exact ⟨_, .inr (.inl rfl), rfl⟩
  · exact ⟨_, .inr (.inr rfl), rfl⟩
theorem Hk.lay {kd : Str} (h : Hk kd) : (PyData.str kd).canLay0 = true := by rcases h with rfl | rfl | rfl <;> decide +kernel
theorem B92 : (PyData.str "from").canLay0 = true := by decide +kernel
theorem B79 {c : Nat} (h : c < 128) : (sgn c).canLay0 = true := by
  show PyData.strOk ⟨#[c]⟩ = true
  unfold PyData.strOk
  simp
  omega
theorem B8a : ∀ cs : List Nat, (∀ c ∈ cs, c < 128) -> PyData.canLayAll0 (cs.map sgn) = true
  | [], _ => rfl
  | c :: r, h => by
    show ((sgn c).canLay0 && PyData.canLayAll0 (r.map sgn)) = true
    rw [B79 (h c (List.mem_cons_self ..)), B8a r fun z hz => h z (List.mem_cons_of_mem _ hz)]; rfl
theorem B0w : ∀ cs : List Nat, PyData.depthAll (cs.map sgn) <= 1
  | [] => by decide
  | c :: r => by
    show max (sgn c).depth (PyData.depthAll (r.map sgn)) <= 1
    have := B0w r
    have : (sgn c).depth = 0 := rfl
    omega
theorem getS {z : Str} {n : Int} (hl : z.length <= 1000) (all : z.cps.toList.all (fun c => decide (c < 128)) = true) (h0 : 0 <= n) (h1 : n < z.length) {Q : SV -> Prop} (q : ∀ c, c < 128 -> Q (.d (sgn c))) : B6u z n Q := by
  obtain ⟨m, rfl⟩ := Int.eq_ofNat_of_zero_le h0
  have hm : m < z.cps.toList.length := by rw [Array.length_toList]; exact Int.ofNat_lt.mp h1
  refine ⟨z.cps.toList[m], F5 (List.getElem?_eq_getElem hm), q _ ?_⟩
  have := List.all_eq_true.mp all _ (List.getElem_mem hm)
  simpa using this
def ltr : Str := Str.ofString "abcdefghijklmnopqrstuvwxyz"
theorem A1o : ltr.length = 26 := by decide +kernel
theorem B68 : ltr.cps.toList.all (fun c => decide (c < 128)) = true := by decide +kernel
theorem A5g : ∀ cs : List Nat, A1f (cs.map sgn) = some (cs.map fun c => (⟨#[c]⟩ : Str))
  | [] => rfl
  | c :: r => by
    show (A1f (r.map sgn)).map ((⟨#[c]⟩ : Str) :: ·) = _
    rw [A5g r]; rfl
theorem B2t : ∀ cs : List Nat, ((cs.map fun c => (⟨#[c]⟩ : Str)).map fun z => z.length + (Str.ofString "").length).sum = cs.length
  | [] => rfl
  | c :: r => by
    rw [List.map_cons, List.map_cons, List.sum_cons, B2t r, List.length_cons]
    have : (⟨#[c]⟩ : Str).length + (Str.ofString "").length = 1 := by
      rw [show (Str.ofString "").length = 0 by decide +kernel]; rfl
    omega
theorem A5h : ∀ (cs : List Nat) (a : Array Nat), (List.foldl (fun acc (p : Str) => acc ++ (Str.ofString "").cps ++ p.cps) a (cs.map fun c => (⟨#[c]⟩ : Str))).toList = a.toList ++ cs
  | [], a => by simp
  | c :: r, a => by
    rw [List.map_cons, List.foldl_cons, A5h r, show (Str.ofString "").cps = #[] by decide +kernel]; simp
theorem B5r (cs : List Nat) : ((Str.ofString "").join (cs.map fun c => (⟨#[c]⟩ : Str))).cps.toList = cs := by
  cases cs with
  | nil => rfl
  | cons c r => rw [<- StrLaws.glued_eq_join]; exact A5h r #[c]
def wordsZ : List Str := ["from", "till", "by", "work", "wait", "hold", "none", "start", "end", "steps"]
def A1w : List PyData := wordsZ.map PyData.str
def Lt26 (x : PyData) : Prop := ∃ b : Int, x = .int b /\ 0 <= b /\ b < 26
theorem A22 (m : Int) : Lt26 (.int (m % 26)) := ⟨_, rfl, Int.emod_nonneg m (by decide), Int.emod_lt_of_pos m (by decide)⟩
theorem B1w {ys : List PyData} {j : Nat} {m : Int} (h : ∀ x ∈ ys, Lt26 x) : ∀ x ∈ ys.set j (.int (m % 26)), Lt26 x := fun x hx => by
  rcases List.mem_or_eq_of_mem_set hx with z | z
  · exact h x z
  · rw [z]; exact A22 m
theorem A40 : ∀ z ∈ wordsZ, (PyData.str z).canLay0 = true := by decide +kernel
theorem B5a {m : Int} (h0 : 0 <= m) (h1 : m < 10) : ∃ z : Str, L2.atI A1w m = some (.str z) /\ (PyData.str z).canLay0 = true := by
  obtain ⟨i, rfl⟩ := Int.eq_ofNat_of_zero_le h0
  have hl : wordsZ.length = 10 := rfl
  have hi : i < wordsZ.length := by omega
  exact ⟨wordsZ[i], F5 (by unfold A1w; rw [List.getElem?_map, List.getElem?_eq_getElem hi]; rfl), A40 _ (List.getElem_mem hi)⟩
theorem B10 {cs : List Nat} (h : ∀ c ∈ cs, c < 128) : (PyData.str ((Str.ofString "").join (cs.map fun c => (⟨#[c]⟩ : Str)))).canLay0 = true := by
  show PyData.strOk _ = true
  unfold PyData.strOk
  rw [<- Array.all_toList, B5r, List.all_eq_true]
  intro c hc
  have := h c hc
  exact decide_eq_true (by omega)
abbrev Wk := Str × Str × List (Rat × Rat)
def kD (x : Wk) : PyData := .tuple [.str x.1, offD x.2.1 x.2.2]
theorem C26 {xs : List Wk} {o : Int} (h0 : 0 <= o) (h1 : o < (xs.length : Int)) : ∃ x, x ∈ xs /\ L2.atI (xs.map kD) o = some (kD x) := by
  obtain ⟨i, rfl⟩ := Int.eq_ofNat_of_zero_le h0
  have hi : i < xs.length := by omega
  exact ⟨xs[i], List.getElem_mem hi, F5 (by rw [List.getElem?_map, List.getElem?_eq_getElem hi]; rfl)⟩
def wat (xs : List Wk) (o : Int) : Wk := xs.getD o.toNat (Str.ofString "", Str.ofString "", [])
theorem A42 {xs : List Wk} {o : Int} (h0 : 0 <= o) (h1 : o < (xs.length : Int)) : L2.atI (xs.map kD) o = some (.tuple [.str (wat xs o).1, .tuple [.str (wat xs o).2.1, .list ((wat xs o).2.2.map dcn)]]) := by
  obtain ⟨i, rfl⟩ := Int.eq_ofNat_of_zero_le h0
  have hi : i < xs.length := by omega
  refine F5 ?_
  unfold wat
  rw [List.getElem?_map, Int.toNat_natCast, List.getD_eq_getElem?_getD, List.getElem?_eq_getElem hi]; rfl
theorem B5b {xs : List Wk} {o : Int} (h0 : 0 <= o) (h1 : o < (xs.length : Int)) : wat xs o ∈ xs := by
  unfold wat
  rw [List.getD_eq_getElem?_getD, List.getElem?_eq_getElem (by omega : o.toNat < xs.length)]
  exact List.getElem_mem _
theorem A41 {xs : List Wk} {i : Nat} {x : Wk} (h : xs[i]? = some x) : wat xs (i : Int) = x := by
  unfold wat
  rw [Int.toNat_natCast, List.getD_eq_getElem?_getD, h]; rfl
structure GrOk (xs : List Wk) (g : List Int) : Prop where
  l2 : 2 <= g.length
  l9 : g.length <= 10
  ix : ∀ w ∈ g, 0 <= w /\ w < (xs.length : Int)
  st : ∀ w ∈ g, (wat xs w).2.1 = "steps"
  eq : ∀ w ∈ g, ∀ v ∈ g, (wat xs w).2.2.length = (wat xs v).2.2.length
def gD (g : List Int) : PyData := .list (g.map .int)
structure NetG (n : Int) (xs : List Wk) (ws : List (Int × Int × Rat)) (hs : List (Str × Int × Rat)) (gs : List (List Int)) : Prop where
  ln : (xs.length : Int) = n
  n0 : 1 <= n
  n1 : n <= 10
  of : ∀ x ∈ xs, Kd x.2.1 /\ OfG x.2.1 x.2.2 100 54 244 130 /\ OnC x.2.2
  wl : ws.length <= 40
  wk : WOk n ws
  hl : hs.length <= 40
  hk : HOk n hs
  gl : gs.length <= 4
  gk : ∀ g ∈ gs, GrOk xs g
  nm : ∀ x ∈ xs, (PyData.str x.1).canLay0 = true
  os : ∀ x ∈ xs, x.2.1 = "straight" -> OnP x.2.2
def netD (xs : List Wk) (ws : List (Int × Int × Rat)) (hs : List (Str × Int × Rat)) (gs : List PyData) : PyData := .tuple [.list (xs.map kD), .list (ws.map wD), .list (hs.map hD), .list gs]
def fb (qs : List Rat) : Option Nat := qs.findIdx? fun q => decide (q < 0)
theorem C2p {qs : List Rat} {i : Nat} {q : Rat} (h : qs[i]? = some q) (hq : q < 0) (ha : ∀ j r, j < i -> qs[j]? = some r -> ¬ r < 0) : fb qs = some i := by
  obtain ⟨hi, e⟩ := List.getElem?_eq_some_iff.mp h
  unfold fb
  rw [List.findIdx?_eq_some_iff_getElem]
  refine ⟨hi, by rw [e]; simpa using hq, fun j hj => ?_⟩
  have := ha j _ hj (List.getElem?_eq_getElem (by omega))
  simpa using this
theorem C14 {qs : List Rat} (ha : ∀ j r, j < qs.length -> qs[j]? = some r -> ¬ r < 0) : fb qs = none := by
  unfold fb
  rw [List.findIdx?_eq_none_iff]
  intro q hq
  obtain ⟨j, hj, e⟩ := List.getElem_of_mem hq
  have := ha j q hj (by rw [List.getElem?_eq_getElem hj, e])
  simpa using this
def fbD (w : Str) : Option Nat -> PyData
  | some i => .tuple [.str w, .int (i : Int)]
  | none => .none
theorem C0s {ps : List (Rat × Rat)} {o : Int} {p : Rat × Rat} (h0 : 0 <= o) (h : ps[o.toNat]? = some p) : L2.atI (ps.map dcn) o = some (dcn p) := by
  obtain ⟨i, rfl⟩ := Int.eq_ofNat_of_zero_le h0
  exact F5 (by rw [List.getElem?_map]; rw [Int.toNat_natCast] at h; rw [h]; rfl)
def sat (ps : List (Rat × Rat)) (o : Int) : Rat × Rat := ps.getD o.toNat (0, 0)
theorem C2e {ps : List (Rat × Rat)} {o : Int} (h0 : 0 <= o) (h1 : o < (ps.length : Int)) : L2.atI (ps.map dcn) o = some (dcn (sat ps o)) :=
  C0s h0 (by unfold sat; rw [List.getD_eq_getElem?_getD, List.getElem?_eq_getElem (by omega : o.toNat < ps.length)]; rfl)
def enD (p : Rat × Rat) : Rat := p.1 + p.2
def wSl (ps : List (Rat × Rat)) (w : Int × Int × Rat) : Rat := (sat ps w.2.1).1 - (enD (sat ps w.1) + w.2.2)
def hSl (ps : List (Rat × Rat)) (h : Str × Int × Rat) : Rat := if h.1 = "from" then (sat ps h.2.1).1 - h.2.2 else if h.1 = "till" then h.2.2 - (sat ps h.2.1).1 else h.2.2 - enD (sat ps h.2.1)
structure PlSm (p : Rat × Rat) : Prop where
  s : SmQ 3900 p.1
  t : SmQ 3900 p.2
  e : SmQ 3900 (enD p)
theorem C2v : PyData.eqv (.str "from") (.str "from") = true := by decide +kernel
theorem C2q : PyData.eqv (.str "till") (.str "from") = false := by decide +kernel
theorem C2y : PyData.eqv (.str "by") (.str "from") = false := by decide +kernel
theorem C2s : PyData.eqv (.str "till") (.str "till") = true := by decide +kernel
theorem C2x : PyData.eqv (.str "by") (.str "till") = false := by decide +kernel
theorem C2l : (PyData.str "till").canLay0 = true := by decide +kernel
theorem C27 : (Str.ofString "till") ≠ Str.ofString "from" := by decide +kernel
theorem C29 : (Str.ofString "by") ≠ Str.ofString "from" := by decide +kernel
theorem C28 : (Str.ofString "by") ≠ Str.ofString "till" := by decide +kernel
structure Off (kd : Str) (cs : List (Rat × Rat)) (t : Rat) : Prop where
  st : kd = "steps" -> ∃ c ∈ cs, c.1 = t
  sr : kd = "straight" -> ∃ c0 cl, cs[0]? = some c0 /\ cs[cs.length - 1]? = some cl /\ ¬ t < cl.1 /\ ¬ c0.1 < t
theorem A8i : ∀ cs : List (Rat × Rat), PyData.canLayAll0 (cs.map fun c => dq c.1) = true
  | [] => rfl
  | c :: r => by
    show ((dq c.1).canLay0 && PyData.canLayAll0 (r.map fun c => dq c.1)) = true
    rw [A8i r]; rfl
theorem A1g {ps : List (Rat × Rat)} {o : Int} (h0 : 0 <= o) (h1 : o < (ps.length : Int)) : sat ps o ∈ ps := by
  unfold sat
  rw [List.getD_eq_getElem?_getD, List.getElem?_eq_getElem (by omega : o.toNat < ps.length)]
  exact List.getElem_mem _
theorem M9 {kd : Str} {cs : List (Rat × Rat)} {t : Rat} {i j : Nat} {c d : Rat × Rat} (hd : Dec cs) (hs : kd ≠ "steps") (h1 : 1 <= cs.length) (ei : cs[i]? = some c) (ej : cs[j]? = some d) (h2 : t <= c.1) (h3 : d.1 <= t) : Off kd cs t := by
  refine ⟨fun z => absurd z hs, fun _ => ?_⟩
  have e0 : cs[0]? = some cs[0] := List.getElem?_eq_getElem (by omega)
  have el : cs[cs.length - 1]? = some cs[cs.length - 1] := List.getElem?_eq_getElem (by omega)
  have hi := (List.getElem?_eq_some_iff.mp ei).1
  have hj := (List.getElem?_eq_some_iff.mp ej).1
  refine ⟨_, _, e0, el, Rat.not_lt.mpr ?_, Rat.not_lt.mpr ?_⟩
  · by_cases z : j = cs.length - 1
    · subst z; rw [ej] at el; cases el; exact h3
    · exact Rat.le_trans (Rat.le_of_lt (hd.get ej el (by omega))) h3
  · by_cases z : i = 0
    · subst z; rw [ei] at e0; cases e0; exact h2
    · exact Rat.le_trans h2 (Rat.le_of_lt (hd.get e0 ei (by omega)))
theorem U5 {kd : Str} {cs : List (Rat × Rat)} {i : Nat} {c : Rat × Rat} (hk : Kd kd) (hd : Dec cs) (h1 : 1 <= cs.length) (ei : cs[i]? = some c) : Off kd cs c.1 := by
  by_cases z : kd = "steps"
  · exact ⟨fun _ => ⟨c, List.mem_of_getElem? ei, rfl⟩, fun q => absurd (z.symm.trans q) (by decide +kernel)⟩
  · exact M9 hd z h1 ei ei Rat.le_refl Rat.le_refl
theorem X2 : ∀ ls : List Int, PyData.canLayAll0 (ls.map PyData.int) = true
  | [] => rfl
  | n :: r => by
    show ((PyData.int n).canLay0 && PyData.canLayAll0 (r.map PyData.int)) = true
    rw [X2 r]; rfl
theorem A3r : ∀ ls : List Int, PyData.depthAll (ls.map PyData.int) <= 1
  | [] => by decide
  | n :: r => by
    show max (PyData.int n).depth (PyData.depthAll (r.map PyData.int)) <= 1
    have := A3r r
    have : (PyData.int n).depth = 0 := rfl
    omega
theorem A9z (ls : List Int) : (PyData.list (ls.map PyData.int)).depth <= 60 := by
  show PyData.depthAll (ls.map PyData.int) + 1 <= 60
  have := A3r ls
  omega
theorem B16 (ls : List Int) : (PyData.list (ls.map PyData.int)).eqv (.list []) = ls.isEmpty := by
  cases ls <;> rfl
theorem A8d (ls : List Int) (k : Nat) : (ls.map PyData.int).eraseIdx k = (ls.eraseIdx k).map PyData.int := by
  induction ls generalizing k with
  | nil => rfl
  | cons a r ih =>
    cases k with
    | zero => rfl
    | succ k => show PyData.int a :: (r.map PyData.int).eraseIdx k = _; rw [ih]; rfl
theorem A9p (ls : List Int) {k : Nat} (h : k < ls.length) : (ls.eraseIdx k).length + 1 = ls.length := by
  rw [List.length_eraseIdx, if_pos h]; omega
theorem B2q {x : Int} (h0 : 0 <= x) (h : x <= 12) : 0 <= Rat.divInt x 12 /\ Rat.divInt x 12 <= 1 := by
  have e : Rat.divInt 1 1 - Rat.divInt x 12 = Rat.divInt (1 * 12 - x * 1) (1 * 12) := Rat.divInt_sub_divInt _ _ (by decide) (by decide)
  have h1 : 0 <= Rat.divInt (1 * 12 - x * 1) (1 * 12) := N9 (by omega) (by decide)
  have h2 : Rat.divInt 1 1 = 1 := by decide +kernel
  rw [<- e, h2] at h1
  exact ⟨N9 h0 (by decide), by grind⟩
def fstC (cs : List (Rat × Rat)) : Rat × Rat := (cs[0]?).getD (0, 0)
def lstC (cs : List (Rat × Rat)) : Rat × Rat := (cs[cs.length - 1]?).getD (0, 0)
def offB (kd : Str) (cs : List (Rat × Rat)) (t : Rat) : Bool := if kd = "steps" then cs.any fun c => decide (c.1 = t) else !decide (t < (lstC cs).1) && !decide ((fstC cs).1 < t)
theorem A3m {cs : List (Rat × Rat)} (h : 1 <= cs.length) : cs[0]? = some (fstC cs) := by
  unfold fstC; rw [List.getElem?_eq_getElem (by omega : 0 < cs.length)]; rfl
theorem A8e {cs : List (Rat × Rat)} (h : 1 <= cs.length) : cs[cs.length - 1]? = some (lstC cs) := by
  unfold lstC; rw [List.getElem?_eq_getElem (by omega : cs.length - 1 < cs.length)]; rfl
theorem B7s (cs : List (Rat × Rat)) (t : Rat) : ((cs.map fun c => dq c.1).any fun z => z.eqv (dq t)) = cs.any fun c => decide (c.1 = t) := by
  rw [List.any_map]
  congr 1
  funext c
  exact A3o
theorem C1z (cs : List (Rat × Rat)) (t : Rat) : (cs.map fun c => dq c.1).findIdx? (fun z => z.eqv (dq t)) = cs.findIdx? fun c => decide (c.1 = t) := by
  rw [List.findIdx?_map]
  congr 1
  funext c
  exact A3o
def idxB (cs : List (Rat × Rat)) (t : Rat) : Nat := (cs.findIdx? fun c => decide (c.1 = t)).getD 0
theorem C10 {cs : List (Rat × Rat)} {t : Rat} (h : (cs.any fun c => decide (c.1 = t)) = true) : (cs.findIdx? fun c => decide (c.1 = t)) = some (idxB cs t) := by
  unfold idxB
  cases z : cs.findIdx? fun c => decide (c.1 = t) with
  | some i => rfl
  | none =>
    rw [List.findIdx?_eq_none_iff] at z
    obtain ⟨c, hc, e⟩ := List.any_eq_true.mp h
    rw [z c hc] at e; cases e
def nbr (xs : List Wk) (ps : List (Rat × Rat)) (w : Int) : Nat := idxB (wat xs w).2.2 (sat ps w).2
def oneC (xs : List Wk) (ps : List (Rat × Rat)) (g : List Int) : Bool := g.all fun w => decide (nbr xs ps w = nbr xs ps (g.headD 0))
theorem C15 (a b : Nat) : (PyData.int (a : Int)).eqv (.int (b : Int)) = decide (a = b) := by
  have e : (PyData.int (a : Int)).eqv (.int (b : Int)) = decide ((a : Int) = (b : Int)) := rfl
  rw [e, Bool.eq_iff_iff, decide_eq_true_eq, decide_eq_true_eq]; omega
def rat (ss : List Rat) (o : Int) : Rat := ss.getD o.toNat 0
theorem C2f {ss : List Rat} {o : Int} (h0 : 0 <= o) (h1 : o < (ss.length : Int)) : L2.atI (ss.map dq) o = some (dq (rat ss o)) := by
  obtain ⟨i, rfl⟩ := Int.eq_ofNat_of_zero_le h0
  have hi : i < ss.length := by omega
  refine F5 ?_
  unfold rat
  rw [List.getElem?_map, Int.toNat_natCast, List.getD_eq_getElem?_getD, List.getElem?_eq_getElem hi]; rfl
theorem C1b {ss : List Rat} {o : Int} (h0 : 0 <= o) (h1 : o < (ss.length : Int)) : rat ss o ∈ ss := by
  unfold rat
  rw [List.getD_eq_getElem?_getD, List.getElem?_eq_getElem (by omega : o.toNat < ss.length)]
  exact List.getElem_mem _
theorem B48 : ∀ (ss ts : List Rat), zipD (ss.map dq) (ts.map dq) = (ss.zip ts).map dcn
  | [], _ => by simp [zipD]
  | _ :: _, [] => by simp [zipD]
  | s :: ss, t :: ts => by
    have := B48 ss ts
    unfold zipD at this ⊢
    rw [List.map_cons, List.map_cons, List.zipWith_cons_cons, List.zip_cons_cons, List.map_cons, this]; rfl
theorem A3d {o : Int} {n : Nat} (h0 : 0 <= o) (h1 : o < (n : Int)) : ixN n o = some o.toNat := by
  obtain ⟨i, rfl⟩ := Int.eq_ofNat_of_zero_le h0
  have hi : i < n := by omega
  unfold ixN
  simp
  omega
theorem C1r {B k m : Nat} {p q : Rat} (hB : 0 < B) (h : On B (m * k) p) (g : On B k q) : On B ((m + 1) * k) (p + q) := (h.add hB g).mono (by rw [Nat.add_mul, Nat.one_mul]; exact Nat.le_refl _)
theorem C0l {α : Type} {p : α -> Bool} {xs : List α} {i : Nat} {x : α} (h : xs[i]? = some x) (hp : p x = true) (ha : ∀ j y, j < i -> xs[j]? = some y -> p y = false) : xs.findIdx? p = some i := by
  obtain ⟨hi, e⟩ := List.getElem?_eq_some_iff.mp h
  rw [List.findIdx?_eq_some_iff_getElem]
  refine ⟨hi, by rw [e]; exact hp, fun j hj => ?_⟩
  rw [ha j _ hj (List.getElem?_eq_getElem (by omega))]; decide
theorem B7g {α : Type} {p : α -> Bool} {xs : List α} (ha : ∀ j y, j < xs.length -> xs[j]? = some y -> p y = false) : xs.findIdx? p = none := by
  rw [List.findIdx?_eq_none_iff]
  intro x hx
  obtain ⟨j, hj, e⟩ := List.getElem_of_mem hx
  exact ha j x hj (by rw [List.getElem?_eq_getElem hj, e])
theorem B13 {α : Type} {p q : α -> Bool} : ∀ {xs : List α}, (∀ x ∈ xs, p x = q x) -> xs.findIdx? p = xs.findIdx? q
  | [], _ => rfl
  | x :: r, h => by
    rw [List.findIdx?_cons, List.findIdx?_cons, h x List.mem_cons_self, B13 fun y hy => h y (List.mem_cons_of_mem _ hy)]
theorem C0n {α : Type} (f : α -> Rat) (xs : List α) : fb (xs.map f) = xs.findIdx? fun x => decide (f x < 0) := by
  unfold fb; rw [List.findIdx?_map]; rfl
theorem C3a {α : Type} {f : α -> Rat} {xs : List α} (h : fb (xs.map f) = none) {x : α} (hx : x ∈ xs) : ¬ f x < 0 := by
  rw [C0n, List.findIdx?_eq_none_iff] at h
  simpa using h x hx
theorem C2u : PyData.eqv (.str "from") (.str "till") = false := by decide +kernel
theorem C2w : PyData.eqv (.str "from") (.str "by") = false := by decide +kernel
theorem C2t : PyData.eqv (.str "till") (.str "by") = false := by decide +kernel
theorem C2z : PyData.eqv (.str "by") (.str "by") = true := by decide +kernel
theorem C2n : (PyData.str "by").canLay0 = true := by decide +kernel
theorem C2i {q : Rat} : q.num < 0 ↔ q < 0 := by
  rw [<- Rat.not_le, <- Rat.num_nonneg]; omega
theorem C2o {a b c : Int} : ([PyData.int a, .int b].any fun z => z.eqv (.int c)) = decide (c = a \/ c = b) := by
  have e : ∀ x y : Int, (PyData.int x).eqv (.int y) = decide (x = y) := fun x y => rfl
  simp only [List.any_cons, List.any_nil, Bool.or_false, e]
  by_cases h1 : a = c <;> by_cases h2 : b = c <;> simp [h1, h2, eq_comm]
def vD : Option Rat -> PyData
  | none => .none
  | some q => dq q
def fiT (xs : List Wk) (ps : List (Rat × Rat)) : Option Nat := (xs.zip ps).findIdx? fun z => !offB z.1.2.1 z.1.2.2 z.2.2
def fiG (xs : List Wk) (ps : List (Rat × Rat)) (gs : List (List Int)) : Option Nat := gs.findIdx? fun g => !oneC xs ps g
def brG (xs : List Wk) (ws : List (Int × Int × Rat)) (hs : List (Str × Int × Rat)) (gs : List (List Int)) (ps : List (Rat × Rat)) (v : Option Rat) : PyData := match fiT xs ps with
  | some i => fbD "time" (some i)
  | none => match fiG xs ps gs with
    | some i => fbD "group" (some i)
    | none => match fb (ps.map (·.1)) with
      | some i => fbD "start" (some i)
      | none => match fb (ws.map (wSl ps)) with
        | some i => fbD "wait" (some i)
        | none => match fb (hs.map (hSl ps)) with
          | some i => fbD "hold" (some i)
          | none => match v with
            | none => .none
            | some v => fbD "whole" (fb (ps.map fun p => v - enD p))
structure BrG (xs : List Wk) (ws : List (Int × Int × Rat)) (hs : List (Str × Int × Rat)) (gs : List (List Int)) (ps : List (Rat × Rat)) (v : Option Rat) : Prop where
  ln : xs.length = ps.length
  l10 : xs.length <= 10
  wl : ws.length <= 50
  hl : hs.length <= 50
  gl : gs.length <= 50
  gk : ∀ g ∈ gs, GrOk xs g
  hx : ∀ x ∈ xs, Kd x.2.1 /\ OfOk x.2.2 100 54 244 130
  hp : ∀ p ∈ ps, PlSm p
  hw : ∀ w ∈ ws, (0 <= w.1 /\ w.1 < (ps.length : Int)) /\ (0 <= w.2.1 /\ w.2.1 < (ps.length : Int)) /\ SmQ 3900 w.2.2 /\ SmQ 3900 (enD (sat ps w.1) + w.2.2) /\ SmQ 3900 (wSl ps w)
  hh : ∀ h ∈ hs, Hk h.1 /\ (0 <= h.2.1 /\ h.2.1 < (ps.length : Int)) /\ SmQ 3900 h.2.2 /\ SmQ 3900 (hSl ps h)
  hv : ∀ q, v = some q -> SmQ 3900 q /\ ∀ p ∈ ps, SmQ 3900 (q - enD p)
theorem A5k {ps : List (Rat × Rat)} {i : Nat} {p : Rat × Rat} (h : ps[i]? = some p) : sat ps (i : Int) = p := by
  unfold sat
  rw [Int.toNat_natCast, List.getD_eq_getElem?_getD, h]; rfl
theorem A9n {xs : List Wk} {ps : List (Rat × Rat)} (hl : xs.length = ps.length) (h : fiT xs ps = none) {w : Int} (h0 : 0 <= w) (h1 : w < (xs.length : Int)) : offB (wat xs w).2.1 (wat xs w).2.2 (sat ps w).2 = true := by
  unfold fiT at h
  rw [List.findIdx?_eq_none_iff] at h
  obtain ⟨i, rfl⟩ := Int.eq_ofNat_of_zero_le h0
  have hi : i < xs.length := by omega
  have ex := List.getElem?_eq_getElem hi
  have ep := List.getElem?_eq_getElem (show i < ps.length by omega)
  have := h (xs[i], ps[i]) (List.mem_iff_getElem?.mpr ⟨i, by rw [List.getElem?_zip_eq_some]; exact ⟨ex, ep⟩⟩)
  rw [A41 ex, A5k ep]
  simpa using this
theorem C13 {xs : List Wk} {ps : List (Rat × Rat)} {g : List Int} (hl : xs.length = ps.length) (h : fiT xs ps = none) (gr : GrOk xs g) : ∀ w ∈ g, ((wat xs w).2.2.any fun c => decide (c.1 = (sat ps w).2)) = true := fun w hw => by
  have := A9n hl h (gr.ix w hw).1 (gr.ix w hw).2
  unfold offB at this
  rwa [gr.st w hw, if_pos rfl] at this
theorem C12 {xs : List Wk} {ps : List (Rat × Rat)} {i : Nat} {x : Wk} {p : Rat × Rat} (hx : xs[i]? = some x) (hp : ps[i]? = some p) (h : offB x.2.1 x.2.2 p.2 = false) (ha : ∀ j x p, j < i -> xs[j]? = some x -> ps[j]? = some p -> offB x.2.1 x.2.2 p.2 = true) : fiT xs ps = some i := by
  refine C0l (x := (x, p)) (by rw [List.getElem?_zip_eq_some]; exact ⟨hx, hp⟩) (by rw [h]; rfl) fun j y hj hy => ?_
  rw [List.getElem?_zip_eq_some] at hy
  rw [ha j _ _ hj hy.1 hy.2]; rfl
theorem B14 {xs : List Wk} {ps : List (Rat × Rat)} (ha : ∀ j x p, j < xs.length -> xs[j]? = some x -> ps[j]? = some p -> offB x.2.1 x.2.2 p.2 = true) : fiT xs ps = none := by
  refine B7g fun j y hj hy => ?_
  rw [List.getElem?_zip_eq_some] at hy
  rw [ha j _ _ (List.getElem?_eq_some_iff.mp hy.1).1 hy.1 hy.2]; rfl
theorem C17 (a b : Nat) : decide ((a : Int) = (b : Int)) = decide (a = b) := by
  rw [Bool.eq_iff_iff, decide_eq_true_eq, decide_eq_true_eq]; omega
theorem B7n {α : Type} (f : α -> Bool) : ∀ xs : List α, blsD (xs.map fun x => .bool (f x)) = some (xs.map f)
  | [] => rfl
  | x :: r => by
    show (blsD (r.map fun x => .bool (f x))).map (f x :: ·) = _
    rw [B7n f r]; rfl
def bndG (xs : List Wk) (ws : List (Int × Int × Rat)) (hs : List (Str × Int × Rat)) (gs : List (List Int)) (ps : List (Rat × Rat)) : Option (Str × Nat) := match fiG xs ps gs with
  | some i => some ("group", i)
  | none => match fb (ps.map (·.1)) with
    | some i => some ("start", i)
    | none => match fb (ws.map (wSl ps)) with
      | some i => some ("wait", i)
      | none => match fb (hs.map (hSl ps)) with
        | some i => some ("hold", i)
        | none => none
def bD : Option (Str × Nat) -> PyData
  | some (w, i) => fbD w (some i)
  | none => .none
theorem C25 {xs : List Wk} {ws : List (Int × Int × Rat)} {hs : List (Str × Int × Rat)} {gs : List (List Int)} {ps : List (Rat × Rat)} {v : Option Rat} (h : fiT xs ps = none) : brG xs ws hs gs ps v = match bndG xs ws hs gs ps with
    | some (w, i) => fbD w (some i)
    | none => match v with
      | none => .none
      | some v => fbD "whole" (fb (ps.map fun p => v - enD p)) := by
  unfold brG bndG
  rw [h]
  cases fiG xs ps gs with
  | some i => rfl
  | none =>
    cases fb (ps.map (·.1)) with
    | some i => rfl
    | none =>
      cases fb (ws.map (wSl ps)) with
      | some i => rfl
      | none => cases fb (hs.map (hSl ps)) <;> rfl
theorem C1q {xs : List Wk} {ps : List (Rat × Rat)} {g : List Int} {a : Int} (h : g.headD 0 = a) : (g.filter fun w => !decide (nbr xs ps w = nbr xs ps a)).isEmpty = oneC xs ps g := by
  unfold oneC
  rw [h, Bool.eq_iff_iff, List.isEmpty_iff, List.filter_eq_nil_iff, List.all_eq_true]
  constructor <;> intro z x hx <;> have := z x hx <;> simpa using this
structure NB (n : Nat) (ws : List (Int × Int × Rat)) (hs : List (Str × Int × Rat)) (ts : List Rat) (B k : Nat) : Prop where
  hB : 0 < B
  hk : 2 ^ 12 * k * B < 2 ^ 3900
  ln : ts.length = n
  n1 : 1 <= n
  n6 : n <= 10
  wl : ws.length <= 40
  hl : hs.length <= 40
  ht : ∀ t ∈ ts, On B k t
  hw : ∀ w ∈ ws, (0 <= w.1 /\ w.1 < (n : Int)) /\ (0 <= w.2.1 /\ w.2.1 < (n : Int)) /\ On B k w.2.2
  hh : ∀ h ∈ hs, Hk h.1 /\ (0 <= h.2.1 /\ h.2.1 < (n : Int)) /\ On B k h.2.2
theorem on_q {B k l : Nat} {q : Rat} (hB : 0 < B) (hk : 2 ^ 12 * k * B < 2 ^ 3900) (k0 : 0 < k) (h : On B (l * k) q) (hl : l <= 2 ^ 12) : SmQ 3900 q := by
  have h1 : l * k * B <= 2 ^ 12 * k * B := Nat.mul_le_mul_right _ (Nat.mul_le_mul_right _ hl)
  refine h.q hB (Nat.lt_of_le_of_lt h1 hk) (Nat.lt_of_le_of_lt ?_ hk)
  exact Nat.le_mul_of_pos_left _ (Nat.mul_pos (by decide) k0)
theorem C2j {n : Int} {xs : List Wk} {ws : List (Int × Int × Rat)} {hs : List (Str × Int × Rat)} {gs : List (List Int)} {ts : List Rat} (ok : NetG n xs ws hs gs) (hl : ts.length = xs.length) (st : ∀ t ∈ ts, On (LL * 12) (2 ^ 49) t) : NB ts.length ws hs ts (LL * 12) (2 ^ 60) := by
  have h1 := ok.ln
  have h2 := ok.n0
  have h3 := ok.n1
  refine ⟨by decide, ?_, rfl, by omega, by omega, ok.wl, ok.hl, fun t ht => (st t ht).p2 (by decide), fun w hw => ?_, fun h hh => ?_⟩
  · exact Nat.lt_of_le_of_lt (Nat.le_of_ble_eq_true rfl : _ <= 2 ^ 200) (Nat.pow_lt_pow_right (by decide) (by decide))
  · obtain ⟨w1, w2, w3⟩ := ok.wk w hw
    exact ⟨⟨w1.1, by omega⟩, ⟨w2.1, by omega⟩, (w3.up (by decide)).p2 (by decide)⟩
  · obtain ⟨w1, w2, w3⟩ := ok.hk h hh
    exact ⟨w1, ⟨w2.1, by omega⟩, (w3.up (by decide)).p2 (by decide)⟩
def PlB (D c : Nat) (ps : List (Rat × Rat)) : Prop := ∀ p ∈ ps, On (LL * D) (c * 2 ^ 60) p.1 /\ On (LL * D) (c * 2 ^ 60) p.2
theorem unQ {D c : Nat} {q : Rat} (h : On (LL * D) (c * 2 ^ 60) q) (hD : 0 < D) (hd : D <= 2 ^ 20) (hc : c <= 2 ^ 12) : SmQ 3900 q :=
  onQ h (Nat.mul_pos E6 hD) (Nat.le_trans (Nat.mul_le_mul (Nat.le_of_ble_eq_true rfl : LL <= 2 ^ 100) hd) (by rw [<- Nat.pow_add]; exact Nat.pow_le_pow_right (by decide) (by decide))) (Nat.le_trans (Nat.mul_le_mul_right _ hc) (by rw [<- Nat.pow_add]; exact Nat.pow_le_pow_right (by decide) (by decide)))
theorem B5e {D a b c : Nat} {p q : Rat} (hD : 0 < D) (h : On (LL * D) (a * 2 ^ 60) p) (g : On (LL * D) (b * 2 ^ 60) q) (hc : a + b <= c) : On (LL * D) (c * 2 ^ 60) (p + q) :=
  (h.add (Nat.mul_pos E6 hD) g).mono (by rw [<- Nat.add_mul]; exact Nat.mul_le_mul_right _ hc)
theorem A43 {D a b c : Nat} {p q : Rat} (hD : 0 < D) (h : On (LL * D) (a * 2 ^ 60) p) (g : On (LL * D) (b * 2 ^ 60) q) (hc : a + b <= c) : On (LL * D) (c * 2 ^ 60) (p - q) :=
  (h.sub (Nat.mul_pos E6 hD) g).mono (by rw [<- Nat.add_mul]; exact Nat.mul_le_mul_right _ hc)
theorem unOf {D a : Nat} {q : Rat} (hD : 0 < D) (h : On LL (2 ^ a) q) (ha : a <= 60) : On (LL * D) (1 * 2 ^ 60) q := by
  rw [Nat.one_mul]; exact (h.up hD).p2 ha
theorem Y2 {D a c : Nat} {q : Rat} (h : On (LL * D) (a * 2 ^ 60) q) (hc : a <= c) : On (LL * D) (c * 2 ^ 60) q := h.mono (Nat.mul_le_mul_right _ hc)
theorem C24 {n : Int} {xs : List Wk} {ws : List (Int × Int × Rat)} {hs : List (Str × Int × Rat)} {gs : List (List Int)} {ps : List (Rat × Rat)} {v : Option Rat} {D c : Nat} (ok : NetG n xs ws hs gs) (hl : ps.length = xs.length) (hD : 0 < D) (hd : D <= 2 ^ 20) (hc : c <= 1000) (pb : PlB D c ps) (hv : ∀ q, v = some q -> On (LL * D) ((2 * c + 2) * 2 ^ 60) q) : BrG xs ws hs gs ps v := by
  have h1 := ok.ln
  have h3 := ok.n1
  have wl := ok.wl
  have hhl := ok.hl
  have gl := ok.gl
  have en : ∀ p ∈ ps, On (LL * D) ((2 * c) * 2 ^ 60) (enD p) := fun p hp => B5e hD (pb p hp).1 (pb p hp).2 (by omega)
  have Q : ∀ {q : Rat} (l : Nat), On (LL * D) (l * 2 ^ 60) q -> l <= 2 ^ 12 -> SmQ 3900 q := fun l o hl => unQ o hD hd hl
  refine ⟨hl.symm, by omega, by omega, by omega, by omega, ok.gk, fun x hx => ⟨(ok.of x hx).1, (ok.of x hx).2.1.ok⟩, fun p hp => ⟨Q c (pb p hp).1 (by omega), Q c (pb p hp).2 (by omega), Q (2 * c) (en p hp) (by omega)⟩, fun w hw => ?_, fun x hx => ?_, fun q e => ⟨Q (2 * c + 2) (hv q e) (by omega), fun p hp => Q (4 * c + 2) (A43 hD (hv q e) (en p hp) (by omega)) (by omega)⟩⟩
  · obtain ⟨w1, w2, w3⟩ := ok.wk w hw
    have w1' : 0 <= w.1 /\ w.1 < (ps.length : Int) := ⟨w1.1, by omega⟩
    have w2' : 0 <= w.2.1 /\ w.2.1 < (ps.length : Int) := ⟨w2.1, by omega⟩
    have m1 := A1g w1'.1 w1'.2
    have m2 := A1g w2'.1 w2'.2
    have o3 := unOf hD w3 (by decide)
    have e3 := B5e (c := 2 * c + 1) hD (en _ m1) o3 (by omega)
    exact ⟨w1', w2', Q 1 o3 (by decide), Q _ e3 (by omega), Q (3 * c + 1) (A43 hD (pb _ m2).1 e3 (by omega)) (by omega)⟩
  · obtain ⟨x1, x2, x3⟩ := ok.hk x hx
    have x2' : 0 <= x.2.1 /\ x.2.1 < (ps.length : Int) := ⟨x2.1, by omega⟩
    have m1 := A1g x2'.1 x2'.2
    have o3 := unOf hD x3 (by decide)
    refine ⟨x1, x2', Q 1 o3 (by decide), ?_⟩
    unfold hSl
    split
    · exact Q (c + 1) (A43 hD (pb _ m1).1 o3 (by omega)) (by omega)
    · split
      · exact Q (c + 1) (A43 hD o3 (pb _ m1).1 (by omega)) (by omega)
      · exact Q (2 * c + 1) (A43 hD o3 (en _ m1) (by omega)) (by omega)
theorem X0 {kd : Str} {cs : List (Rat × Rat)} {t : Rat} (hk : Kd kd) (h1 : 1 <= cs.length) (h : offB kd cs t = true) : Off kd cs t := by
  unfold offB at h
  rcases hk with z | z
  · have z : kd = "straight" := z
    subst z
    rw [if_neg (Ne.symm A0g), Bool.and_eq_true] at h
    refine ⟨fun e => absurd e.symm A0g, fun _ => ⟨_, _, A3m h1, A8e h1, ?_, ?_⟩⟩
    · simpa using h.1
    · simpa using h.2
  · have z : kd = "steps" := z
    subst z
    rw [if_pos rfl] at h
    obtain ⟨c, hc, e⟩ := List.any_eq_true.mp h
    exact ⟨fun _ => ⟨c, hc, of_decide_eq_true e⟩, fun e => absurd e A0g⟩
theorem B34 {B k a b : Nat} {q : Rat} (hB : 0 < B) (h : On B k q) (h1 : k * B < 2 ^ a) (h2 : B < 2 ^ b) : SmR a b q := by
  obtain ⟨z, rfl, g⟩ := h
  exact SmR.low (Nat.lt_of_le_of_lt g h1) (by unfold Sm; rw [Int.natAbs_natCast]; exact h2) (by omega)
def Prs (xs : List Wk) (ps : List (Rat × Rat)) (qs : List Rat) : Prop := qs.length = xs.length /\ ∀ (i : Nat) x p q, xs[i]? = some x -> ps[i]? = some p -> qs[i]? = some q -> Price x.2.2 p.2 q
theorem On_S {B k : Nat} (hB : 0 < B) : ∀ {qs : List Rat}, (∀ q ∈ qs, On B k q) -> On B (qs.length * k) (My.S qs)
  | [], _ => by show On B _ 0; exact On.zero.mono (Nat.zero_le _)
  | q :: r, h => by
    have ih := On_S hB (qs := r) fun x hx => h x (List.mem_cons_of_mem _ hx)
    show On B ((r.length + 1) * k) (q + My.S r)
    exact ((h q List.mem_cons_self).add hB ih).mono (by rw [Nat.add_mul, Nat.one_mul, Nat.add_comm]; exact Nat.le_refl _)
theorem A1c : ∀ {A r : List (Rat × Rat)}, Dec (A ++ r) -> Dec r
  | [], _, h => h
  | _ :: _, _, h => A1c (Dec.tail h)
theorem A58 {cs : List (Rat × Rat)} {t : Rat} {i : Nat} {c d : Rat × Rat} (hd : Dec cs) (ec : cs[i]? = some c) (ed : cs[i + 1]? = some d) (h1 : d.1 < t) (h2 : t < c.1) : Price cs t (P5 c d t) := by
  obtain ⟨A, B, e, fA, hA, hB⟩ := part t hd
  have hi := (List.getElem?_eq_some_iff.mp ec).1
  have hi1 := (List.getElem?_eq_some_iff.mp ed).1
  have nA : A.length = i + 1 := by
    rcases Nat.lt_trichotomy A.length (i + 1) with z | z | z
    · exfalso
      have hBl : A.length < cs.length := by omega
      rcases hB with ⟨rfl, _⟩ | ⟨b, r, rfl, hb, _⟩
      · rw [e] at hBl; simp at hBl
      · have eb : cs[A.length]? = some b := by rw [e]; exact Q9
        have := C04 hd eb ec (by omega)
        grind
    · exact z
    · exfalso
      have hm : d ∈ A := by
        rw [e, List.getElem?_append_left (by omega)] at ed
        exact List.mem_of_getElem? ed
      have := hA d hm
      grind
  rcases hB with ⟨rfl, _⟩ | ⟨b, r, rfl, hb, _⟩
  · rw [e] at hi1; simp at hi1; omega
  · have eb : cs[A.length]? = some b := by rw [e]; exact Q9
    rw [nA, ed] at eb
    cases eb
    obtain ⟨A', l, eA⟩ : ∃ A' l, A = A' ++ [l] := by
      cases q : A with
      | nil => rw [q] at nA; simp at nA
      | cons x y => exact ⟨(x :: y).dropLast, (x :: y).getLast (by simp), (List.dropLast_concat_getLast _).symm⟩
    have nA' : A'.length = i := by rw [eA] at nA; simp at nA; exact nA
    have el : cs[A'.length]? = some l := by rw [e, eA]; exact X3
    rw [nA', ec] at el
    cases el
    exact ⟨A, d, r, e, fA, Rat.le_of_lt h1, .inr ⟨h1, A', c, eA, rfl⟩⟩
theorem B1a {cs : List (Rat × Rat)} {t : Rat} {c : Rat × Rat} (hd : Dec cs) (hc : c ∈ cs) (h : c.1 = t) : Price cs t c.2 := by
  obtain ⟨A, B, e, fA, hA, hB⟩ := part t hd
  rcases hB with ⟨rfl, _⟩ | ⟨b, r, rfl, hb, _⟩
  · rw [e, List.append_nil] at hc
    have := hA c hc; grind
  · have hcB : c ∈ b :: r := by
      rw [e] at hc
      rcases List.mem_append.mp hc with z | z
      · have := hA c z; grind
      · exact z
    have dB := A1c (A := A) (r := b :: r) (e ▸ hd)
    have : c = b := by
      rcases List.mem_cons.mp hcB with z | z
      · exact z
      · have := dB.lt c z; grind
    subst this
    exact ⟨A, c, r, e, fA, hb, .inl ⟨h, rfl⟩⟩
theorem B64 {cs : List (Rat × Rat)} {t : Rat} (hd : Dec cs) (h : Off "straight" cs t) (hn : ∀ c ∈ cs, ¬ c.1 = t) : ∃ (i : Nat) (c d : Rat × Rat), cs[i]? = some c /\ cs[i + 1]? = some d /\ d.1 < t /\ t < c.1 := by
  obtain ⟨c0, cl, e0, el, h1, h2⟩ := h.sr rfl
  obtain ⟨A, B, e, fA, hA, hB⟩ := part t hd
  rcases hB with ⟨rfl, _⟩ | ⟨b, r, rfl, hb, _⟩
  · rw [List.append_nil] at e
    exact absurd (hA cl (by rw [<- e]; exact List.mem_of_getElem? el)) h1
  · have eb : cs[A.length]? = some b := by rw [e]; exact Q9
    have hb2 : b.1 < t := by have := hn b (List.mem_of_getElem? eb); grind
    obtain ⟨A', l, eA⟩ : ∃ A' l, A = A' ++ [l] := by
      cases q : A with
      | nil => rw [e, q] at e0; cases e0; exact absurd hb2 h2
      | cons x y => exact ⟨(x :: y).dropLast, (x :: y).getLast (by simp), (List.dropLast_concat_getLast _).symm⟩
    have el' : cs[A'.length]? = some l := by rw [e, eA]; exact X3
    have nA : A.length = A'.length + 1 := by rw [eA]; simp
    exact ⟨A'.length, l, b, el', by rw [<- nA]; exact eb, hb2, hA l (by rw [eA]; simp)⟩
theorem A2v {kd : Str} {cs : List (Rat × Rat)} {t : Rat} (hk : Kd kd) (h1 : 1 <= cs.length) (h : Off kd cs t) : offB kd cs t = true := by
  unfold offB
  rcases hk with z | z
  · have z : kd = "straight" := z
    subst z
    rw [if_neg (Ne.symm A0g), Bool.and_eq_true]
    obtain ⟨c0, cl, e0, el, q1, q2⟩ := h.sr rfl
    rw [A3m h1] at e0; rw [A8e h1] at el
    cases e0; cases el
    simp
    exact ⟨q1, q2⟩
  · have z : kd = "steps" := z
    subst z
    rw [if_pos rfl]
    obtain ⟨c, hc, e⟩ := h.st rfl
    exact List.any_eq_true.mpr ⟨c, hc, decide_eq_true e⟩
theorem Z9 {kd : Str} {cs : List (Rat × Rat)} {t p : Rat} {D : Nat} (hk : Kd kd) (h1 : 1 <= cs.length) (dc : Dec cs) (hD : 0 < D) (oc : OnC cs) (op : kd = "straight" -> OnP cs) (ot : On (LL * D) (2 ^ 72) t) (of : offB kd cs t = true) (h : Price cs t p) : On (LL * (LL * D)) (2 ^ 120) p := by
  have hLD : 0 < LL * D := Nat.mul_pos E6 hD
  have hB : 0 < LL * (LL * D) := Nat.mul_pos E6 hLD
  have two : ∀ c ∈ cs, On (LL * (LL * D)) (2 ^ 90) c.2 := fun c hc => by rw [<- Nat.mul_assoc]; exact (oc c hc).2.up hD
  obtain ⟨A, b, r, e, f, hb, h⟩ := h
  have eb : cs[A.length]? = some b := by rw [e]; exact Q9
  rcases h with ⟨h1, rfl⟩ | ⟨h1', A', l, eA, rfl⟩
  · exact (two b (List.mem_of_getElem? eb)).p2 (by decide)
  · have el : cs[A'.length]? = some l := by rw [e, eA]; exact X3
    have eb' : cs[A'.length + 1]? = some b := by rw [<- eb, eA]; simp
    have st : kd = "straight" := by
      rcases hk with z | z
      · exact z
      · exfalso
        obtain ⟨c, hc, ec⟩ := (X0 (.inr z) h1 of).st z
        obtain ⟨j, hj⟩ := List.mem_iff_getElem?.mp hc
        rcases Nat.lt_trichotomy j A.length with q | q | q
        · have : c ∈ A := by rw [e, List.getElem?_append_left q] at hj; exact List.mem_of_getElem? hj
          have : c ∈ cs.filter fun c => decide (t < c.1) := by rw [f]; exact this
          have := (List.mem_filter.mp this).2
          simp at this
          grind
        · subst q; rw [eb] at hj; cases hj; grind
        · have := dc.get eb hj q
          grind
    have o1 := op st _ l b el eb'
    have o2 : On (LL * D) (2 ^ 73) (l.1 - t) := (((oc l (List.mem_of_getElem? el)).1.up hD).p2 (b := 72) (by decide)).sub2 hLD ot (by decide)
    have o3 := o1.mul o2
    rw [<- Nat.pow_add] at o3
    exact ((two l (List.mem_of_getElem? el)).p2 (b := 118) (by decide)).add2 hB o3 (by decide)
theorem P8 {α β : Type} {f : α -> PyData} {g : β -> PyData} : ∀ {cs : List α} {ds : List β}, zipD (cs.map f) (ds.map g) = (cs.zip ds).map fun p => .tuple [f p.1, g p.2]
  | [], _ => by simp [zipD]
  | _ :: _, [] => by simp [zipD]
  | c :: cs, d :: ds => by
    show _ :: zipD (cs.map f) (ds.map g) = _ :: _
    rw [P8]; rfl
theorem X9 {α β γ : Type} {f : α -> β -> γ} : ∀ {cs : List α} {ds : List β}, List.zipWith f cs ds = (cs.zip ds).map fun p => f p.1 p.2
  | [], _ => by simp
  | _ :: _, [] => by simp
  | c :: cs, d :: ds => by
    show _ :: List.zipWith f cs ds = _ :: _
    rw [X9]; rfl
theorem hd {a b : PSt} {D : PEnds} {e : PEnv} (h : ∀ R, R = b -> pSeq a R D e) : pSeq a b D e := h b rfl
theorem A5i {a b : PSt} {D : PEnds} {e : PEnv} (P : PEnv -> Prop) (h1 : ∀ R : PSt, (∀ e', P e' -> R D e') -> pSeq a R D e) (h2 : ∀ e', P e' -> b D e') : pSeq a b D e := h1 b h2
theorem B0s : PyData.tuple [.int 1, .int 3] = dq (Rat.divInt 1 3) := by
  unfold dq
  rw [show (Rat.divInt 1 3).num = 1 by decide +kernel, show (Rat.divInt 1 3).den = 3 by decide +kernel]; rfl
theorem C0m {xs : List Wk} {ps : List (Rat × Rat)} {n : Nat} (h : fiT xs ps = some n) : (n < xs.length /\ n < ps.length) /\ (∀ x p, xs[n]? = some x -> ps[n]? = some p -> offB x.2.1 x.2.2 p.2 = false) /\ ∀ (j : Nat) x p, j < n -> xs[j]? = some x -> ps[j]? = some p -> offB x.2.1 x.2.2 p.2 = true := by
  unfold fiT at h
  rw [List.findIdx?_eq_some_iff_getElem] at h
  obtain ⟨hn, h1, h2⟩ := h
  rw [List.length_zip] at hn
  refine ⟨by omega, fun x p ex ep => ?_, fun j x p hj ex ep => ?_⟩
  · have e : (xs.zip ps)[n]? = some (x, p) := by rw [List.getElem?_zip_eq_some]; exact ⟨ex, ep⟩
    rw [(List.getElem?_eq_some_iff.mp e).2] at h1
    simpa using h1
  · have e : (xs.zip ps)[j]? = some (x, p) := by rw [List.getElem?_zip_eq_some]; exact ⟨ex, ep⟩
    have := h2 j hj
    rw [(List.getElem?_eq_some_iff.mp e).2] at this
    simpa using this
theorem C1x {g : Int} (g0 : 0 <= g) (g1 : g < 3) : ∃ kz : List Str, (1 <= kz.length /\ kz.length <= 3 /\ ∀ z ∈ kz, Kd z) /\ L2.atI [PyData.list [.str "straight"], .list [.str "steps"], .list [.str "straight", .str "steps"]] g = some (.list (kz.map .str)) := by
  have hg : g = 0 \/ g = 1 \/ g = 2 := by omega
  rcases hg with rfl | rfl | rfl
  · exact ⟨["straight"], ⟨by decide, by decide, fun z hz => by rw [List.mem_singleton.mp hz]; exact .inl rfl⟩, rfl⟩
  · exact ⟨["steps"], ⟨by decide, by decide, fun z hz => by rw [List.mem_singleton.mp hz]; exact .inr rfl⟩, rfl⟩
  · refine ⟨["straight", "steps"], ⟨by decide, by decide, fun z hz => ?_⟩, rfl⟩
    rcases List.mem_cons.mp hz with rfl | hz
    · exact .inl rfl
    · rw [List.mem_singleton.mp hz]; exact .inr rfl
theorem B1m (g : List Int) (h : g.length < 1000) (n : Nat) : okA (n + 1) (.list (g.map .int)) := ⟨by simpa using h, fun x hx => by
  obtain ⟨c, _, rfl⟩ := List.mem_map.mp hx
  unfold okA; trivial⟩
theorem A4p {n : Nat} {xs : List PyData} (h : xs.length < 1000) (g : ∀ x ∈ xs, okA n x) : okA (n + 1) (.tuple xs) := ⟨h, g⟩
theorem B1l {n : Nat} {xs : List PyData} (h : xs.length < 1000) (g : ∀ x ∈ xs, okA n x) : okA (n + 1) (.list xs) := ⟨h, g⟩
theorem F9 {p : PyData -> Prop} {a : PyData} {b : List PyData} (h : p a) (g : ∀ x ∈ b, p x) : ∀ x ∈ a :: b, p x := fun x hx => by
  rcases List.mem_cons.mp hx with z | z
  · exact z ▸ h
  · exact g x z
theorem V5 {p : PyData -> Prop} : ∀ x ∈ ([] : List PyData), p x := fun _ z => nomatch z
theorem A33 {α : Type} {f : α -> PyData} {xs : List α} {p : PyData -> Prop} (h : ∀ x ∈ xs, p (f x)) : ∀ x ∈ xs.map f, p x := fun x hx => by
  obtain ⟨c, hc, rfl⟩ := List.mem_map.mp hx
  exact h c hc
theorem B62 {n : Int} {xs : List Wk} {ws : List (Int × Int × Rat)} {hs : List (Str × Int × Rat)} {gs : List (List Int)} (ok : NetG n xs ws hs gs) : okA 7 (netD xs ws hs (gs.map gD)) := by
  have h1 := ok.ln
  have h3 := ok.n1
  have wl := ok.wl
  have hl := ok.hl
  have gl := ok.gl
  refine A4p (by show 4 < 1000; decide) (F9 (B1l (by rw [List.length_map]; omega) (A33 fun x hx => ?_)) (F9 (B1l (by rw [List.length_map]; omega) (A33 fun x hx => ?_)) (F9 (B1l (by rw [List.length_map]; omega) (A33 fun x hx => ?_)) (F9 (B1l (by rw [List.length_map]; omega) (A33 fun x hx => ?_)) V5))))
  · have o5 := (ok.of x hx).2.1.ok.le
    exact A4p (by show 2 < 1000; decide) (F9 (ok.nm x hx) (F9 (A4p (by show 2 < 1000; decide) (F9 (ok.of x hx).1.lay (F9 (B36 (by omega) 0) V5))) V5))
  · exact A4p (by show 3 < 1000; decide) (F9 True.intro (F9 True.intro (F9 (A0b _ _) V5)))
  · exact A4p (by show 3 < 1000; decide) (F9 (ok.hk x hx).1.lay (F9 True.intro (F9 (A0b _ _) V5)))
  · have := (ok.gk x hx).l9
    exact B1m x (by omega) _
theorem B2p (a b : Int) (t : Bool) : L2.atI [PyData.int a, .int b] (if t = true then 1 else 0) = some (.int (if t = true then b else a)) := by cases t <;> rfl
theorem B4j : ∀ os : List (Option Rat), PyData.canLayAll0 (os.map vD) = true
  | [] => rfl
  | o :: r => by
    show ((vD o).canLay0 && PyData.canLayAll0 (r.map vD)) = true
    rw [B4j r]
    cases o with
    | none => rfl
    | some q => show ((dq q).canLay0 && true) = true; rw [B43]; rfl
theorem B46 : ∀ os : List (Option Rat), ((os.map vD).any fun z => z.eqv .none) = os.any Option.isNone
  | [] => rfl
  | o :: r => by
    rw [List.map_cons, List.any_cons, List.any_cons, B46 r]
    cases o <;> rfl
theorem A32 : ∀ {os : List (Option Rat)}, os.any Option.isNone = false -> ∃ qs : List Rat, os = qs.map some
  | [], _ => ⟨[], rfl⟩
  | none :: r, h => by simp at h
  | some q :: r, h => by
    obtain ⟨qs, e⟩ := A32 (os := r) (by simpa using h)
    exact ⟨q :: qs, by rw [e]; rfl⟩
theorem B09 {xs : List Wk} {ps : List (Rat × Rat)} {qs qs2 : List Rat} (hl : ps.length = xs.length) (h : Prs xs ps qs) (h2 : Prs xs ps qs2) : qs = qs2 := by
  refine List.ext_getElem? fun i => ?_
  by_cases hi : i < xs.length
  · have ex := List.getElem?_eq_getElem hi
    have ep := List.getElem?_eq_getElem (show i < ps.length by omega)
    have e1 := List.getElem?_eq_getElem (show i < qs.length by rw [h.1]; exact hi)
    have e2 := List.getElem?_eq_getElem (show i < qs2.length by rw [h2.1]; exact hi)
    rw [e1, e2, (h.2 i _ _ _ ex ep e1).uniq (h2.2 i _ _ _ ex ep e2)]
  · rw [List.getElem?_eq_none (by rw [h.1]; omega), List.getElem?_eq_none (by rw [h2.1]; omega)]
def Told (xs : List Wk) (ps : List (Rat × Rat)) (os : List (Option Rat)) : Prop := ∀ (i : Nat) x p o, xs[i]? = some x -> ps[i]? = some p -> os[i]? = some o -> (offB x.2.1 x.2.2 p.2 = true -> ∃ q, o = some q /\ Price x.2.2 p.2 q) /\ (offB x.2.1 x.2.2 p.2 = false -> o = none)
section
variable {P : Program} {w : World} {K : PySem.W.Frag} {mg : Str -> Option Value} {base : Heap} {D : Adr}
theorem J9 (T : Txt K mg D) : FnOk P w K mg base CX0 1 D.a_commonpart D.d_commonpart ["one", "other"] (Pu.spOf K [.dat, .dat] B8r) := by
  refine T.F_commonpart.ok sc_commonpart (Pu.spOf.len rfl) (fun cdv A outer s H vs Q E hr h => ?_)
  refine ⟨_, (QSs.out (A6 (R3 (i := 0) (j := 1) rfl sc_commonpart.nd rfl rfl (by decide) rfl rfl (A0 (B7 A00 (by rfl) T.z_abs (by rfl) (A0 (qpv 0) A3)) (A0 (B7 A00 (by rfl) T.z_abs (by rfl) (A0 (qpv 1) A3)) A3)) rfl)
      (A6 (N5 PassesOwn.never (B9 (R7 (K := K) rfl hr.units) (qpv 1) A4 (C6 _))
        (B1 (R3 (i := 0) (j := 1) rfl sc_commonpart.nd rfl rfl (by decide) rfl rfl (A0 (qpv 1) (A0 (B8 L5 (qpv 0) (qpv 1)) A3)) rfl)))
      (B1 (B6 (qpv 0)))))), ?_⟩
  haveI := T.c2_NOUGHT
  refine Pu.E9 h ?_
  rintro as Qp ⟨a, b, rfl, k⟩
  trivial
  refine ⟨fun m e => ∃ x y : Int, e = [some (.d (.int x)), some (.d (.int y))] /\ 0 <= x /\ 0 <= y /\ m = y.toNat /\ Int.gcd x y = Int.gcd a b, ⟨_, _, _, rfl, by split <;> omega, by split <;> omega, rfl, B7f a b⟩, ?_⟩
  rintro m e ⟨x, y, rfl, hx, hy, rfl, hg⟩
  trivial
  refine ite2 (fun e => ?_) (fun hn => ?_)
  · subst e
    have := A3k x hx
    rw [hg] at this
    rw [<- this]; exact k
  · have h1 := Int.emod_lt_of_pos x (show 0 < y by omega)
    have h2 := Int.emod_nonneg x hn
    exact ⟨by omega, (x % y).toNat, by omega, y, x % y, rfl, hy, h2, rfl, by rw [A9l, hg]⟩
theorem W8 (T : Txt K mg D) : FnOk P w K mg base CX0 2 D.a_plus D.d_plus ["one", "other"] (Pu.spOf K [.dat, .dat] (U1 (·+·))) := by
  refine T.F_plus.ok sc_plus (Pu.spOf.len rfl) (fun cdv A outer s H vs Q E hr h => ?_)
  refine ⟨_, (QSs.out (A6 (B3 (i := 2) sc_plus.nd rfl (Or.inl rfl) (A7 (J9 (K := K) T) hr.mo rfl T.m_commonpart T.F_commonpart.kp (K6 T) .nil B4 (A0 (B2 (A8 (K := K) rfl) (qpv 0) A4 (fun _ _ => rfl)) (A0 (B2 (A8 (K := K) rfl) (qpv 1) A4 (fun _ _ => rfl)) A3))))
      (A6 (R3 (i := 3) (j := 4) rfl sc_plus.nd rfl rfl (by decide) rfl rfl (A0 (B8 G4 (B2 (A8 (K := K) rfl) (qpv 0) A4 (fun _ _ => rfl)) (qpv 2)) (A0 (B8 G4 (B2 (A8 (K := K) rfl) (qpv 1) A4 (fun _ _ => rfl)) (qpv 2)) A3)) rfl)
      (A6 (B3 (i := 5) sc_plus.nd rfl (Or.inl rfl) (B8 F0 (B8 D2 (B2 (A8 (K := K) rfl) (qpv 0) A4 (fun _ _ => rfl)) (qpv 4)) (B8 D2 (B2 (A8 (K := K) rfl) (qpv 1) A4 (fun _ _ => rfl)) (qpv 3))))
      (A6 (B3 (i := 6) sc_plus.nd rfl (Or.inl rfl) (A7 (J9 (K := K) T) hr.mo rfl T.m_commonpart T.F_commonpart.kp (K6 T) .nil B4 (A0 (qpv 5) (A0 (qpv 2) A3))))
      (B1 (B6 (C5 (A0 (B8 G4 (qpv 5) (qpv 6)) (A0 (B8 D2 (qpv 3) (B8 G4 (B2 (A8 (K := K) rfl) (qpv 1) A4 (fun _ _ => rfl)) (qpv 6))) A3)))))))))), ?_⟩
  haveI := T.c2_NOUGHT
  refine Pu.E9 h ?_
  rintro as Qp ⟨p, q, rfl, sp, sq, k⟩
  trivial
  refine ⟨_, _, rfl, ?_⟩
  trivial
  have p2 := sp.2.mono (l := 8000) (by decide)
  have q2 := sq.2.mono (l := 8000) (by decide)
  have g0 := P3 (t := (p.den : Int)) q
  have gs := Y8 (t := (p.den : Int)) q2 (den0 q)
  have gn : (0 : Int) <= ((Int.gcd (p.den : Int) (q.den : Int) : Nat) : Int) := Int.natCast_nonneg _
  refine ⟨⟨g0, gs⟩, ⟨g0, gs⟩, ⟨sp.1.mono (by decide), A0l q2 gn⟩, ⟨sq.1.mono (by decide), A0l p2 gn⟩, _, _, rfl, ?_⟩
  trivial
  refine ⟨⟨A3l g0, Y8 gs g0⟩, ⟨A3l g0, Y8 gs g0⟩, ⟨A0l p2 gn, A0l q2 (Int.natCast_nonneg _)⟩, ?_⟩
  obtain ⟨e1, e2⟩ := B56 p q _ _ rfl rfl
  rw [e1, e2]; exact k
theorem W9 (T : Txt K mg D) : FnOk P w K mg base CX0 3 D.a_minus D.d_minus ["one", "other"] (Pu.spOf K [.dat, .dat] (U1 (·-·))) := by
  refine T.F_minus.ok sc_minus (Pu.spOf.len rfl) (fun cdv A outer s H vs Q E hr h => ?_)
  refine ⟨_, (QSs.out (B1 (B6 (A7 (W8 (K := K) T) hr.mo rfl T.m_plus T.F_plus.kp (A3y T) .nil B4 (A0 (qpv 0) (A0 (C5 (A0 (A2c A10 (B2 (A8 (K := K) rfl) (qpv 1) A4 (fun _ _ => rfl))) (A0 (B2 (A8 (K := K) rfl) (qpv 1) A4 (fun _ _ => rfl)) A3))) A3)))))), ?_⟩
  haveI := T.c2_NOUGHT
  refine Pu.E9 h ?_
  rintro as Qp ⟨p, q, rfl, sp, sq, k⟩
  trivial
  rw [C0q]
  refine ⟨_, _, rfl, sp, ⟨by have := sq.1; unfold Sm at *; show (-q.num).natAbs < _; omega, sq.2⟩, ?_⟩
  show Qp (.d (dq (p + -q)))
  rw [<- Rat.sub_eq_add_neg]; exact k
theorem U4 (T : Txt K mg D) : FnOk P w K mg base CX0 2 D.a_product D.d_product ["one", "other"] (Pu.spOf K [.dat, .dat] (U1 (·*·))) := by
  refine T.F_product.ok sc_product (Pu.spOf.len rfl) (fun cdv A outer s H vs Q E hr h => ?_)
  refine ⟨_, (QSs.out (A6 (R3 (i := 2) (j := 3) rfl sc_product.nd rfl rfl (by decide) rfl rfl (A0 (A7 (J9 (K := K) T) hr.mo rfl T.m_commonpart T.F_commonpart.kp (K6 T) .nil B4 (A0 (B2 (A8 (K := K) rfl) (qpv 0) A4 (fun _ _ => rfl)) (A0 (B2 (A8 (K := K) rfl) (qpv 1) A4 (fun _ _ => rfl)) A3))) (A0 (A7 (J9 (K := K) T) hr.mo rfl T.m_commonpart T.F_commonpart.kp (K6 T) .nil B4 (A0 (B2 (A8 (K := K) rfl) (qpv 1) A4 (fun _ _ => rfl)) (A0 (B2 (A8 (K := K) rfl) (qpv 0) A4 (fun _ _ => rfl)) A3))) A3)) rfl)
      (B1 (B6 (C5 (A0 (B8 D2 (B8 G4 (B2 (A8 (K := K) rfl) (qpv 0) A4 (fun _ _ => rfl)) (qpv 2)) (B8 G4 (B2 (A8 (K := K) rfl) (qpv 1) A4 (fun _ _ => rfl)) (qpv 3))) (A0 (B8 D2 (B8 G4 (B2 (A8 (K := K) rfl) (qpv 0) A4 (fun _ _ => rfl)) (qpv 3)) (B8 G4 (B2 (A8 (K := K) rfl) (qpv 1) A4 (fun _ _ => rfl)) (qpv 2))) A3))))))), ?_⟩
  haveI := T.c2_NOUGHT
  refine Pu.E9 h ?_
  rintro as Qp ⟨p, q, rfl, sp, sq, k⟩
  trivial
  refine ⟨_, _, rfl, ?_⟩
  trivial
  refine ⟨_, _, rfl, ?_⟩
  trivial
  have p1 := sp.1.mono (l := 8000) (by decide)
  have q1 := sq.1.mono (l := 8000) (by decide)
  have p2 := sp.2.mono (l := 8000) (by decide)
  have q2 := sq.2.mono (l := 8000) (by decide)
  have g0 := P3 (t := p.num) q
  have gs := Y8 (t := p.num) q2 (den0 q)
  have h0 := P3 (t := q.num) p
  have hs := Y8 (t := q.num) p2 (den0 p)
  refine ⟨⟨g0, gs⟩, ⟨h0, hs⟩, ⟨A0l p1 (Int.natCast_nonneg _), A0l q1 (Int.natCast_nonneg _)⟩, ⟨h0, hs⟩, ⟨g0, gs⟩, ⟨A0l p2 (Int.natCast_nonneg _), A0l q2 (Int.natCast_nonneg _)⟩, ?_⟩
  rw [B9w, B9x]; exact k
theorem A7c (T : Txt K mg D) : FnOk P w K mg base CX0 3 D.a_parted D.d_parted ["one", "other"] (Pu.spOf K [.dat, .dat] A5y) := by
  refine T.F_parted.ok sc_parted (Pu.spOf.len rfl) (fun cdv A outer s H vs Q E hr h => ?_)
  refine ⟨_, (QSs.out (A6 (M6 (qpv 1) (G1 (K := K) (n := 2) rfl rfl (C2 (B5 (i := 2) sc_parted.nd rfl (Or.inl rfl) (Or.inl rfl)) (C2 (B5 (i := 3) sc_parted.nd rfl (Or.inl rfl) (Or.inl rfl)) G0)) rfl rfl))
      (A6 (D9 (B9 (D4 (K := K) rfl hr.units) (qpv 2) A4 (C6 _))
        (B1 Z2)
        C3)
      (B1 (B6 (A7 (U4 (K := K) T) hr.mo rfl T.m_product T.F_product.kp (A07 T) .nil B4 (A0 (qpv 0) (A0 (Z3 (B9 A4i (qpv 2) A4 (C6 _)) (C5 (A0 (qpv 3) (A0 (qpv 2) A3))) (C5 (A0 (A2c A10 (qpv 3)) (A0 (A2c A10 (qpv 2)) A3)))) A3)))))))), ?_⟩
  haveI := T.c2_NOUGHT
  refine Pu.E9 h ?_
  rintro as Qp ⟨p, q, rfl, sp, sq, hq, k⟩
  trivial
  rw [if_neg (A79 hq)]
  have e := A9g hq
  have kk : Qp (.d (dq (p * q⁻¹))) := by rw [<- Rat.div_def]; exact k
  refine ite2 (fun h => ?_) (fun h => ?_)
  · rw [if_pos h, if_pos h] at e
    trivial
    rw [<- e]
    exact ⟨_, _, rfl, sp, B42 sq hq, kk⟩
  · rw [if_neg h, if_neg h] at e
    trivial
    rw [<- e]
    exact ⟨_, _, rfl, sp, B42 sq hq, kk⟩
theorem O1 (T : Txt K mg D) : FnOk P w K mg base CX0 1 D.a_isless D.d_isless ["one", "other"] (Pu.spOf K [.dat, .dat] A5z) := by
  refine T.F_isless.ok sc_isless (Pu.spOf.len rfl) (fun cdv A outer s H vs Q E hr h => ?_)
  refine ⟨_, (QSs.out (B1 (B6 (J1 B1h (B8 D2 (B2 (A8 (K := K) rfl) (qpv 0) A4 (fun _ _ => rfl)) (B2 (A8 (K := K) rfl) (qpv 1) A4 (fun _ _ => rfl))) (B8 D2 (B2 (A8 (K := K) rfl) (qpv 1) A4 (fun _ _ => rfl)) (B2 (A8 (K := K) rfl) (qpv 0) A4 (fun _ _ => rfl))) (C6 _))))), ?_⟩
  haveI := T.c2_NOUGHT
  refine Pu.E9 h ?_
  rintro as Qp ⟨p, q, rfl, sp, sq, k⟩
  trivial
  have p1 := sp.1.mono (l := 8000) (by decide)
  have p2 := sp.2.mono (l := 8000) (by decide)
  have q1 := sq.1.mono (l := 8000) (by decide)
  have q2 := sq.2.mono (l := 8000) (by decide)
  refine ⟨⟨p1, q2⟩, ⟨q1, p2⟩, ?_⟩
  rw [A23]; exact k
def A50 : Pu.PSp := fun as Q => ∃ p q : Rat, as = [.d (dq p), .d (dq q)] /\ SmQ 3900 p /\ SmQ 3900 q /\ Q (.d (dq (if p < q then q else p)))
theorem A7d (T : Txt K mg D) : FnOk P w K mg base CX0 2 D.a_larger D.d_larger ["one", "other"] (Pu.spOf K [.dat, .dat] A50) := by
  refine T.F_larger.ok sc_larger (Pu.spOf.len rfl) (fun cdv A outer s H vs Q E hr h => ?_)
  refine ⟨_, (QSs.out (B1 (B6 (Z3 (F8 (A7 (O1 (K := K) T) hr.mo rfl T.m_isless T.F_isless.kp (Q4 T) .nil B4 (A0 (qpv 0) (A0 (qpv 1) A3)))) (qpv 1) (qpv 0))))), ?_⟩
  haveI := T.c2_NOUGHT
  refine Pu.E9 h ?_
  rintro as Qp ⟨p, q, rfl, sp, sq, k⟩
  trivial
  refine ⟨p, q, rfl, sp, sq, ?_⟩
  trivial
  refine ite2 (fun h => ?_) (fun h => ?_)
  · rw [if_pos h] at k; exact k
  · rw [if_neg h] at k; exact k
def B01 : Pu.PSp := fun as Q => ∃ qs : List Rat, as = [.d (.list (qs.map dq))] /\ (∀ i : Nat, SmQ 3900 (My.S (qs.take i))) /\ (∀ q ∈ qs, SmQ 3900 q) /\ Q (.d (dq (My.S qs)))
theorem A2t (T : Txt K mg D) : FnOk P w K mg base CX0 3 D.a_sumof D.d_sumof ["some"] (Pu.spOf K [.dat] B01) := by
  refine T.F_sumof.ok sc_sumof (Pu.spOf.len rfl) (fun cdv A outer s H vs Q E hr h => ?_)
  refine ⟨_, (QSs.out (A6 (B3 (i := 1) sc_sumof.nd rfl (Or.inl rfl) (B0z (v := .ref D.k_NOUGHT) rfl T.c_NOUGHT rfl))
      (A6 (G6 PassesOwn.never rfl (F1 (K := K) rfl (qpv 0)) (B5 (i := 2) sc_sumof.nd rfl (Or.inl rfl) (Or.inl rfl))
        (B1 (B3 (i := 1) sc_sumof.nd rfl (Or.inl rfl) (A7 (W8 (K := K) T) hr.mo rfl T.m_plus T.F_plus.kp (A3y T) .nil B4 (A0 (qpv 1) (A0 (qpv 2) A3))))))
      (B1 (B6 (qpv 1)))))), ?_⟩
  haveI := T.c2_NOUGHT
  refine Pu.E9 h ?_
  rintro as Qp ⟨qs, rfl, h1, h2, k⟩
  trivial
  refine K8 (f := dq) (xs := qs) (fun i e => ∃ o : Option SV, e = [some (.d (.list (qs.map dq))), some (.d (dq (My.S (qs.take i)))), o]) ⟨_, rfl⟩ ?_ ?_
  · rintro i q e hq ⟨o, rfl⟩
    trivial
    refine ⟨_, _, rfl, h1 i, h2 q (List.mem_of_getElem? hq), ?_⟩
    trivial
    exact ⟨_, by rw [T1 hq]⟩
  rintro e ⟨o, rfl⟩
  rw [List.take_length]
  trivial
  exact k
def T2 : Pu.PSp := fun as Q => ∃ c d : Rat × Rat, as = [.d (dcn c), .d (dcn d)] /\ d.1 < c.1 /\ SmR 161 85 c.1 /\ SmR 285 151 c.2 /\ SmR 161 85 d.1 /\ SmR 285 151 d.2 /\ Q (.d (dq (G7 c d)))
theorem T4 (T : Txt K mg D) : FnOk P w K mg base CX0 4 D.a_ratebetween D.d_ratebetween ["longer", "quicker"] (Pu.spOf K [.dat, .dat] T2) := by
  refine T.F_ratebetween.ok sc_ratebetween (Pu.spOf.len rfl) (fun cdv A outer s H vs Q E hr h => ?_)
  refine ⟨_, (QSs.out (B1 (B6 (A7 (A7c (K := K) T) hr.mo rfl T.m_parted T.F_parted.kp (B2g T) .nil B4 (A0 (A7 (W9 (K := K) T) hr.mo rfl T.m_minus T.F_minus.kp (A1u T) .nil B4 (A0 (B2 (A8 (K := K) rfl) (qpv 1) A4 (fun _ _ => rfl)) (A0 (B2 (A8 (K := K) rfl) (qpv 0) A4 (fun _ _ => rfl)) A3))) (A0 (A7 (W9 (K := K) T) hr.mo rfl T.m_minus T.F_minus.kp (A1u T) .nil B4 (A0 (B2 (A8 (K := K) rfl) (qpv 0) A4 (fun _ _ => rfl)) (A0 (B2 (A8 (K := K) rfl) (qpv 1) A4 (fun _ _ => rfl)) A3))) A3)))))), ?_⟩
  haveI := T.c2_NOUGHT
  refine Pu.E9 h ?_
  rintro as Qp ⟨c, d, rfl, h, h1, h2, h3, h4, k⟩
  trivial
  refine ⟨_, _, rfl, h4.q (by decide) (by decide), h2.q (by decide) (by decide), ?_⟩
  trivial
  refine ⟨_, _, rfl, h1.q (by decide) (by decide), h3.q (by decide) (by decide), ?_⟩
  trivial
  exact ⟨_, _, rfl, (h4.sub h2).q (by decide) (by decide), (h1.sub h3).q (by decide) (by decide), by grind, k⟩
def Z5 : Pu.PSp := fun as Q => ∃ (kd : Str) (cs : List (Rat × Rat)) (t : Rat), as = [.d (offD kd cs), .d (dq t)] /\ Kd kd /\ OfOk cs 100 54 244 130 /\ SmQ 3900 t /\ Q (.d (.bool (offB kd cs t)))
theorem P4 (T : Txt K mg D) : FnOk P w K mg base CX0 2 D.a_isoffered D.d_isoffered ["offer", "time"] (Pu.spOf K [.dat, .dat] Z5) := by
  refine T.F_isoffered.ok sc_isoffered (Pu.spOf.len rfl) (fun cdv A outer s H vs Q E hr h => ?_)
  refine ⟨_, (QSs.out (A6 (M6 (qpv 0) (G1 (K := K) (n := 2) rfl rfl (C2 (B5 (i := 2) sc_isoffered.nd rfl (Or.inl rfl) (Or.inl rfl)) (C2 (B5 (i := 3) sc_isoffered.nd rfl (Or.inl rfl) (Or.inl rfl)) G0)) rfl rfl))
      (A6 (D9 (B9 (D4 (K := K) rfl hr.units) (qpv 2) D1 (C6 _))
        (B1 (B6 (J1 (A7b (K := K) rfl hr.units) (qpv 1) (K5 rfl (D7 (N' := ["corner"]) (cap := [none]) rfl rfl rfl rfl (by decide +kernel) rfl rfl) (F1 (K := K) rfl (qpv 3)) (fun _ _ _ => (B5 (i := 0) (show (["corner"] : List Str).Nodup from by decide +kernel) rfl (Or.inl rfl) (Or.inr rfl))) (fun _ _ _ => G8) (fun _ _ _ => (B2 (A8 (K := K) rfl) (qpv 0) A4 (fun _ _ => rfl)))) (by with_unfolding_all rfl))))
        C3)
      (B1 (B6 (O7 (A1i (A7 (O1 (K := K) T) hr.mo rfl T.m_isless T.F_isless.kp (Q4 T) .nil B4 (A0 (qpv 1) (A0 (B2 (A8 (K := K) rfl) (B2 (A8 (K := K) rfl) (qpv 3) (A2c A10 A4) (fun _ _ => rfl)) A4 (fun _ _ => rfl)) A3)))) (R4 (A1i (A7 (O1 (K := K) T) hr.mo rfl T.m_isless T.F_isless.kp (Q4 T) .nil B4 (A0 (B2 (A8 (K := K) rfl) (B2 (A8 (K := K) rfl) (qpv 3) A4 (fun _ _ => rfl)) A4 (fun _ _ => rfl)) (A0 (qpv 1) A3))))))))))), ?_⟩
  haveI := T.c2_NOUGHT
  refine Pu.E9 h ?_
  rintro as Qp ⟨kd, cs, t, rfl, hk, ok, st, k⟩
  unfold offD
  have n1 := ok.ne
  have n5 := ok.le
  trivial
  refine ⟨hk.lay, A0e, ?_⟩
  rcases hk with hk | hk
  · have hk' : kd = "straight" := hk
    subst hk'
    have e0 := A3m n1
    have el := A8e n1
    have s0 := (ok.sm _ (List.mem_of_getElem? e0)).1
    have sl := (ok.sm _ (List.mem_of_getElem? el)).1
    unfold offB at k
    rw [if_neg (Ne.symm A0g)] at k
    rw [A9q, if_neg (by decide)]
    refine A6z (xs := cs) el (by omega) ?_
    trivial
    refine ⟨_, _, rfl, st, sl.q (by decide) (by decide), ?_⟩
    by_cases h1 : t < (lstC cs).1
    · rw [decide_eq_true h1] at k ⊢
      trivial
      exact k
    rw [decide_eq_false h1] at k ⊢
    trivial
    refine E5 (n := 0) e0 ?_
    trivial
    refine ⟨_, _, rfl, s0.q (by decide) (by decide), st, ?_⟩
    by_cases h2 : (fstC cs).1 < t
    · rw [decide_eq_true h2] at k ⊢
      trivial
      exact k
    · rw [decide_eq_false h2] at k ⊢
      trivial
      exact k
  · have hk' : kd = "steps" := hk
    subst hk'
    unfold offB at k
    rw [if_pos rfl] at k
    rw [A9s, if_pos rfl]
    refine ⟨by omega, ⟨fun i e ys => ∃ o : Option SV, e = [o] /\ ys = ((cs.take i).map fun c => dq c.1), ⟨_, rfl, rfl⟩, ?_, ?_⟩⟩
    · rintro i x e ys hx ⟨o, rfl, rfl⟩
      rw [List.getElem?_map] at hx
      obtain ⟨b, hb, rfl⟩ := Option.map_eq_some_iff.mp hx
      trivial
      refine ⟨_, rfl, ?_⟩
      rw [List.take_succ, hb, List.map_append]; rfl
    · rintro e ys ⟨o, rfl, rfl⟩
      rw [List.length_map, List.take_length]
      trivial
      refine ⟨A8i cs, ?_⟩
      rw [B7s]
      exact k
def R6 : Pu.PSp := fun as Q => ∃ (cs : List (Rat × Rat)) (t : Rat), as = [.d (.list (cs.map dcn)), .d (dq t)] /\ OfOk cs 161 85 285 151 /\ SmR 400 300 t /\ Q (.own ((cs.filter fun c => decide (t < c.1)).map dcn))
theorem R9 (T : Txt K mg D) : FnOk P w K mg base CX0 2 D.a_cornersabove D.d_cornersabove ["corners", "time"] (Pu.spOf K [.dat, .dat] R6) := by
  refine T.F_cornersabove.ok sc_cornersabove (Pu.spOf.len rfl) (fun cdv A outer s H vs Q E hr h => ?_)
  refine ⟨_, (QSs.out (B1 (B6 (K5 rfl (D7 (N' := ["time", "corner"]) (cap := [some 1, none]) rfl rfl rfl rfl (by decide +kernel) rfl rfl) (F1 (K := K) rfl (qpv 0)) (fun _ _ _ => (B5 (i := 1) (show (["time", "corner"] : List Str).Nodup from by decide +kernel) rfl (Or.inl rfl) (Or.inr rfl))) (fun _ _ _ => (Q1 (F8 (A7 (O1 (K := K) T) hr.mo rfl T.m_isless T.F_isless.kp (Q4 T) .nil B4 (A0 (qpv 0) (A0 (B2 (A8 (K := K) rfl) (qpv 1) A4 (fun _ _ => rfl)) A3)))))) (fun _ _ _ => (qpv 1)))))), ?_⟩
  haveI := T.c2_NOUGHT
  refine Pu.E9 h ?_
  rintro as Qp ⟨cs, t, rfl, ok, st, k⟩
  trivial
  refine ⟨by have := ok.le; omega, ?_⟩
  refine X5 (fun i e ys => ∃ o1 : Option SV, e = [some (.d (dq t)), o1] /\ ys = (((cs.take i).filter fun c => decide (t < c.1)).map dcn)) ⟨_, rfl, rfl⟩ ?_ ?_
  · rintro i c e ys hc ⟨o1, rfl, rfl⟩
    obtain ⟨s1, s2⟩ := ok.sm c (List.mem_of_getElem? hc)
    trivial
    refine ⟨_, _, rfl, st.q (by decide) (by decide), s1.q (by decide) (by decide), ?_⟩
    trivial
    refine ite2 (fun h => ?_) (fun h => ?_)
    · exact ⟨_, rfl, by rw [List.take_add_one, hc, List.filter_append, List.map_append]; simp [h]⟩
    · exact ⟨_, rfl, by rw [List.take_add_one, hc, List.filter_append, List.map_append]; simp [h]⟩
  · rintro e ys ⟨o1, rfl, rfl⟩
    rw [List.take_length]
    trivial
    exact k
def T3 : Pu.PSp := fun as Q => ∃ (kd : Str) (cs : List (Rat × Rat)) (t : Rat), as = [.d (offD kd cs), .d (dq t)] /\ Kd kd /\ OfOk cs 100 54 244 130 /\ SmR 339 261 t /\ offB kd cs t = true /\ ∀ p, Price cs t p -> Q (.d (dq p))
theorem M4 (T : Txt K mg D) : FnOk P w K mg base CX0 5 D.a_priceoftime D.d_priceoftime ["offer", "time"] (Pu.spOf K [.dat, .dat] T3) := by
  refine T.F_priceoftime.ok sc_priceoftime (Pu.spOf.len rfl) (fun cdv A outer s H vs Q E hr h => ?_)
  refine ⟨_, (QSs.out (A6 (D9 (M5 (F8 (A7 (P4 (K := K) T) hr.mo rfl T.m_isoffered T.F_isoffered.kp (S9 T) .nil B4 (A0 (qpv 0) (A0 (qpv 1) A3)))))
        (B1 Z2)
        C3)
      (A6 (B3 (i := 2) sc_priceoftime.nd rfl (Or.inl rfl) (B2 (A8 (K := K) rfl) (qpv 0) A4 (fun _ _ => rfl)))
      (A6 (B3 (i := 3) sc_priceoftime.nd rfl (Or.inl rfl) (B7 (C4 (K := K) rfl) (by rfl) T.z_len PySem.boot_len (A0 (A7 (R9 (K := K) T) hr.mo rfl T.m_cornersabove T.F_cornersabove.kp (T6 T) .nil B4 (A0 (qpv 2) (A0 (qpv 1) A3))) A3)))
      (A6 (D9 (B9 (D4 (K := K) rfl hr.units) (B2 (A8 (K := K) rfl) (B2 (A8 (K := K) rfl) (qpv 2) (qpv 3) (fun _ _ => rfl)) A4 (fun _ _ => rfl)) (qpv 1) (C6 _))
        (B1 (B6 (B2 (A8 (K := K) rfl) (B2 (A8 (K := K) rfl) (qpv 2) (qpv 3) (fun _ _ => rfl)) A4 (fun _ _ => rfl))))
        C3)
      (A6 (B3 (i := 4) sc_priceoftime.nd rfl (Or.inl rfl) (B2 (A8 (K := K) rfl) (qpv 2) (B8 A2s (qpv 3) A4) (fun _ _ => rfl)))
      (B1 (B6 (A7 (W8 (K := K) T) hr.mo rfl T.m_plus T.F_plus.kp (A3y T) .nil B4 (A0 (B2 (A8 (K := K) rfl) (qpv 4) A4 (fun _ _ => rfl)) (A0 (A7 (U4 (K := K) T) hr.mo rfl T.m_product T.F_product.kp (A07 T) .nil B4 (A0 (A7 (T4 (K := K) T) hr.mo rfl T.m_ratebetween T.F_ratebetween.kp (X7 T) .nil B4 (A0 (qpv 4) (A0 (B2 (A8 (K := K) rfl) (qpv 2) (qpv 3) (fun _ _ => rfl)) A3))) (A0 (A7 (W9 (K := K) T) hr.mo rfl T.m_minus T.F_minus.kp (A1u T) .nil B4 (A0 (B2 (A8 (K := K) rfl) (qpv 4) A4 (fun _ _ => rfl)) (A0 (qpv 1) A3))) A3))) A3))))))))))), ?_⟩
  haveI := T.c2_NOUGHT
  refine Pu.E9 h ?_
  rintro as Qp ⟨kd, cs, t, rfl, hk, ok0, st, ofb, k⟩
  have of := X0 hk ok0.ne ofb
  have ok := ok0.up (a' := 161) (b' := 85) (c' := 285) (d' := 151) (by decide) (by decide) (by decide) (by decide)
  trivial
  refine ⟨kd, cs, t, rfl, hk, ok0, st.q (by decide) (by decide), ?_⟩
  rw [ofb]
  unfold offD
  trivial
  obtain ⟨A, B, e, fA, hA, hB⟩ := part t ok.dec
  obtain ⟨b, r, eB, hbt, hst⟩ : ∃ b r, B = b :: r /\ b.1 <= t /\ (b.1 < t -> ∃ A' l, A = A' ++ [l]) := by
    rcases hB with ⟨rfl, _⟩ | ⟨b, r, eB, hb, _⟩
    · exfalso
      rw [List.append_nil] at e
      rcases hk with hk | hk
      · obtain ⟨c0, cl, e0, el, h1, h2⟩ := of.sr hk
        exact h1 (hA cl (by rw [<- e]; exact List.mem_of_getElem? el))
      · obtain ⟨c, hc, ec⟩ := of.st hk
        have := hA c (by rw [<- e]; exact hc)
        grind
    · refine ⟨b, r, eB, hb, fun hl => ?_⟩
      cases q : A with
      | nil =>
        exfalso
        have dB := ok.dec
        rw [e, q, eB, List.nil_append] at dB
        rcases hk with hk | hk
        · obtain ⟨c0, cl, e0, el, h1, h2⟩ := of.sr hk
          rw [e, q, eB] at e0; cases e0; exact h2 hl
        · obtain ⟨c, hc, ec⟩ := of.st hk
          rw [e, q, eB, List.nil_append] at hc
          rcases List.mem_cons.mp hc with z | z
          · subst z; grind
          · have := dB.lt c z; grind
      | cons x y => exact ⟨(x :: y).dropLast, (x :: y).getLast (by simp), (List.dropLast_concat_getLast _).symm⟩
  subst eB
  have eb : cs[A.length]? = some b := by rw [e]; exact Q9
  have sb := ok.sm b (List.mem_of_getElem? eb)
  refine ⟨cs, t, rfl, ok, st.mono (by decide) (by decide), ?_⟩
  trivial
  rw [fA]
  refine E5 eb ?_
  trivial
  refine ite2 (fun hb => ?_) (fun hb => ?_)
  · refine E5 eb ?_
    trivial
    exact k _ ⟨A, b, r, e, fA, hbt, .inl ⟨hb, rfl⟩⟩
  · have hbl : b.1 < t := by grind
    obtain ⟨A', l, eA⟩ := hst hbl
    have el' : cs[A'.length]? = some l := by rw [e, eA]; exact X3
    have hl := hA l (by rw [eA]; simp)
    have sl := ok.sm l (List.mem_of_getElem? el')
    have en : ((A.length : Nat) : Int) - 1 = ((A'.length : Nat) : Int) := by rw [eA]; simp
    try simp only [List.length_map]
    rw [en]
    refine E5 el' ?_
    trivial
    refine E5 eb ?_
    trivial
    refine ⟨l, b, rfl, by grind, sl.1, sl.2, sb.1, sb.2, ?_⟩
    trivial
    refine ⟨_, _, rfl, sl.1.q (by decide) (by decide), st.q (by decide) (by decide), ?_⟩
    trivial
    have ss := A18 (c := l) (d := b) (by grind) sl.1 sl.2 sb.1 sb.2
    refine ⟨_, _, rfl, ss.q (by decide) (by decide), (sl.1.sub st).q (by decide) (by decide), ?_⟩
    trivial
    refine ⟨_, _, rfl, sl.2.q (by decide) (by decide), (ss.mul (sl.1.sub st)).q (by decide) (by decide), ?_⟩
    exact k _ ⟨A, b, r, e, fA, hbt, .inr ⟨hbl, A', l, eA, rfl⟩⟩
def R5 : List SV -> Prop := fun as => ∃ (kd : Str) (cs : List (Rat × Rat)) (t : Rat), as = [.d (offD kd cs), .d (dq t)] /\ Kd kd /\ OfOk cs 100 54 244 130 /\ SmR 339 261 t /\ offB kd cs t = false
theorem R8 (T : Txt K mg D) : FnOk P w K mg base (CX1 P w) 5 D.a_priceoftime D.d_priceoftime ["offer", "time"] (Pu.spE K [.dat, .dat] D.k_NoTime R5) := by
  haveI := T.c2_NOUGHT
  refine Pu.okx T.F_priceoftime sc_priceoftime rfl (fun cdv A outer s H E w0 hr hk => (QSs.out (A6 (D9 (B8g (M5 (F8 (A7 (P4 (K := K) T) hr.mo rfl T.m_isoffered T.F_isoffered.kp (S9 T) .nil B4 (A0 (qpv 0) (A0 (qpv 1) A3)))))) (B1 (A5o hk (by rfl) T.c_NoTime T.ex_NoTime)) C3) A5n))) (fun w0 => inferInstance) ?_
  rintro as ⟨kd, cs, t, rfl, hk, ok, st, of⟩
  trivial
  refine ⟨kd, cs, t, rfl, hk, ok, st.q (by decide) (by decide), ?_⟩
  rw [of]
  trivial
  exact True.intro
def B05 : Pu.PSp := fun as Q => ∃ p : Rat × Rat, as = [.d (dcn p)] /\ PlSm p /\ Q (.d (dq (enD p)))
theorem A2u (T : Txt K mg D) : FnOk P w K mg base CX0 3 D.a_endof D.d_endof ["step"] (Pu.spOf K [.dat] B05) := by
  refine T.F_endof.ok sc_endof (Pu.spOf.len rfl) (fun cdv A outer s H vs Q E hr h => ?_)
  refine ⟨_, (QSs.out (B1 (B6 (A7 (W8 (K := K) T) hr.mo rfl T.m_plus T.F_plus.kp (A3y T) .nil B4 (A0 (B2 (A8 (K := K) rfl) (qpv 0) A4 (fun _ _ => rfl)) (A0 (B2 (A8 (K := K) rfl) (qpv 0) A4 (fun _ _ => rfl)) A3)))))), ?_⟩
  haveI := T.c2_NOUGHT
  refine Pu.E9 h ?_
  rintro as Qp ⟨p, rfl, hp, k⟩
  trivial
  exact ⟨p.1, p.2, rfl, hp.s, hp.t, k⟩
theorem A4o (T : Txt K mg D) : FnOk P w K mg base CX0 1 D.a_Lbegun D.d_Lbegun ["_law_script", "_law_k"] (A17 K) := by
  refine T.F_Lbegun.ok sc_Lbegun (fun vs H Q E h => ?_) (fun cdv A outer s H vs Q E hr h => ?_)
  · obtain ⟨a, ns, k, rfl, _⟩ := h; rfl
  · obtain ⟨a, ns, k, rfl, ha, k0, k1, kk⟩ := h
    refine ⟨_, (G3 (U0 (i := 2) sc_Lbegun.nd rfl (Or.inl rfl) D8)
      (G3 (B04 (A5v B1h (pv 1) (Q2 call_len_seq (by rfl) T.z_len PySem.boot_len (I0 (pv 0) O0)) (C6 _))
        (O8 (U0 (i := 2) sc_Lbegun.nd rfl (Or.inl rfl) (W6 ix_list (pv 0) (pv 1) (fun _ _ => rfl))))
        W5)
      (O8 (Z4 (B23 (I0 (pv 2) (I0 (K4 L5 (K4 F0 (K4 F0 (K4 L5 (pv 2) D8) (K4 D2 (K4 D2 D8 (pv 1)) (pv 1))) D8) D8) (I0 (W7 C1p (pv 2) (K4 A69 D8 D8) (C6 _)) O0)))))))), ?_⟩
    have fin : ∀ c : Int, ∃ v, ([some (V.ref a), some (V.int k), some (V.int c)] : St)[2]? = some (some v) /\
        (K1 (tOp (rI (fun _ j => 0 < j) fun i j => .int (i % j)) (tOp (rI0 fun i j => .int (i + j)) (tOp (rI0 fun i j => .int (i + j)) (tOp (rI (fun _ j => 0 < j) fun i j => .int (i % j)) (tVar 2) (tC (.int 2147483587)))
          (tOp (rI B7v fun i j => .int (i * j)) (tOp (rI B7v fun i j => .int (i * j)) (tC (.int 104729)) (tVar 1)) (tVar 1))) (tC (.int 7))) (tC (.int 2147483587)))
          (K1 (tOp (rI0 fun i j => .bl (decide (j <= i))) (tVar 2) (tOp (rI CPow fun i j => .int (i ^ j.toNat)) (tC (.int 10)) (tC (.int 18)))) tNil)) [some (V.ref a), some (V.int k), some (V.int c)] H
          fun xs H1 => (v :: xs).length <= sizeLine /\ ∀ p, H1 p = none -> Q (.ref p) (upd H1 p (.lst (v :: xs))) := by
      intro c
      refine ⟨_, rfl, _, rfl, _, _, rfl, rfl, (by show (0 : Int) < 2147483587; decide), _, rfl, _, _, rfl, rfl, ⟨T9 0, A19 k0 k1⟩, _, rfl, _, _, rfl, rfl, ⟨(Sm.mul (k := 20) (l := 20) (by unfold Sm; decide) (B73 k0 k1)).mono (by decide), A19 k0 k1⟩,
        _, _, rfl, rfl, _, _, rfl, rfl, _, _, rfl, rfl, (by show (0 : Int) < 2147483587; decide), _, rfl, _, _, rfl, rfl, A94 18, _, _, rfl, rfl, by show 3 <= sizeLine; decide, fun p hp => ?_⟩
      have e1 := Int.emod_nonneg (c % 2147483587 + 104729 * k * k + 7) (show (2147483587 : Int) ≠ 0 by decide)
      have e2 := Int.emod_lt_of_pos (c % 2147483587 + 104729 * k * k + 7) (show (0 : Int) < 2147483587 by decide)
      exact kk p _ hp ⟨_, _, _, C8, e1, by omega⟩ (Same.upd hp).kp
    refine ⟨_, rfl, _, rfl, a, _, rfl, .inl ha, _, _, rfl, rfl, _, rfl, ?_⟩
    refine ifD (fun hn => ?_) (fun hn => ?_)
    · have hk : (ns.map V.int)[k.toNat]? = some (V.int (ns.getD k.toNat 0)) := by
        have hlt : k.toNat < ns.length := by rw [List.length_map] at hn; omega
        rw [List.getElem?_map, List.getElem?_eq_getElem hlt, List.getD_eq_getElem?_getD, List.getElem?_eq_getElem hlt]; rfl
      have hk' : atI (ns.map V.int) k = some (V.int (ns.getD k.toNat 0)) := by
        have := F5 hk
        rwa [show ((k.toNat : Nat) : Int) = k by omega] at this
      refine ⟨_, rfl, _, rfl, a, _, k, _, rfl, rfl, ha, hk', ?_⟩
      exact fin _
    · exact fin 0
theorem M1 (T : Txt K mg D) : FnOk P w K mg base CX0 1 D.a_Lbegun D.d_Lbegun ["_law_script", "_law_k"] (Pu.spOf K [.vw, .dat] Pu.A2e) := FnOk.imp (A4o T) Pu.B2f
theorem A7f (T : Txt K mg D) : FnOk P w K mg base CX0 1 D.a_Ltake D.d_Ltake ["_law_state", "_law_many"] A5e := by
  refine T.F_Ltake.ok sc_Ltake (fun vs H Q E h => ?_) (fun cdv A outer s H vs Q E hr h => ?_)
  · obtain ⟨p, n, rfl, _⟩ := h; rfl
  · obtain ⟨p, n, rfl, S0, n0, sn, k⟩ := h
    refine ⟨_, (G3 (B04 (A5u (W6 ix_list (pv 0) D8 (fun _ _ => rfl)))
        (G3 (U0 (i := 2) sc_Ltake.nd rfl (Or.inl rfl) (K4 L5 (W6 ix_list (pv 0) D8 (fun _ _ => rfl)) (pv 1)))
        (G3 (A2f (K4 G4 (W6 ix_list (pv 0) D8 (fun _ _ => rfl)) (pv 1)) (A2h (pv 0) D8 N3))
        (G3 (A2f (W7 A4i (W6 ix_list (pv 0) D8 (fun _ _ => rfl)) D8 (C6 _)) (A2h (pv 0) D8 N3))
        (O8 (Z4 (pv 2))))))
        W5)
      (G3 (U0 (i := 3) sc_Ltake.nd rfl (Or.inl rfl) D8)
      (G3 (B2z PassesOwn.never rfl (Z6 rfl T.z_range (I0 (K4 F0 D8 (K4 D2 D8 (Z7 A0z (by rfl) T.z_int (by rfl) (I0 (W7 A4i (pv 1) (K4 A69 D8 D8) (C6 _)) O0)))) O0)) (A6a (i := 4) sc_Ltake.nd rfl (Or.inl rfl) (Or.inl rfl))
        (G3 (A2f (K4 L5 (K4 F0 (K4 D2 (W6 ix_list (pv 0) D8 (fun _ _ => rfl)) D8) D8) D8) (A2h (pv 0) D8 N3))
        (O8 (U0 (i := 3) sc_Ltake.nd rfl (Or.inl rfl) (K4 F0 (K4 D2 (pv 3) D8) (K4 L5 (K4 D2 (W6 ix_list (pv 0) D8 (fun _ _ => rfl)) (W6 ix_list (pv 0) D8 (fun _ _ => rfl))) D8))))))
      (O8 (Z4 (K4 L5 (K4 G4 (pv 3) D8) (pv 1))))))), ?_⟩
    obtain ⟨c, m, f, hp, m0, m1⟩ := S0.ex
    refine ⟨_, rfl, p, _, _, _, rfl, rfl, SqL.of hp, at2, f, rfl, ?_⟩
    have s8 : Sm 8000 n := sn.mono (by decide)
    cases f with
    | true =>
      refine iteT ?_
      refine ⟨_, rfl, p, _, _, _, rfl, rfl, SqL.of hp, at0, _, rfl, _, _, rfl, rfl, n0, ?_⟩
      refine ⟨_, rfl, p, _, _, _, rfl, rfl, SqL.of hp, at0, _, rfl, _, _, rfl, rfl, ⟨by omega, s8⟩, _, rfl, p, _, _, 0, rfl, rfl, hp, rfl, ?_⟩
      refine ⟨_, rfl, p, _, _, _, rfl, rfl, SqL.of C8, at0, _, _, rfl, rfl, _, rfl, p, _, _, 2, rfl, rfl, C8, rfl, ?_⟩
      refine ⟨_, rfl, ?_⟩
      exact k _ _ (Int.emod_nonneg c (by omega)) (Int.emod_lt_of_pos c n0) ⟨_, _, _, C8, m0, m1⟩ (Kp.upd.trans Kp.upd)
    | false =>
      refine iteF ?_
      refine ⟨_, rfl, _, _, rfl, rfl, A94 6, _, _, rfl, rfl, .inr ⟨_, rfl, _, _, rfl, rfl, ⟨T9 0, B74 _⟩, _, _, rfl, rfl, _, rfl, ?_, ?_, A9m (lo := 0)
        (fun i σ H' => ∃ (m' md : Int) (x : Option V), σ = [some (V.ref p), some (V.int n), none, some (V.int md), x] /\ H' p = some (.lst [.int c, .int m', .bl false]) /\ 0 <= m' /\ m' < 2147483648 /\ Kp p H H' /\ Sm (40 * i + 1) md)
        ⟨m, 0, none, rfl, hp, m0, m1, Kp.refl, by unfold Sm; decide⟩ ?_ ?_⟩⟩
      · split <;> omega
      · split <;> omega
      · rintro i σ H' hi ⟨m', md, x, rfl, hp', h0, h1, kk, sd⟩
        have hi9 : i < 9 := by
          refine Nat.lt_of_lt_of_le hi ?_
          split <;> decide
        refine ⟨_, rfl, p, _, _, _, rfl, rfl, SqL.of hp', at1, _, _, rfl, rfl, ⟨sm32 h0 h1, T9 0⟩, _, _, rfl, rfl, _, _, rfl, rfl, (by show (0 : Int) < 2147483647; decide), _, rfl, p, _, _, 1, rfl, rfl, hp', rfl, ?_⟩
        have e1 := Int.emod_nonneg (m' * 39373 + 17) (show (2147483647 : Int) ≠ 0 by decide)
        have e2 := Int.emod_lt_of_pos (m' * 39373 + 17) (show (0 : Int) < 2147483647 by decide)
        have sm := sm32 e1 (by omega)
        refine ⟨_, rfl, _, _, rfl, rfl, ⟨sd.mono (by omega), T9 0⟩, _, rfl, p, _, _, _, rfl, rfl, SqL.of C8, at1, _, rfl, p, _, _, _, rfl, rfl, SqL.of C8, at1, _, _, rfl, rfl, ⟨sm, sm⟩, _, _, rfl, rfl, (by show (0 : Int) < 2147483587; decide), _, _, rfl, rfl, ?_⟩
        have g1 := Int.emod_nonneg ((m' * 39373 + 17) % 2147483647 * ((m' * 39373 + 17) % 2147483647)) (show (2147483587 : Int) ≠ 0 by decide)
        have g2 := Int.emod_lt_of_pos ((m' * 39373 + 17) % 2147483647 * ((m' * 39373 + 17) % 2147483647)) (show (0 : Int) < 2147483587 by decide)
        refine ⟨_, _, _, rfl, C8, e1, by omega, kk.trans Kp.upd, ?_⟩
        refine Sm.mono (k := 40 * i + 1 + 32 + 1) (Sm.add (sd.mul (l := 32) (by unfold Sm; decide)) ?_) (by omega)
        exact Sm.mono (k := 32) (by unfold Sm; omega) (by omega)
      · rintro σ H' ⟨m', md, x, rfl, hp', h0, h1, kk, sd⟩
        refine ⟨_, rfl, _, _, rfl, rfl, ⟨by decide, T9 0⟩, _, rfl, _, _, rfl, rfl, n0, ?_⟩
        exact k _ _ (Int.emod_nonneg _ (by omega)) (Int.emod_lt_of_pos _ n0) ⟨_, _, _, hp', h0, h1⟩ kk
theorem C0 (T : Txt K mg D) : FnOk P w K mg base CX0 1 D.a_Ltake D.d_Ltake ["_law_state", "_law_many"] (Pu.spOf K [.st, .dat] Pu.A5x) := FnOk.imp (A7f T) Pu.B5g
theorem O9 (T : Txt K mg D) : FnOk P w K mg base CX0 1 D.a_Llow D.d_Llow ["_law_top", "_law_bottom"] (Pu.spOf K [.dat, .dat] B50) := by
  refine T.F_Llow.ok sc_Llow (Pu.spOf.len rfl) (fun cdv A outer s H vs Q E hr h => ?_)
  refine ⟨_, (QSs.out (A6 (B3 (i := 2) sc_Llow.nd rfl (Or.inl rfl) (qpv 0))
      (A6 (B3 (i := 3) sc_Llow.nd rfl (Or.inl rfl) (qpv 1))
      (A6 (N5 PassesOwn.never (B9 (R7 (K := K) rfl hr.units) (qpv 3) A4 (C6 _))
        (B1 (R3 (i := 2) (j := 3) rfl sc_Llow.nd rfl rfl (by decide) rfl rfl (A0 (qpv 3) (A0 (B8 L5 (qpv 2) (qpv 3)) A3)) rfl)))
      (B1 (B6 (C5 (A0 (B8 G4 (qpv 0) (qpv 2)) (A0 (B8 G4 (qpv 1) (qpv 2)) A3))))))))), ?_⟩
  haveI := T.c2_NOUGHT
  refine Pu.E9 h ?_
  rintro as Qp ⟨t, b, rfl, hb, st, sb, k⟩
  trivial
  refine ⟨fun m e => ∃ x y : Int, e = [some (.d (.int t)), some (.d (.int b)), some (.d (.int x)), some (.d (.int y))] /\ 0 <= y /\ (y = 0 -> 0 < x) /\ m = y.toNat /\ Int.gcd x y = Int.gcd t b, ⟨_, _, _, rfl, by omega, fun e => by omega, rfl, rfl⟩, ?_⟩
  rintro m e ⟨x, y, rfl, hy, hx, rfl, hg⟩
  trivial
  refine ite2 (fun e => ?_) (fun hn => ?_)
  · subst e
    have hx0 := hx rfl
    have e1 : x = sh t b := by
      have := A3k x (by omega)
      rw [hg] at this
      unfold sh; rw [if_neg (by omega)]; exact this.symm
    subst e1
    have hb0 : b ≠ 0 := by omega
    refine ⟨⟨B77 hb0, B72 sb hb0⟩, ⟨B77 hb0, B72 sb hb0⟩, ?_⟩
    rw [A8f hb0, B69 hb0]; exact k
  · have h1 := Int.emod_lt_of_pos x (show 0 < y by omega)
    have h2 := Int.emod_nonneg x hn
    exact ⟨by omega, (x % y).toNat, by omega, y, x % y, rfl, h2, fun _ => by omega, rfl, by rw [A9l, hg]⟩
theorem G5 (T : Txt K mg D) : FnOk P w K mg base CX0 2 D.a_Lplus D.d_Lplus ["_law_one", "_law_other"] (Pu.spOf K [.dat, .dat] (U1 (·+·))) := by
  refine T.F_Lplus.ok sc_Lplus (Pu.spOf.len rfl) (fun cdv A outer s H vs Q E hr h => ?_)
  refine ⟨_, (QSs.out (B1 (B6 (A7 (O9 (K := K) T) hr.mo rfl T.m_Llow T.F_Llow.kp (V2 T) .nil B4 (A0 (B8 F0 (B8 D2 (B2 (A8 (K := K) rfl) (qpv 0) A4 (fun _ _ => rfl)) (B2 (A8 (K := K) rfl) (qpv 1) A4 (fun _ _ => rfl))) (B8 D2 (B2 (A8 (K := K) rfl) (qpv 1) A4 (fun _ _ => rfl)) (B2 (A8 (K := K) rfl) (qpv 0) A4 (fun _ _ => rfl)))) (A0 (B8 D2 (B2 (A8 (K := K) rfl) (qpv 0) A4 (fun _ _ => rfl)) (B2 (A8 (K := K) rfl) (qpv 1) A4 (fun _ _ => rfl))) A3)))))), ?_⟩
  haveI := T.c2_NOUGHT
  refine Pu.E9 h ?_
  rintro as Qp ⟨p, q, rfl, sp, sq, k⟩
  trivial
  have p1 := sp.1.mono (l := 8000) (by decide)
  have p2 := sp.2.mono (l := 8000) (by decide)
  have q1 := sq.1.mono (l := 8000) (by decide)
  have q2 := sq.2.mono (l := 8000) (by decide)
  refine ⟨⟨p1, q2⟩, ⟨q1, p2⟩, ⟨p2, q2⟩, _, _, rfl, Int.mul_pos (denp p) (denp q), ((sp.1.mul sq.2).add (sq.1.mul sp.2)).mono (by decide), (sp.2.mul sq.2).mono (by decide), ?_⟩
  rw [B8k]; exact k
theorem J2 (T : Txt K mg D) : FnOk P w K mg base CX0 2 D.a_Lminus D.d_Lminus ["_law_one", "_law_other"] (Pu.spOf K [.dat, .dat] (U1 (·-·))) := by
  refine T.F_Lminus.ok sc_Lminus (Pu.spOf.len rfl) (fun cdv A outer s H vs Q E hr h => ?_)
  refine ⟨_, (QSs.out (B1 (B6 (A7 (O9 (K := K) T) hr.mo rfl T.m_Llow T.F_Llow.kp (V2 T) .nil B4 (A0 (B8 A2s (B8 D2 (B2 (A8 (K := K) rfl) (qpv 0) A4 (fun _ _ => rfl)) (B2 (A8 (K := K) rfl) (qpv 1) A4 (fun _ _ => rfl))) (B8 D2 (B2 (A8 (K := K) rfl) (qpv 1) A4 (fun _ _ => rfl)) (B2 (A8 (K := K) rfl) (qpv 0) A4 (fun _ _ => rfl)))) (A0 (B8 D2 (B2 (A8 (K := K) rfl) (qpv 0) A4 (fun _ _ => rfl)) (B2 (A8 (K := K) rfl) (qpv 1) A4 (fun _ _ => rfl))) A3)))))), ?_⟩
  haveI := T.c2_NOUGHT
  refine Pu.E9 h ?_
  rintro as Qp ⟨p, q, rfl, sp, sq, k⟩
  trivial
  have p1 := sp.1.mono (l := 8000) (by decide)
  have p2 := sp.2.mono (l := 8000) (by decide)
  have q1 := sq.1.mono (l := 8000) (by decide)
  have q2 := sq.2.mono (l := 8000) (by decide)
  refine ⟨⟨p1, q2⟩, ⟨q1, p2⟩, ⟨p2, q2⟩, _, _, rfl, Int.mul_pos (denp p) (denp q), ((sp.1.mul sq.2).sub (sq.1.mul sp.2)).mono (by decide), (sp.2.mul sq.2).mono (by decide), ?_⟩
  rw [B8h]; exact k
theorem O2 (T : Txt K mg D) : FnOk P w K mg base CX0 2 D.a_Ltimes D.d_Ltimes ["_law_one", "_law_other"] (Pu.spOf K [.dat, .dat] (U1 (·*·))) := by
  refine T.F_Ltimes.ok sc_Ltimes (Pu.spOf.len rfl) (fun cdv A outer s H vs Q E hr h => ?_)
  refine ⟨_, (QSs.out (B1 (B6 (A7 (O9 (K := K) T) hr.mo rfl T.m_Llow T.F_Llow.kp (V2 T) .nil B4 (A0 (B8 D2 (B2 (A8 (K := K) rfl) (qpv 0) A4 (fun _ _ => rfl)) (B2 (A8 (K := K) rfl) (qpv 1) A4 (fun _ _ => rfl))) (A0 (B8 D2 (B2 (A8 (K := K) rfl) (qpv 0) A4 (fun _ _ => rfl)) (B2 (A8 (K := K) rfl) (qpv 1) A4 (fun _ _ => rfl))) A3)))))), ?_⟩
  haveI := T.c2_NOUGHT
  refine Pu.E9 h ?_
  rintro as Qp ⟨p, q, rfl, sp, sq, k⟩
  trivial
  have p1 := sp.1.mono (l := 8000) (by decide)
  have p2 := sp.2.mono (l := 8000) (by decide)
  have q1 := sq.1.mono (l := 8000) (by decide)
  have q2 := sq.2.mono (l := 8000) (by decide)
  refine ⟨⟨p1, q1⟩, ⟨p2, q2⟩, _, _, rfl, Int.mul_pos (denp p) (denp q), (sp.1.mul sq.1).mono (by decide), (sp.2.mul sq.2).mono (by decide), ?_⟩
  rw [B8i]; exact k
theorem S1 (T : Txt K mg D) : FnOk P w K mg base CX0 1 D.a_Lunder D.d_Lunder ["_law_one", "_law_other"] (Pu.spOf K [.dat, .dat] A5z) := by
  refine T.F_Lunder.ok sc_Lunder (Pu.spOf.len rfl) (fun cdv A outer s H vs Q E hr h => ?_)
  refine ⟨_, (QSs.out (B1 (B6 (J1 B1h (B8 D2 (B2 (A8 (K := K) rfl) (qpv 0) A4 (fun _ _ => rfl)) (B2 (A8 (K := K) rfl) (qpv 1) A4 (fun _ _ => rfl))) (B8 D2 (B2 (A8 (K := K) rfl) (qpv 1) A4 (fun _ _ => rfl)) (B2 (A8 (K := K) rfl) (qpv 0) A4 (fun _ _ => rfl))) (C6 _))))), ?_⟩
  haveI := T.c2_NOUGHT
  refine Pu.E9 h ?_
  rintro as Qp ⟨p, q, rfl, sp, sq, k⟩
  trivial
  have p1 := sp.1.mono (l := 8000) (by decide)
  have p2 := sp.2.mono (l := 8000) (by decide)
  have q1 := sq.1.mono (l := 8000) (by decide)
  have q2 := sq.2.mono (l := 8000) (by decide)
  refine ⟨⟨p1, q2⟩, ⟨q1, p2⟩, ?_⟩
  rw [A23]; exact k
theorem J0 (T : Txt K mg D) : FnOk P w K mg base CX0 2 D.a_Lamount D.d_Lamount ["_law_state", "_law_plain", "_law_least"] (Pu.spOf K [.st, .dat, .dat] A51) := by
  refine T.F_Lamount.ok sc_Lamount (Pu.spOf.len rfl) (fun cdv A outer s H vs Q E hr h => ?_)
  refine ⟨_, (QSs.out (A6 (B3 (i := 3) sc_Lamount.nd rfl (Or.inl rfl) (A7 (C0 (K := K) T) hr.mo rfl T.m_Ltake T.F_Ltake.kp (C7 T) .nil B4 (A0 (qpv 0) (A0 A4 A3))))
      (A6 (D9 (F8 (qpv 1))
        (B1 (B6 (C5 (A0 (B8 F0 (qpv 2) (A7 (C0 (K := K) T) hr.mo rfl T.m_Ltake T.F_Ltake.kp (C7 T) .nil B4 (A0 (qpv 0) (A0 (B2 (A8 (K := K) rfl) (D6 (A0 A4 (A0 A4 (A0 A4 (A0 A4 (A0 A4 (A0 A4 A3))))))) (qpv 3) (fun _ _ => rfl)) A3)))) (A0 A4 A3)))))
        C3)
      (A6 (B3 (i := 4) sc_Lamount.nd rfl (Or.inl rfl) (B8 F0 A4 (A7 (C0 (K := K) T) hr.mo rfl T.m_Ltake T.F_Ltake.kp (C7 T) .nil B4 (A0 (qpv 0) (A0 (B2 (A8 (K := K) rfl) (D6 (A0 A4 (A0 A4 (A0 A4 (A0 A4 (A0 A4 (A0 A4 A3))))))) (qpv 3) (fun _ _ => rfl)) A3)))))
      (B1 (B6 (A7 (O9 (K := K) T) hr.mo rfl T.m_Llow T.F_Llow.kp (V2 T) .nil B4 (A0 (B8 F0 (qpv 2) (A7 (C0 (K := K) T) hr.mo rfl T.m_Ltake T.F_Ltake.kp (C7 T) .nil B4 (A0 (qpv 0) (A0 (B2 (A8 (K := K) rfl) (D6 (A0 A4 (A0 A4 (A0 A4 (A0 A4 (A0 (B8 A69 A4 A4) (A0 A4 A3))))))) (qpv 3) (fun _ _ => rfl)) A3)))) (A0 (qpv 4) A3))))))))), ?_⟩
  haveI := T.c2_NOUGHT
  refine Pu.E9 h ?_
  rintro as Qp ⟨pl, le, rfl, hle, k⟩
  trivial
  refine ⟨6, rfl, by decide, sm4 6, fun d d0 d6 => ?_⟩
  trivial
  refine ite2 (fun hp => ?_) (fun hp => ?_)
  · obtain ⟨z, hz, e⟩ := B1t (xs := [2, 3, 3, 4, 5, 6]) d0 d6
    have hb : 2 <= z /\ z <= 6 := by simp at hz; omega
    refine D3 e ?_
    trivial
    refine ⟨z, rfl, by omega, A5f (by omega) (by omega), fun d2 g0 g1 => ?_⟩
    trivial
    rw [A9w]
    have s3 : Sm 3 (le + d2) := L6 (B := 7) (by omega) (by omega) (by decide)
    exact k _ (C0h (by omega)) (fun h1 => C0g (by omega)) ((V9 s3).mono (by decide) (by decide)) fun _ => ⟨V9 s3, B5o (V9 s3)⟩
  · obtain ⟨x, hx, ex⟩ := B1t (xs := [1, 1, 2, 4, 12, 60]) d0 d6
    have hbx : 1 <= x /\ x <= 60 := by simp at hx; omega
    obtain ⟨z, hz, ez⟩ := B1t (xs := [3, 9, 12, 30, 1000000000000, 90]) d0 d6
    have hbz : 3 <= z /\ z <= 1000000000000 := by simp at hz; omega
    refine D3 ex ?_
    trivial
    refine ⟨x, rfl, by omega, A5f (by omega) (by omega), fun d1 f0 f1 => ?_⟩
    trivial
    refine ⟨A94 12, D3 ez ?_⟩
    trivial
    refine ⟨z, rfl, by omega, A5f (by omega) (by omega), fun d2 g0 g1 => ?_⟩
    trivial
    have st : Sm 41 (le + d2) := L6 (B := 1000000000000) (by omega) (by omega) (by decide)
    have sb : Sm 6 (1 + d1) := L6 (B := 60) (by omega) (by omega) (by decide)
    refine ⟨_, _, rfl, by omega, st.mono (by decide), sb.mono (by decide), ?_⟩
    exact k _ (N9 (by omega) (by omega)) (fun h1 => C1e (by omega) (by omega)) (SmR.low st sb (by omega)) fun h => absurd h hp
def A55 : Pu.PSp := fun as Q => ∃ (kd : Str) (mo : Int), as = [.st, .d (.str kd), .d (.int mo), .d (.bool false)] /\ 0 < mo /\ mo <= 5 /\ Kd kd /\ ∀ cs, OfG kd cs 100 54 244 130 -> OnC cs -> (kd = "straight" -> OnP cs) -> cs.length <= mo.toNat -> Q (.d (offD kd cs))
theorem A7h (T : Txt K mg D) : FnOk P w K mg base CX0 3 D.a_Loffer D.d_Loffer ["_law_state", "_law_kind", "_law_most", "_law_plain"] (Pu.spOf K [.st, .dat, .dat, .dat] A55) := by
  refine T.F_Loffer.ok sc_Loffer (Pu.spOf.len rfl) (fun cdv A outer s H vs Q E hr h => ?_)
  refine ⟨_, (QSs.out (A6 (B3 (i := 4) sc_Loffer.nd rfl (Or.inl rfl) (B8 F0 A4 (A7 (C0 (K := K) T) hr.mo rfl T.m_Ltake T.F_Ltake.kp (C7 T) .nil B4 (A0 (qpv 0) (A0 (qpv 2) A3)))))
      (A6 (B3 (i := 5) sc_Loffer.nd rfl (Or.inl rfl) (A7 (J0 (K := K) T) hr.mo rfl T.m_Lamount T.F_Lamount.kp (K3 T) .nil B4 (A0 (qpv 0) (A0 (qpv 3) (A0 A4 A3)))))
      (A6 (B3 (i := 6) sc_Loffer.nd rfl (Or.inl rfl) (A7 (J0 (K := K) T) hr.mo rfl T.m_Lamount T.F_Lamount.kp (K3 T) .nil B4 (A0 (qpv 0) (A0 (qpv 3) (A0 A4 A3)))))
      (A6 (G9 (i := 7) rfl sc_Loffer.nd rfl rfl (D7 (N' := ["_law_state", "_law_plain", "_law_k"]) (cap := [some 0, some 3, none]) rfl rfl rfl rfl (by decide +kernel) rfl rfl) (F6 rfl T.z_range (A0 (B8 A2s (qpv 4) A4) A3)) (fun _ _ _ => (B5 (i := 2) (show (["_law_state", "_law_plain", "_law_k"] : List Str).Nodup from by decide +kernel) rfl (Or.inl rfl) (Or.inr rfl))) (fun _ _ _ => G8) (fun _ _ _ => (A7 (J0 (K := K) T) hr.mo rfl T.m_Lamount T.F_Lamount.kp (K3 T) .nil B4 (A0 (qpv 0) (A0 (qpv 1) (A0 A4 A3))))) rfl)
      (A6 (G6 PassesOwn.never rfl (F1 (K := K) rfl (qpv 7)) (B5 (i := 8) sc_Loffer.nd rfl (Or.inl rfl) (Or.inl rfl))
        (B1 (B3 (i := 5) sc_Loffer.nd rfl (Or.inl rfl) (A7 (G5 (K := K) T) hr.mo rfl T.m_Lplus T.F_Lplus.kp (J4 T) .nil B4 (A0 (qpv 5) (A0 (qpv 8) A3))))))
      (A6 (B3 (i := 9) sc_Loffer.nd rfl (Or.inl rfl) (D6 (A0 (C5 (A0 (qpv 5) (A0 (qpv 6) A3))) A3)))
      (A6 (B3 (i := 10) sc_Loffer.nd rfl (Or.inl rfl) (C5 (A0 A4 (A0 A4 A3))))
      (A6 (G6 PassesOwn.never rfl (F1 (K := K) rfl (qpv 7)) (B5 (i := 8) sc_Loffer.nd rfl (Or.inl rfl) (Or.inl rfl))
        (A6 (B3 (i := 11) sc_Loffer.nd rfl (Or.inl rfl) (A7 (J0 (K := K) T) hr.mo rfl T.m_Lamount T.F_Lamount.kp (K3 T) .nil B4 (A0 (qpv 0) (A0 (qpv 3) (A0 A4 A3)))))
        (A6 (B3 (i := 5) sc_Loffer.nd rfl (Or.inl rfl) (A7 (J2 (K := K) T) hr.mo rfl T.m_Lminus T.F_Lminus.kp (K7 T) .nil B4 (A0 (qpv 5) (A0 (qpv 8) A3))))
        (A6 (B3 (i := 10) sc_Loffer.nd rfl (Or.inl rfl) (A7 (G5 (K := K) T) hr.mo rfl T.m_Lplus T.F_Lplus.kp (J4 T) .nil B4 (A0 (qpv 10) (A0 (qpv 11) A3))))
        (A6 (D9 (B9 (D4 (K := K) rfl hr.units) (qpv 1) D1 (C6 _))
          (B1 (B3 (i := 11) sc_Loffer.nd rfl (Or.inl rfl) (A7 (O2 (K := K) T) hr.mo rfl T.m_Ltimes T.F_Ltimes.kp (Q5 T) .nil B4 (A0 (qpv 10) (A0 (qpv 8) A3)))))
          C3)
        (A6 (B3 (i := 6) sc_Loffer.nd rfl (Or.inl rfl) (A7 (G5 (K := K) T) hr.mo rfl T.m_Lplus T.F_Lplus.kp (J4 T) .nil B4 (A0 (qpv 6) (A0 (qpv 11) A3))))
        (B1 (J8 (K2 (K := K) rfl PySem.F.plainAttrs_list PySem.F.slot_list_append PySem.F.type_list_append F4 (qpv 9) (A0 (C5 (A0 (qpv 5) (A0 (qpv 6) A3))) A3))))))))))
      (B1 (B6 (C5 (A0 (qpv 1) (A0 (qpv 9) A3)))))))))))))), ?_⟩
  haveI := T.c2_NOUGHT
  refine Pu.E9 h ?_
  rintro as Qp ⟨kd, mo, rfl, m0, m5, hk, k⟩
  trivial
  refine ⟨mo, rfl, m0, L6 (B := 5) (by omega) (by omega) (by decide), fun d d0 d1 => ?_⟩
  trivial
  refine ⟨_, _, rfl, .inl rfl, fun q1 q10 _ s1 _ => ?_⟩
  trivial
  refine ⟨_, _, rfl, .inl rfl, fun q2 q20 _ s2 _ => ?_⟩
  trivial
  refine ⟨by omega, by rw [J7]; omega, ?_⟩
  refine Q3 (fun i e ys => ∃ (qs : List Rat) (o : Option SV), e = [some .st, some (.d (.bool false)), o] /\ ys = qs.map dq /\ qs.length = i /\ ∀ q ∈ qs, 0 < q /\ SmR 41 6 q) ⟨[], _, rfl, rfl, rfl, fun _ z => nomatch z⟩ ?_ ?_
  · rintro i e ys hi ⟨qs, o, rfl, rfl, hl, hq⟩
    trivial
    refine ⟨_, _, rfl, .inr rfl, fun q _ qp sq _ => ?_⟩
    trivial
    refine ⟨qs ++ [q], _, rfl, by rw [List.map_append]; rfl, by simp [hl], fun c z => (List.mem_append.mp z).elim (hq c) fun z => ?_⟩
    simp at z; subst z; exact ⟨qp rfl, sq⟩
  · rintro e ys ⟨qs, o, rfl, rfl, hl, hq⟩
    have hm : qs.length <= 4 := by omega
    trivial
    refine K8 (fun i e => ∃ (o8 : Option SV) (T' : Rat), e = [some .st, some (.d (.str kd)), some (.d (.int mo)), some (.d (.bool false)), some (.d (.int (1 + d))), some (.d (dq T')), some (.d (dq q2)), some (.d (.list (qs.map dq))), o8, none, none, none] /\ SmR (41 + 7 * i) (6 + 6 * i) T' /\ T' = q1 + sumR (qs.take i) /\ On LL ((1 + i) * 2 ^ 41) T') ⟨_, _, rfl, s1, by show q1 = q1 + 0; grind, (M0 s1).mono (Nat.le_of_ble_eq_true rfl)⟩ ?_ ?_
    · rintro i q e hqi ⟨o8, T', rfl, sT, eT, oT⟩
      have hil : i < qs.length := (List.getElem?_eq_some_iff.mp hqi).1
      have sg := (hq q (List.mem_of_getElem? hqi)).2
      trivial
      refine ⟨_, _, rfl, sT.q (by omega) (by omega), sg.q (by decide) (by decide), ?_⟩
      trivial
      exact ⟨_, _, rfl, (sT.add sg).mono (by omega) (by omega), by rw [List.take_add_one, hqi, Option.toList_some, Y4, eT]; grind, (oT.add E6 (M0 sg)).mono (by rw [show 1 + (i + 1) = (1 + i) + 1 by omega, Nat.add_mul (1 + i) 1, Nat.one_mul]; exact Nat.le_refl _)⟩
    · rintro e ⟨o8, T0, rfl, sT0, eT0, oT0⟩
      try rw [List.length_map] at oT0
      try rw [List.length_map] at eT0
      rw [List.take_length] at eT0
      have hq0 : ∀ q ∈ qs, 0 < q := fun q hq' => (hq q hq').1
      have sT0 : SmR 69 30 T0 := sT0.mono (by omega) (by omega)
      trivial
      refine K8 (fun i e => ∃ (o8 o11 : Option SV) (T' P' R' : Rat) (cs : List (Rat × Rat)), e = [some .st, some (.d (.str kd)), some (.d (.int mo)), some (.d (.bool false)), some (.d (.int (1 + d))), some (.d (dq T')), some (.d (dq P')), some (.d (.list (qs.map dq))), o8, some (.own ((cs ++ [(T', P')]).map dcn)), some (.d (dq R')), o11] /\
        SmR (69 + 7 * i) (30 + 6 * i) T' /\ SmR (116 + 32 * i) (6 + 31 * i) P' /\ SmR (41 + 7 * i) (1 + 6 * i) R' /\ (On LL ((6 + i) * 2 ^ 41) T' /\ On (LL * LL) ((1 + i) * 2 ^ 85) P' /\ On LL (i * 2 ^ 41) R' /\ OnC cs /\ (kd = "straight" -> OnP (cs ++ [(T', P')]))) /\ (T' = q1 + sumR (qs.drop i) /\ 0 <= P' /\ 0 <= R' /\ RiseO (cs ++ [(T', P')]) /\ ∀ c ∈ cs, 0 <= c.1 /\ 0 <= c.2) /\ (kd = "straight" -> CvR (cs ++ [(T', P')]) R') /\ Dec (cs ++ [(T', P')]) /\ cs.length = i /\ ∀ c ∈ cs, SmR 100 54 c.1 /\ SmR 244 130 c.2)
        ⟨_, _, T0, q2, 0, [], rfl, sT0, s2.mono (by decide) (by decide), sm_zero.mono (by decide) (by decide), ⟨oT0.mono (Nat.mul_le_mul_right _ (by omega)), ((M0 s2).up E6).mono (Nat.le_of_ble_eq_true rfl), On.zero.mono (Nat.zero_le _), (fun _ z => nomatch z), fun _ => OnP.one _⟩, ⟨eT0, q20, Rat.le_refl, RiseO.one _, fun _ z => nomatch z⟩, fun _ => CvR.one _, True.intro, rfl, fun _ z => nomatch z⟩ ?_ ?_
      · rintro i q e hqi ⟨o8, o11, T', P', R', cs, rfl, sT, sP, sR, ⟨oT, oP, oR, oC, oS⟩, ⟨eT, P0, R0, up, nn⟩, cv, dec, hcl, hcs⟩
        have hil : i < qs.length := (List.getElem?_eq_some_iff.mp hqi).1
        obtain ⟨qp, sg⟩ := hq q (List.mem_of_getElem? hqi)
        have ed : qs.drop i = q :: qs.drop (i + 1) := by rw [List.drop_eq_getElem_cons hil]; congr 1; exact (List.getElem?_eq_some_iff.mp hqi).2
        have eT2 : T' - q = q1 + sumR (qs.drop (i + 1)) := by
          rw [ed] at eT
          have : sumR (q :: qs.drop (i + 1)) = q + sumR (qs.drop (i + 1)) := rfl
          rw [this] at eT; grind
        have nT2 := V8 (qs := qs.drop (i + 1)) fun x hx => hq0 x (List.mem_of_mem_drop hx)
        have nT := V8 (qs := qs.drop i) fun x hx => hq0 x (List.mem_of_mem_drop hx)
        trivial
        refine ⟨_, _, rfl, .inr rfl, fun v1 _ vp sv1 _ => ?_⟩
        have v0 := vp rfl
        have nn' : ∀ c ∈ cs ++ [(T', P')], 0 <= c.1 /\ 0 <= c.2 := fun c hc => by
          rcases List.mem_append.mp hc with z | z
          · exact nn c z
          · cases List.mem_singleton.mp z
            exact ⟨by show 0 <= T'; rw [eT]; grind, P0⟩
        trivial
        refine ⟨_, _, rfl, sT.q (by omega) (by omega), sg.q (by decide) (by decide), ?_⟩
        trivial
        refine ⟨_, _, rfl, sR.q (by omega) (by omega), sv1.q (by decide) (by decide), ?_⟩
        trivial
        have hi4 : i < 4 := by omega
        have oT2 : On LL ((6 + (i + 1)) * 2 ^ 41) (T' - q) := (oT.sub E6 (M0 sg)).mono (by rw [show 6 + (i + 1) = (6 + i) + 1 by omega, Nat.add_mul (6 + i) 1, Nat.one_mul]; exact Nat.le_refl _)
        have oR2 : On LL ((i + 1) * 2 ^ 41) (R' + v1) := (oR.add E6 (M0 sv1)).mono (by rw [Nat.add_mul, Nat.one_mul]; exact Nat.le_refl _)
        have oC2 : OnC (cs ++ [(T', P')]) := fun c hc => by
          rcases List.mem_append.mp hc with z | z
          · exact oC c z
          · cases List.mem_singleton.mp z
            exact ⟨oT.mono (Nat.le_trans (Nat.mul_le_mul_right _ (show 6 + i <= 16 by omega)) (Nat.le_of_ble_eq_true rfl)), oP.mono (Nat.le_trans (Nat.mul_le_mul_right _ (show 1 + i <= 16 by omega)) (Nat.le_of_ble_eq_true rfl))⟩
        have sT2 : SmR (69 + 7 * (i + 1)) (30 + 6 * (i + 1)) (T' - q) := (sT.sub sg).mono (by omega) (by omega)
        have sR2 : SmR (41 + 7 * (i + 1)) (1 + 6 * (i + 1)) (R' + v1) := (sR.add sv1).mono (by omega) (by omega)
        refine ⟨hk.lay, B4k, ?_⟩
        refine ite2 (fun h2 => ?_) (fun h2 => ?_)
        case' refine_1 =>
          refine ⟨_, _, rfl, sR2.q (by omega) (by omega), sg.q (by decide) (by decide), ?_⟩
          trivial
          have sv2 : SmR 110 31 ((R' + v1) * q) := (sR2.mul sg).mono (by omega) (by omega)
          obtain ⟨v2, ev2⟩ : ∃ v2, v2 = (R' + v1) * q := ⟨_, rfl⟩
          rw [<- ev2] at sv2 ⊢
          have hv : kd = "straight" -> v2 = (R' + v1) * q := fun _ => ev2
          have ov : On (LL * LL) (2 ^ 85) v2 := by rw [ev2]; exact (oR2.mul (M0 sg)).mono (Nat.le_trans (Nat.mul_le_mul_right _ (Nat.mul_le_mul_right _ (show i + 1 <= 8 by omega))) (Nat.le_of_ble_eq_true rfl))
          have w0 : 0 < v2 := by rw [ev2]; exact Rat.mul_pos (by grind) qp
        case' refine_2 =>
          have sv2 : SmR 110 31 v1 := sv1.mono (by decide) (by decide)
          have hv : kd = "straight" -> v1 = (R' + v1) * q := fun z => absurd (by rw [z]; exact C0o) h2
          have ov : On (LL * LL) (2 ^ 85) v1 := ((M0 sv1).up E6).mono (Nat.le_of_ble_eq_true rfl)
          have w0 : 0 < v1 := v0
        all_goals
          refine ⟨_, _, rfl, sP.q (by omega) (by omega), sv2.q (by decide) (by decide), ?_⟩
          trivial
          refine ⟨by simp; omega, _, _, _, _, _, cs ++ [(T', P')], by simp only [List.map_append]; rfl, sT2, (sP.add sv2).mono (by omega) (by omega), sR2, ⟨oT2, (oP.add (Nat.mul_pos E6 E6) ov).mono (by rw [show 1 + (i + 1) = (1 + i) + 1 by omega, Nat.add_mul (1 + i) 1, Nat.one_mul]; exact Nat.le_refl _), oR2, oC2, fun z => (oS z).snoc (by rw [((cv z).step qp (vp rfl) (hv z)).2 cs _ _ (by simp)]; exact oR2.mono (Nat.le_trans (Nat.mul_le_mul_right _ (show i + 1 <= 8 by omega)) (Nat.le_of_ble_eq_true rfl)))⟩, ⟨eT2, by grind, by grind, RiseO.snoc up (by show T' - q < T'; grind) (by show P' < P' + _; grind), nn'⟩, fun z => (cv z).step qp (vp rfl) (hv z), Dec.snoc dec (by show T' - q < T'; grind), by simp [hcl], fun c hc => ?_⟩
          rcases List.mem_append.mp hc with z | z
          · exact hcs c z
          · cases List.mem_singleton.mp z
            exact ⟨sT.mono (by omega) (by omega), sP.mono (by omega) (by omega)⟩
      · rintro e ⟨o8, o11, T', P', R', cs, rfl, sT, sP, sR, ⟨oT, oP, oR, oC, oS⟩, ⟨eT, P0, R0, up, nn⟩, cv, dec, hcl, hcs⟩
        trivial
        have nT := V8 (qs := qs.drop (qs.map dq).length) fun x hx => hq0 x (List.mem_of_mem_drop hx)
        have hl4 : (qs.map dq).length <= 4 := by rw [List.length_map]; exact hm
        refine k _ ⟨⟨by simp, by simp; omega, dec, fun c hc => ?_⟩, fun c hc => ?_, up, fun z => (cv z).1⟩ (fun c hc => ?_) oS (by simp; omega)
        · rcases List.mem_append.mp hc with z | z
          · exact hcs c z
          · simp at z; subst z; exact ⟨sT.mono (by omega) (by omega), sP.mono (by omega) (by omega)⟩
        · rcases List.mem_append.mp hc with z | z
          · exact nn c z
          · simp at z; subst z; exact ⟨by show 0 <= T'; rw [eT]; grind, P0⟩
        · rcases List.mem_append.mp hc with z | z
          · exact oC c z
          · cases List.mem_singleton.mp z
            exact ⟨oT.mono (Nat.le_trans (Nat.mul_le_mul_right _ (show 6 + _ <= 16 by omega)) (Nat.le_of_ble_eq_true rfl)), oP.mono (Nat.le_trans (Nat.mul_le_mul_right _ (show 1 + _ <= 16 by omega)) (Nat.le_of_ble_eq_true rfl))⟩
def A56 : Pu.PSp := fun as Q => ∃ n : Int, as = [.st, .d (.int n)] /\ 1 <= n /\ n <= 10 /\ ∀ zs : List Str, zs.length = n.toNat -> (∀ z ∈ zs, (PyData.str z).canLay0 = true) -> Q (.d (.list (zs.map .str)))
theorem A7i (T : Txt K mg D) : FnOk P w K mg base CX0 2 D.a_Lnames D.d_Lnames ["_law_state", "_law_many"] (Pu.spOf K [.st, .dat] A56) := by
  refine T.F_Lnames.ok sc_Lnames (Pu.spOf.len rfl) (fun cdv A outer s H vs Q E hr h => ?_)
  refine' Exists.intro _ (And.intro (QSs.out ?h) ?g)
  case h =>
    exact (A6 (B3 (i := 2) sc_Lnames.nd rfl (Or.inl rfl) (A7 (C0 (K := K) T) hr.mo rfl T.m_Ltake T.F_Ltake.kp (C7 T) .nil B4 (A0 (qpv 0) (A0 A4 A3))))
      (A6 (B3 (i := 3) sc_Lnames.nd rfl (Or.inr rfl) (A7 (C0 (K := K) T) hr.mo rfl T.m_Ltake T.F_Ltake.kp (C7 T) .nil B4 (A0 (qpv 0) (A0 A4 A3))))
      (A6 (G9 (i := 4) rfl sc_Lnames.nd rfl rfl (D7 (N' := ["_law_state", "_law_k"]) (cap := [some 0, none]) rfl rfl rfl rfl (by decide +kernel) rfl rfl) (F6 rfl T.z_range (A0 (B8 F0 A4 (A7 (C0 (K := K) T) hr.mo rfl T.m_Ltake T.F_Ltake.kp (C7 T) .nil B4 (A0 (qpv 0) (A0 A4 A3)))) A3)) (fun _ _ _ => (B5 (i := 1) (show (["_law_state", "_law_k"] : List Str).Nodup from by decide +kernel) rfl (Or.inl rfl) (Or.inr rfl))) (fun _ _ _ => G8) (fun _ _ _ => (A7 (C0 (K := K) T) hr.mo rfl T.m_Ltake T.F_Ltake.kp (C7 T) .nil B4 (A0 (qpv 0) (A0 A4 A3)))) rfl)
      (A6 (B3 (i := 5) sc_Lnames.nd rfl (Or.inl rfl) (A7 (C0 (K := K) T) hr.mo rfl T.m_Ltake T.F_Ltake.kp (C7 T) .nil B4 (A0 (qpv 0) (A0 (B7 (C4 (K := K) rfl) (by rfl) T.z_len PySem.boot_len (A0 (qpv 4) A3)) A3))))
      (A6 (B3 (i := 6) sc_Lnames.nd rfl (Or.inr rfl) (D6 (A0 D1 (A0 D1 (A0 D1 (A0 D1 (A0 D1 (A0 D1 (A0 D1 (A0 D1 (A0 D1 (A0 D1 A3))))))))))))
      (A6 (B3 (i := 7) sc_Lnames.nd rfl (Or.inl rfl) (D6 A3))
      (A6 (G6 PassesOwn.never rfl (F6 rfl T.z_range (A0 (qpv 1) A3)) (B5 (i := 8) sc_Lnames.nd rfl (Or.inl rfl) (Or.inl rfl))
        (A6 (B3 (i := 9) sc_Lnames.nd rfl (Or.inl rfl) (F7 (L1 (K := K) rfl) (by rfl) T.z_list (by rfl) (A0 (qpv 4) A3)))
        (A6 (M6 (B8 L5 (B8 F0 (qpv 3) (qpv 8)) A4) (A5p (qpv 9) (qpv 5) N3))
        (A6 (D9 (B9 (D4 (K := K) rfl hr.units) (qpv 2) A4 (C6 _))
          (B1 (B3 (i := 9) sc_Lnames.nd rfl (Or.inl rfl) (B8 (B60 (K := K) rfl) (D6 (A0 (B8 L5 (B8 F0 (qpv 3) (qpv 8)) A4) A3)) (L9 (N2 (K := K) rfl) (qpv 9) N7 (N6 (B8 L5 (qpv 8) (B7 (C4 (K := K) rfl) (by rfl) T.z_len PySem.boot_len (A0 (qpv 4) A3))))))))
          C3)
        (B1 (J8 (K2 (K := K) rfl PySem.F.plainAttrs_list PySem.F.slot_list_append PySem.F.type_list_append F4 (qpv 7) (A0 (K2 (K := K) rfl PySem.F.plainAttrs_str PySem.F.slot_str_join PySem.F.type_str_join (B1s (K := K) rfl) D1 (A0 (K5 rfl (D7 (N' := ["_law_letter"]) (cap := [none]) rfl rfl rfl rfl (by decide +kernel) rfl rfl) (F1 (K := K) rfl (qpv 9)) (fun _ _ _ => (B5 (i := 0) (show (["_law_letter"] : List Str).Nodup from by decide +kernel) rfl (Or.inl rfl) (Or.inr rfl))) (fun _ _ _ => G8) (fun _ _ _ => (B2 (A8 (K := K) rfl) D1 (qpv 0) (fun _ _ => rfl)))) A3)) A3))))))))
      (B1 (B6 (B2 (A8 (K := K) rfl) (D6 (A0 (qpv 7) (A0 (K5 rfl (D7 (N' := ["_law_words", "_law_turn", "_law_k"]) (cap := [some 6, some 3, none]) rfl rfl rfl rfl (by decide +kernel) rfl rfl) (F6 rfl T.z_range (A0 (qpv 1) A3)) (fun _ _ _ => (B5 (i := 2) (show (["_law_words", "_law_turn", "_law_k"] : List Str).Nodup from by decide +kernel) rfl (Or.inl rfl) (Or.inr rfl))) (fun _ _ _ => G8) (fun _ _ _ => (B2 (A8 (K := K) rfl) (qpv 0) (B8 L5 (B8 F0 (qpv 1) (qpv 2)) A4) (fun _ _ => rfl)))) A3))) (F7 A0y (by rfl) T.z_int (by rfl) (A0 (J1 (D4 (K := K) rfl hr.units) (qpv 2) A4 (C6 _)) A3)) (fun _ _ => rfl)))))))))))
  case g =>
    haveI := T.c2_NOUGHT
    refine Pu.E9 h ?_
    rintro as Qp ⟨n, rfl, n0, n1, k⟩
    trivial
    refine ⟨4, rfl, by decide, sm4 4, fun way w0 w4 => ?_⟩
    trivial
    refine ⟨26, rfl, by decide, sm4 26, fun turn t0 t1 => ?_⟩
    trivial
    refine ⟨8, rfl, by decide, sm4 8, fun d d0 d1 => ?_⟩
    trivial
    refine ⟨⟨by omega, by omega⟩, by rw [J7]; omega, ?_⟩
    refine Q3 (fun i e ys => ∃ (o : Option SV) (bs : List Int), e = [some SV.st, o] /\ bs.length = i /\ (∀ b ∈ bs, 0 <= b /\ b < 26) /\ ys = bs.map .int) ⟨_, [], rfl, rfl, (fun _ h => by cases h), rfl⟩ ?_ ?_
    · rintro i e ys hi ⟨o, bs, rfl, rfl, hb, rfl⟩
      trivial
      refine ⟨26, rfl, by decide, sm4 26, fun x x0 x1 => ?_⟩
      trivial
      exact ⟨_, bs ++ [x], rfl, by rw [List.length_append, List.length_singleton], fun b hb' => by
        rcases List.mem_append.mp hb' with z | z
        · exact hb b z
        · rw [List.mem_singleton.mp z]; exact ⟨x0, x1⟩, by rw [List.map_append]; rfl⟩
    · rintro e ys ⟨o, bs, rfl, hl, hb, hy⟩
      have hyl : ys.length = bs.length := by rw [hy, List.length_map]
      have hp0 : (0 : Int) < (ys.length : Int) := by omega
      refine Exists.intro (ys.length : Int) (And.intro rfl (And.intro hp0 (And.intro (L6 (B := 40) (by omega) (by omega) (by decide)) fun a a0 a1 => ?_)))
      refine And.intro (Nat.le_of_ble_eq_true rfl) ?_
      refine And.intro (Nat.le_of_ble_eq_true rfl) ?_
      refine And.intro ⟨by omega, by omega⟩ (S6 (fun i e => ∃ (zs : List Str) (o1 o2 : Option SV), e = [some .st, some (.d (.int n)), some (.d (.int way)), some (.d (.int turn)), some (.own ys), some (.d (.int a)), some (.own A1w), some (.own (zs.map .str)), o1, o2] /\ zs.length = i /\ ∀ z ∈ zs, (PyData.str z).canLay0 = true) ⟨[], _, _, rfl, rfl, fun _ z => nomatch z⟩ ?_ ?_)
      · rintro i e hi ⟨zs, o1, o2, rfl, hz, hzl⟩
        have hin : i < n.toNat := hi
        have hLt : ∀ x ∈ ys, Lt26 x := fun x hx => by
          rw [hy] at hx
          obtain ⟨b, hb', rfl⟩ := List.mem_map.mp hx
          exact ⟨b, rfl, hb b hb'⟩
        trivial
        obtain ⟨aj, rfl⟩ := Int.eq_ofNat_of_zero_le a0
        have haj : aj < ys.length := by omega
        refine ⟨by decide, aj, by unfold ixN; simp; omega, ?_⟩
        have h2 := B1w (j := aj) (m := turn + (i : Int)) hLt
        have h3 : (ys.set aj (.int ((turn + (i : Int)) % 26))).length <= 8 := by rw [List.length_set]; omega
        refine ite2 (fun hw => ?_) (fun hw => ?_)
        case' refine_1 =>
          have h4 : (cutD (ys.set aj (.int ((turn + (i : Int)) % 26))) none (some ((i : Int) % (ys.length : Int)))).length <= 8 := Nat.le_trans (by unfold cutD; rw [List.length_take, List.length_drop]; omega) h3
          refine ⟨by decide, hp0, by omega, by omega, ?_⟩
          have hls : ∀ x ∈ PyData.int ((turn + (i : Int)) % 26) :: cutD (ys.set aj (.int ((turn + (i : Int)) % 26))) none (some ((i : Int) % (ys.length : Int))), Lt26 x := fun x hx => by
            rcases List.mem_cons.mp hx with z | z
            · rw [z]; exact A22 _
            · exact h2 x (B17 z)
          have hll : (PyData.int ((turn + (i : Int)) % 26) :: cutD (ys.set aj (.int ((turn + (i : Int)) % 26))) none (some ((i : Int) % (ys.length : Int)))).length <= 9 := by rw [List.length_cons]; omega
          revert hls hll
          generalize (PyData.int ((turn + (i : Int)) % 26) :: cutD (ys.set aj (.int ((turn + (i : Int)) % 26))) none (some ((i : Int) % (ys.length : Int)))) = ls
          intro hls hll
        case' refine_2 =>
          refine ⟨by omega, ?_⟩
          have hls := h2
          have hll : (ys.set aj (.int ((turn + (i : Int)) % 26))).length <= 9 := by omega
          revert hls hll
          generalize ys.set aj (.int ((turn + (i : Int)) % 26)) = ls
          intro hls hll
        all_goals
          refine ⟨fun i e cs => ∃ (o : Option SV) (zs : List Nat), e = [o] /\ cs = zs.map sgn /\ zs.length = i /\ ∀ c ∈ zs, c < 128, ⟨_, [], rfl, rfl, rfl, fun _ z => nomatch z⟩, ?_, ?_⟩
          · rintro i2 x e cs hx ⟨o, gs, rfl, rfl, hg1, hg2⟩
            obtain ⟨b, rfl, b0, b1⟩ := hls x (List.mem_of_getElem? hx)
            trivial
            refine ⟨(show ltr.length <= 1000 by rw [A1o]; decide), ?_⟩
            refine getS (z := ltr) (by rw [A1o]; decide) B68 b0 (by rw [A1o]; exact b1) (fun c h => ?_)
            trivial
            exact ⟨_, gs ++ [c], rfl, by rw [List.map_append]; rfl, by rw [List.length_append, List.length_singleton]; omega, fun z hz => by rcases List.mem_append.mp hz with h2 | h2; exact hg2 z h2; rw [List.mem_singleton.mp h2]; exact h⟩
          · rintro e cs ⟨o, gs, rfl, rfl, hg1, hg2⟩
            trivial
            refine ⟨_, A5g gs, by rw [B2t]; omega, by omega, zs ++ [(Str.ofString "").join (gs.map fun c => ⟨#[c]⟩)], _, _, by rw [List.map_append]; rfl, by rw [List.length_append, List.length_singleton]; omega, fun z hz' => by rcases List.mem_append.mp hz' with q | q; exact hzl z q; rw [List.mem_singleton.mp q]; exact B10 hg2⟩
      · rintro e ⟨zs, o1, o2, rfl, hz, hzl⟩
        trivial
        refine ⟨⟨by omega, by omega⟩, by rw [J7]; omega, ?_⟩
        refine Q3 (fun i e cs => ∃ (o : Option SV) (ws : List Str), e = [some (.bor A1w), some (.d (.int turn)), o] /\ ws.length = i /\ (∀ z ∈ ws, (PyData.str z).canLay0 = true) /\ cs = ws.map .str) ⟨_, [], rfl, rfl, (fun _ z => nomatch z), rfl⟩ ?_ ?_
        · rintro i e cs hi ⟨o, ws, rfl, hw1, hwl, rfl⟩
          trivial
          obtain ⟨z, ez, hzw⟩ := B5a (m := (turn + (i : Int)) % 10) (Int.emod_nonneg _ (by decide)) (Int.emod_lt_of_pos _ (by decide))
          refine ⟨by decide, D3 ez ?_⟩
          trivial
          exact ⟨_, ws ++ [z], rfl, by rw [List.length_append, List.length_singleton]; omega, (fun y hy => by rcases List.mem_append.mp hy with q | q; exact hwl y q; rw [List.mem_singleton.mp q]; exact hzw), by rw [List.map_append]; rfl⟩
        · rintro e cs ⟨o, ws, rfl, hw1, hwl, rfl⟩
          trivial
          by_cases hw : way = 0
          · rw [if_pos hw]
            exact D3 rfl (k ws hw1 hwl)
          · rw [if_neg hw]
            exact D3 rfl (k zs hz hzl)
def A54 : Pu.PSp := fun as Q => ∃ n : Int, as = [.st, .d (.int n)] /\ 0 <= n /\ n <= 40 /\ ∀ os : List Int, os.length = n.toNat -> (∀ o ∈ os, 0 <= o /\ o < n) -> Q (.own (os.map .int))
theorem A0a (T : Txt K mg D) : FnOk P w K mg base CX0 2 D.a_Lorder D.d_Lorder ["_law_state", "_law_many"] (Pu.spOf K [.st, .dat] A54) := by
  refine T.F_Lorder.ok sc_Lorder (Pu.spOf.len rfl) (fun cdv A outer s H vs Q E hr h => ?_)
  refine ⟨_, (QSs.out (A6 (B3 (i := 2) sc_Lorder.nd rfl (Or.inl rfl) (F7 (A1s rfl) (by rfl) T.z_list (by rfl) (A0 (B0y (by rfl) T.z_range (A0 (qpv 1) A3)) A3)))
      (A6 (B3 (i := 3) sc_Lorder.nd rfl (Or.inl rfl) (D6 A3))
      (A6 (N5 PassesOwn.never (B9 (R7 (K := K) rfl hr.units) (qpv 2) (D6 A3) (C6 _))
        (B1 (J8 (K2 (K := K) rfl PySem.F.plainAttrs_list PySem.F.slot_list_append PySem.F.type_list_append F4 (qpv 3) (A0 (K2 (K := K) rfl PySem.F.plainAttrs_list PySem.F.slot_list_pop PySem.F.type_list_pop B1r (qpv 2) (A0 (A7 (C0 (K := K) T) hr.mo rfl T.m_Ltake T.F_Ltake.kp (C7 T) .nil B4 (A0 (qpv 0) (A0 (B7 (C4 (K := K) rfl) (by rfl) T.z_len PySem.boot_len (A0 (qpv 2) A3)) A3))) A3)) A3)))))
      (B1 (B6 (qpv 3))))))), ?_⟩
  haveI := T.c2_NOUGHT
  refine Pu.E9 h ?_
  rintro as Qp ⟨n, rfl, n0, n1, k⟩
  trivial
  refine ⟨n, rfl, n0, by omega, ?_⟩
  trivial
  have e0 : rngD 0 n.toNat = ((List.range n.toNat).map (fun i : Nat => (i : Int))).map PyData.int := by
    unfold rngD; rw [List.map_map]; exact List.map_congr_left fun i _ => by show PyData.int (0 + (i : Int)) = PyData.int (i : Int); rw [Int.zero_add]
  rw [e0]
  refine ⟨fun m e => ∃ ls os : List Int, e = [some .st, some (.d (.int n)), some (.own (ls.map .int)), some (.own (os.map .int))] /\ m = ls.length /\ ls.length + os.length = n.toNat /\ (∀ o ∈ ls, 0 <= o /\ o < n) /\ (∀ o ∈ os, 0 <= o /\ o < n), ⟨_, _, [], rfl, rfl, by simp, ?_, fun _ z => nomatch z⟩, ?_⟩
  · intro o ho
    obtain ⟨i, hi, rfl⟩ := List.mem_map.mp ho
    have := List.mem_range.mp hi
    omega
  rintro m e ⟨ls, os, rfl, rfl, hl, h1, h2⟩
  trivial
  refine ⟨X2 ls, A9z ls, ?_⟩
  rw [B16]
  refine ite2 (fun hn => ?_) (fun hn => ?_)
  · have hpos : 0 < ls.length := by cases ls with | nil => cases hn | cons a r => exact Nat.succ_pos _
    refine ⟨by decide, ?_⟩
    trivial
    refine ⟨(ls.length : Int), by simp, by omega, L6 (B := 40) (by omega) (by omega) (by decide), fun d d0 d1 => ?_⟩
    trivial
    have hd : d.toNat < ls.length := by omega
    refine ⟨d.toNat, .int ls[d.toNat], by rw [Int.toNat_of_nonneg d0], by rw [List.getElem?_map, List.getElem?_eq_getElem hd]; rfl, by first | omega | (rw [List.length_map]; omega), by first | omega | (rw [List.length_map]; omega), ?_⟩
    have hel := A9p ls hd
    refine ⟨_, ?_, ls.eraseIdx d.toNat, os ++ [ls[d.toNat]], by rw [A8d, List.map_append]; rfl, rfl, by rw [List.length_append, List.length_singleton]; omega, fun o ho => h1 o (List.mem_of_mem_eraseIdx ho), fun o ho => ?_⟩
    · omega
    · rcases List.mem_append.mp ho with z | z
      · exact h2 o z
      · rw [List.mem_singleton.mp z]; exact h1 _ (List.getElem_mem hd)
  · have : ls = [] := by cases ls with | nil => rfl | cons a r => exact absurd rfl hn
    subst this
    exact k os (by simpa using hl) h2
def B53 : Pu.PSp := fun as Q => as = [.st, .d (.bool false)] /\ ∀ q : Rat, On LL (2 ^ 42) q -> Q (.d (dq q))
theorem A1n (T : Txt K mg D) : FnOk P w K mg base CX0 3 D.a_Llag D.d_Llag ["_law_state", "_law_plain"] (Pu.spOf K [.st, .dat] B53) := by
  refine T.F_Llag.ok sc_Llag (Pu.spOf.len rfl) (fun cdv A outer s H vs Q E hr h => ?_)
  refine ⟨_, (QSs.out (A6 (B3 (i := 2) sc_Llag.nd rfl (Or.inl rfl) (A7 (J0 (K := K) T) hr.mo rfl T.m_Lamount T.F_Lamount.kp (K3 T) .nil B4 (A0 (qpv 0) (A0 (qpv 1) (A0 A4 A3)))))
      (A6 (D9 (B9 (D4 (K := K) rfl hr.units) (A7 (C0 (K := K) T) hr.mo rfl T.m_Ltake T.F_Ltake.kp (C7 T) .nil B4 (A0 (qpv 0) (A0 A4 A3))) A4 (C6 _))
        (B1 (B6 (A7 (J2 (K := K) T) hr.mo rfl T.m_Lminus T.F_Lminus.kp (K7 T) .nil B4 (A0 (C5 (A0 A4 (A0 A4 A3))) (A0 (qpv 2) A3)))))
        C3)
      (B1 (B6 (qpv 2)))))), ?_⟩
  haveI := T.c2_NOUGHT
  refine Pu.E9 h ?_
  rintro as Qp ⟨rfl, k⟩
  trivial
  refine ⟨_, _, rfl, .inl rfl, fun q1 _ _ s1 _ => ?_⟩
  trivial
  refine ⟨4, rfl, by decide, sm4 4, fun d d0 d4 => ?_⟩
  trivial
  refine ite2 (fun h => ?_) (fun h => ?_)
  · refine ⟨0, q1, rfl, smq0, ⟨s1.1.mono (by decide), s1.2.mono (by decide)⟩, ?_⟩
    exact k _ ((On.zero.sub E6 (M0 s1)).mono (Nat.le_of_ble_eq_true rfl))
  · exact k _ ((M0 s1).p2 (by decide))
def A52 : Pu.PSp := fun as Q => ∃ n : Int, as = [.st, .d (.int n), .d (.bool false)] /\ 1 <= n /\ n <= 10 /\ ∀ ws, ws.length <= 40 -> WOk n ws -> Q (.own (ws.map wD))
theorem A7e (T : Txt K mg D) : FnOk P w K mg base CX0 4 D.a_Lwaits D.d_Lwaits ["_law_state", "_law_many", "_law_plain"] (Pu.spOf K [.st, .dat, .dat] A52) := by
  refine T.F_Lwaits.ok sc_Lwaits (Pu.spOf.len rfl) (fun cdv A outer s H vs Q E hr h => ?_)
  refine ⟨_, (QSs.out (A6 (B3 (i := 3) sc_Lwaits.nd rfl (Or.inl rfl) (A7 (A0a (K := K) T) hr.mo rfl T.m_Lorder T.F_Lorder.kp (A3z T) .nil B4 (A0 (qpv 0) (A0 (qpv 1) A3))))
      (A6 (B3 (i := 4) sc_Lwaits.nd rfl (Or.inl rfl) (B8 F0 A4 (A7 (C0 (K := K) T) hr.mo rfl T.m_Ltake T.F_Ltake.kp (C7 T) .nil B4 (A0 (qpv 0) (A0 A4 A3)))))
      (A6 (B3 (i := 5) sc_Lwaits.nd rfl (Or.inl rfl) (D6 A3))
      (A6 (G6 PassesOwn.never rfl (F6 rfl T.z_range (A0 (qpv 1) A3)) (B5 (i := 6) sc_Lwaits.nd rfl (Or.inl rfl) (Or.inl rfl))
        (B1 (G6 PassesOwn.never rfl (F6 rfl T.z_range (A0 (qpv 6) A3)) (B5 (i := 7) sc_Lwaits.nd rfl (Or.inl rfl) (Or.inl rfl))
          (A6 (D9 (B9 (D4 (K := K) rfl hr.units) (A7 (C0 (K := K) T) hr.mo rfl T.m_Ltake T.F_Ltake.kp (C7 T) .nil B4 (A0 (qpv 0) (A0 (qpv 4) A3))) A4 (C6 _))
            (B1 (J8 (K2 (K := K) rfl PySem.F.plainAttrs_list PySem.F.slot_list_append PySem.F.type_list_append F4 (qpv 5) (A0 (C5 (A0 (B2 (A8 (K := K) rfl) (qpv 3) (qpv 7) (fun _ _ => rfl)) (A0 (B2 (A8 (K := K) rfl) (qpv 3) (qpv 6) (fun _ _ => rfl)) (A0 (A7 (A1n (K := K) T) hr.mo rfl T.m_Llag T.F_Llag.kp (B0h T) .nil B4 (A0 (qpv 0) (A0 (qpv 2) A3))) A3)))) A3))))
            C3)
          (B1 (D9 (B9 (D4 (K := K) rfl hr.units) (A7 (C0 (K := K) T) hr.mo rfl T.m_Ltake T.F_Ltake.kp (C7 T) .nil B4 (A0 (qpv 0) (A0 A4 A3))) A4 (C6 _))
            (A6 (B3 (i := 8) sc_Lwaits.nd rfl (Or.inl rfl) (A7 (G5 (K := K) T) hr.mo rfl T.m_Lplus T.F_Lplus.kp (J4 T) .nil B4 (A0 (A7 (J0 (K := K) T) hr.mo rfl T.m_Lamount T.F_Lamount.kp (K3 T) .nil B4 (A0 (qpv 0) (A0 (qpv 2) (A0 A4 A3)))) (A0 (C5 (A0 (B8 D2 A4 (qpv 1)) (A0 A4 A3))) A3))))
            (B1 (J8 (K2 (K := K) rfl PySem.F.plainAttrs_list PySem.F.slot_list_append PySem.F.type_list_append F4 (qpv 5) (A0 (C5 (A0 (B2 (A8 (K := K) rfl) (qpv 3) (qpv 6) (fun _ _ => rfl)) (A0 (B2 (A8 (K := K) rfl) (qpv 3) (qpv 7) (fun _ _ => rfl)) (A0 (A7 (J2 (K := K) T) hr.mo rfl T.m_Lminus T.F_Lminus.kp (K7 T) .nil B4 (A0 (C5 (A0 A4 (A0 A4 A3))) (A0 (qpv 8) A3))) A3)))) A3)))))
            C3))))))
      (B1 (B6 (L9 (N2 (K := K) rfl) (qpv 5) N7 (N6 A4))))))))), ?_⟩
  haveI := T.c2_NOUGHT
  refine Pu.E9 h ?_
  rintro as Qp ⟨n, rfl, n0, n1, k⟩
  trivial
  refine ⟨n, rfl, by omega, by omega, fun os ho hos => ?_⟩
  trivial
  refine ⟨3, rfl, by decide, sm4 3, fun d d0 d3 => ?_⟩
  trivial
  refine ⟨⟨by omega, by omega⟩, S6 (fun i e => ∃ (ws : List (Int × Int × Rat)) (o1 o2 o3 : Option SV), e = [some .st, some (.d (.int n)), some (.d (.bool false)), some (.own (os.map .int)), some (.d (.int (2 + d))), some (.own (ws.map wD)), o1, o2, o3] /\ ws.length <= 100 * i /\ WOk n ws) ⟨[], _, _, _, rfl, by simp, fun _ z => nomatch z⟩ ?_ ?_⟩
  · rintro i e hi ⟨ws, o1, o2, o3, rfl, hw, wk⟩
    trivial
    refine ⟨⟨by omega, by omega⟩, S6 (fun j e => ∃ (ws : List (Int × Int × Rat)) (o2 o3 : Option SV), e = [some .st, some (.d (.int n)), some (.d (.bool false)), some (.own (os.map .int)), some (.d (.int (2 + d))), some (.own (ws.map wD)), some (.d (.int i)), o2, o3] /\ ws.length <= 100 * i + 2 * j /\ WOk n ws) ⟨ws, _, _, rfl, by omega, wk⟩ ?_ ?_⟩
    · rintro j e hj ⟨ws, o2, o3, rfl, hw, wk⟩
      have hji : j < i := by simpa using hj
      obtain ⟨oj, hoj, ej⟩ := B32 hos (j := j) (by omega)
      obtain ⟨oi, hoi, ei⟩ := B32 hos (j := i) (by omega)
      trivial
      refine ⟨2 + d, rfl, by omega, L6 (B := 10) (by omega) (by omega) (by decide), fun g g0 g1 => ?_⟩
      trivial
      refine ite2 (fun h => ?_) (fun h => ?_)
      case' refine_1 =>
        refine D3 ej ?_
        trivial
        refine D3 ei ?_
        trivial
        refine ⟨rfl, fun q sq => ?_⟩
        trivial
        refine ⟨by omega, 12, rfl, by decide, sm4 12, fun f f0 f1 => ?_⟩
        trivial
        have hw' : (ws ++ [(oj, oi, q)]).length <= 100 * i + 2 * j + 1 := by rw [List.length_append, List.length_singleton]; omega
        have wk' : WOk n (ws ++ [(oj, oi, q)]) := wk.snoc ⟨hoj, hoi, sq.p2 (by decide)⟩
        rw [show ws.map wD ++ [PyData.tuple [.int oj, .int oi, dq q]] = (ws ++ [(oj, oi, q)]).map wD from by rw [List.map_append]; rfl]
        revert hw' wk'
        generalize ws ++ [(oj, oi, q)] = ws'
        intro hw' wk'
      case' refine_2 =>
        refine ⟨12, rfl, by decide, sm4 12, fun f f0 f1 => ?_⟩
        trivial
        have hw' : ws.length <= 100 * i + 2 * j + 1 := by omega
        have wk' : WOk n ws := wk
        revert hw' wk'
        generalize ws = ws'
        intro hw' wk'
      all_goals
        refine ite2 (fun hf => ?_) (fun hf => ?_)
        · refine ⟨_, _, rfl, .inr rfl, fun q1 _ _ s1 _ => ?_⟩
          trivial
          rw [A9w]
          have s4 : Sm 6 (4 * n) := L6 (B := 40) (by omega) (by omega) (by decide)
          have s5 := V9 s4
          refine ⟨⟨L6 (B := 4) (by omega) (by omega) (by decide), L6 (B := 40) (by omega) (by omega) (by decide)⟩, q1, _, rfl, ⟨s1.1.mono (by decide), s1.2.mono (by decide)⟩, ⟨s5.1.mono (by decide), s5.2.mono (by decide)⟩, ?_⟩
          have s6 := s1.add s5
          trivial
          refine D3 ei ?_
          trivial
          refine D3 ej ?_
          trivial
          refine ⟨0, _, rfl, smq0, ⟨s6.1.mono (by decide), s6.2.mono (by decide)⟩, ?_⟩
          trivial
          refine ⟨by omega, ws' ++ [(oi, oj, 0 - (q1 + ((4 * n : Int) : Rat)))], _, _, by rw [List.map_append]; rfl, by rw [List.length_append, List.length_singleton]; omega, wk'.snoc ⟨hoi, hoj, (On.zero.sub E6 ((M0 s1).add E6 (B35 (k := 40) E6 (by omega)))).mono (Nat.le_of_ble_eq_true rfl)⟩⟩
        · exact ⟨ws', _, _, rfl, by omega, wk'⟩
    · rintro e ⟨ws, o2, o3, rfl, hw, wk⟩
      exact ⟨ws, _, _, _, rfl, by simp at hw; omega, wk⟩
  · rintro e ⟨ws, o1, o2, o3, rfl, hw, wk⟩
    trivial
    have e1 : cutD (ws.map wD) none (some 40) = (ws.take 40).map wD := by
      unfold cutD
      rw [HT.sIx_none, show (some (40 : Int)) = some ((40 : Nat) : Int) from rfl, HT.sIx_nat, List.drop_zero, List.length_map, Nat.sub_zero, List.map_take]
      by_cases h : 40 <= ws.length
      · rw [Nat.min_eq_left h]
      · rw [Nat.min_eq_right (by omega), List.take_of_length_le (by rw [List.length_map]; exact Nat.le_refl _), List.take_of_length_le (by rw [List.length_map]; omega)]
    rw [e1]
    exact k _ (by rw [List.length_take]; omega) fun w hw => wk w (List.mem_of_mem_take hw)
def A57 : Pu.PSp := fun as Q => ∃ (n : Int) (late : Rat), as = [.st, .d (.int n), .d (.bool false), .d (dq late)] /\ 1 <= n /\ n <= 10 /\ On LL (2 ^ 49) late /\ ∀ hs, hs.length <= 4 -> HOk n hs -> Q (.own (hs.map hD))
theorem A7j (T : Txt K mg D) : FnOk P w K mg base CX0 4 D.a_Lholds D.d_Lholds ["_law_state", "_law_many", "_law_plain", "_law_late"] (Pu.spOf K [.st, .dat, .dat, .dat] A57) := by
  refine T.F_Lholds.ok sc_Lholds (Pu.spOf.len rfl) (fun cdv A outer s H vs Q E hr h => ?_)
  refine ⟨_, (QSs.out (A6 (B3 (i := 4) sc_Lholds.nd rfl (Or.inl rfl) (D6 A3))
      (A6 (G6 PassesOwn.never rfl (F6 rfl T.z_range (A0 (B2 (A8 (K := K) rfl) (D6 (A0 A4 (A0 A4 (A0 A4 (A0 A4 (A0 A4 A3)))))) (A7 (C0 (K := K) T) hr.mo rfl T.m_Ltake T.F_Ltake.kp (C7 T) .nil B4 (A0 (qpv 0) (A0 A4 A3))) (fun _ _ => rfl)) A3)) (B5 (i := 5) sc_Lholds.nd rfl (Or.inl rfl) (Or.inl rfl))
        (A6 (B3 (i := 6) sc_Lholds.nd rfl (Or.inl rfl) (B2 (A8 (K := K) rfl) (D6 (A0 D1 (A0 D1 (A0 D1 (A0 D1 A3))))) (A7 (C0 (K := K) T) hr.mo rfl T.m_Ltake T.F_Ltake.kp (C7 T) .nil B4 (A0 (qpv 0) (A0 A4 A3))) (fun _ _ => rfl)))
        (A6 (B3 (i := 7) sc_Lholds.nd rfl (Or.inl rfl) (A7 (A1n (K := K) T) hr.mo rfl T.m_Llag T.F_Llag.kp (B0h T) .nil B4 (A0 (qpv 0) (A0 (qpv 2) A3))))
        (A6 (D9 (QW.pt (W2 (B9 (R7 (K := K) rfl hr.units) (qpv 6) D1 (C6 _)) (Q0 (B9 A4i (A7 (C0 (K := K) T) hr.mo rfl T.m_Ltake T.F_Ltake.kp (C7 T) .nil B4 (A0 (qpv 0) (A0 A4 A3))) A4 (C6 _)))))
          (B1 (B3 (i := 7) sc_Lholds.nd rfl (Or.inl rfl) (A7 (G5 (K := K) T) hr.mo rfl T.m_Lplus T.F_Lplus.kp (J4 T) .nil B4 (A0 (qpv 7) (A0 (qpv 3) A3)))))
          C3)
        (B1 (J8 (K2 (K := K) rfl PySem.F.plainAttrs_list PySem.F.slot_list_append PySem.F.type_list_append F4 (qpv 4) (A0 (C5 (A0 (qpv 6) (A0 (A7 (C0 (K := K) T) hr.mo rfl T.m_Ltake T.F_Ltake.kp (C7 T) .nil B4 (A0 (qpv 0) (A0 (qpv 1) A3))) (A0 (qpv 7) A3)))) A3))))))))
      (B1 (B6 (qpv 4)))))), ?_⟩
  haveI := T.c2_NOUGHT
  refine Pu.E9 h ?_
  rintro as Qp ⟨n, late, rfl, n0, n1, sl, k⟩
  trivial
  refine ⟨5, rfl, by decide, sm4 5, fun d d0 d5 => ?_⟩
  trivial
  obtain ⟨z, hz, ez⟩ := B1t (xs := [0, 0, 1, 2, 4]) d0 d5
  have hbz : 0 <= z /\ z <= 4 := by simp at hz; omega
  refine D3 ez ?_
  trivial
  refine ⟨⟨by omega, by omega⟩, S6 (fun i e => ∃ (hs : List (Str × Int × Rat)) (o1 o2 o3 : Option SV), e = [some .st, some (.d (.int n)), some (.d (.bool false)), some (.d (dq late)), some (.own (hs.map hD)), o1, o2, o3] /\ hs.length = i /\ HOk n hs) ⟨[], _, _, _, rfl, rfl, fun _ z => nomatch z⟩ ?_ ?_⟩
  · rintro i e hi ⟨hs, o1, o2, o3, rfl, hw, wk⟩
    trivial
    refine ⟨4, rfl, by decide, sm4 4, fun g g0 g4 => ?_⟩
    trivial
    obtain ⟨kd, hk, ek⟩ := C11 g0 g4
    refine D3 ek ?_
    trivial
    refine ⟨rfl, fun q sq => ?_⟩
    trivial
    refine ⟨hk.lay, B92, ?_⟩
    have sn : Sm 4000 n := L6 (B := 10) (by omega) (by omega) (by decide)
    have s1 : On LL (2 ^ 55) q := sq.p2 (by decide)
    have s2 : On LL (2 ^ 55) (q + late) := (sq.p2 (b := 49) (by decide)).add2 E6 sl (by decide)
    refine ite2 (fun he => ?_) (fun he => ?_)
    · refine ⟨4, rfl, by decide, sm4 4, fun f f0 f4 => ?_⟩
      trivial
      refine ite2 (fun hf => ?_) (fun hf => ?_)
      · refine ⟨q, late, rfl, onL sq (by decide), onL sl (by decide), ?_⟩
        trivial
        refine ⟨n, rfl, by omega, sn, fun w w0 w1 => ?_⟩
        trivial
        exact ⟨by omega, hs ++ [(kd, w, q + late)], _, _, _, by rw [List.map_append]; rfl, by rw [List.length_append, List.length_singleton]; omega, wk.snoc ⟨hk, ⟨w0, w1⟩, s2⟩⟩
      · refine ⟨n, rfl, by omega, sn, fun w w0 w1 => ?_⟩
        trivial
        exact ⟨by omega, hs ++ [(kd, w, q)], _, _, _, by rw [List.map_append]; rfl, by rw [List.length_append, List.length_singleton]; omega, wk.snoc ⟨hk, ⟨w0, w1⟩, s1⟩⟩
    · refine ⟨n, rfl, by omega, sn, fun w w0 w1 => ?_⟩
      trivial
      exact ⟨by omega, hs ++ [(kd, w, q)], _, _, _, by rw [List.map_append]; rfl, by rw [List.length_append, List.length_singleton]; omega, wk.snoc ⟨hk, ⟨w0, w1⟩, s1⟩⟩
  · rintro e ⟨hs, o1, o2, o3, rfl, hw, wk⟩
    trivial
    exact k hs (by omega) wk
def A4f : Pu.PSp := fun as Q => ∃ (xs : List Wk), as = [.st, .bor (xs.map kD)] /\ 1 <= xs.length /\ xs.length <= 10 /\ (∀ x ∈ xs, Kd x.2.1) /\ ∀ gs : List (List Int), gs.length <= 4 -> (∀ g ∈ gs, GrOk xs g) -> Q (.own (gs.map gD))
theorem A4n (T : Txt K mg D) : FnOk P w K mg base CX0 3 D.a_Lgroups D.d_Lgroups ["_law_state", "_law_works"] (Pu.spOf K [.st, .vw] A4f) := by
  refine T.F_Lgroups.ok sc_Lgroups (Pu.spOf.len rfl) (fun cdv A outer s H vs Q E hr h => ?_)
  refine ⟨_, (QSs.out (A6 (G9 (i := 2) rfl sc_Lgroups.nd rfl rfl (D7 (N' := ["_law_works", "_law_at"]) (cap := [some 1, none]) rfl rfl rfl rfl (by decide +kernel) rfl rfl) (F1 (K := K) rfl (A7 (A0a (K := K) T) hr.mo rfl T.m_Lorder T.F_Lorder.kp (A3z T) .nil B4 (A0 (qpv 0) (A0 (B7 (C4 (K := K) rfl) (by rfl) T.z_len PySem.boot_len (A0 (qpv 1) A3)) A3)))) (fun _ _ _ => (B5 (i := 1) (show (["_law_works", "_law_at"] : List Str).Nodup from by decide +kernel) rfl (Or.inl rfl) (Or.inr rfl))) (fun _ _ _ => (Q1 (B9 (D4 (K := K) rfl hr.units) (B2 (A8 (K := K) rfl) (B2 (A8 (K := K) rfl) (B2 (A8 (K := K) rfl) (qpv 0) (qpv 1) (fun _ _ => rfl)) A4 (fun _ _ => rfl)) A4 (fun _ _ => rfl)) D1 (C6 _)))) (fun _ _ _ => (qpv 1)) rfl)
      (A6 (B3 (i := 3) sc_Lgroups.nd rfl (Or.inl rfl) (D6 A3))
      (A6 (N5 PassesOwn.never (QW.pt (W2 (B9 A4i (B7 (C4 (K := K) rfl) (by rfl) T.z_len PySem.boot_len (A0 (qpv 2) A3)) A4 (C6 _)) (Q0 (B9 B1h (B7 (C4 (K := K) rfl) (by rfl) T.z_len PySem.boot_len (A0 (qpv 3) A3)) A4 (C6 _)))))
        (A6 (B3 (i := 4) sc_Lgroups.nd rfl (Or.inr rfl) (B7 (C4 (K := K) rfl) (by rfl) T.z_len PySem.boot_len (A0 (B2 (A8 (K := K) rfl) (B2 (A8 (K := K) rfl) (B2 (A8 (K := K) rfl) (qpv 1) (B2 (A8 (K := K) rfl) (qpv 2) A4 (fun _ _ => rfl)) (fun _ _ => rfl)) A4 (fun _ _ => rfl)) A4 (fun _ _ => rfl)) A3)))
        (A6 (B3 (i := 5) sc_Lgroups.nd rfl (Or.inr rfl) (L9 (N2 (K := K) rfl) (K5 rfl (D7 (N' := ["_law_size", "_law_works", "_law_at"]) (cap := [some 4, some 1, none]) rfl rfl rfl rfl (by decide +kernel) rfl rfl) (F1 (K := K) rfl (qpv 2)) (fun _ _ _ => (B5 (i := 2) (show (["_law_size", "_law_works", "_law_at"] : List Str).Nodup from by decide +kernel) rfl (Or.inl rfl) (Or.inr rfl))) (fun _ _ _ => (Q1 (B9 (D4 (K := K) rfl hr.units) (B7 (C4 (K := K) rfl) (by rfl) T.z_len PySem.boot_len (A0 (B2 (A8 (K := K) rfl) (B2 (A8 (K := K) rfl) (B2 (A8 (K := K) rfl) (qpv 1) (qpv 2) (fun _ _ => rfl)) A4 (fun _ _ => rfl)) A4 (fun _ _ => rfl)) A3)) (qpv 0) (C6 _)))) (fun _ _ _ => (qpv 2))) N7 (N6 (B8 F0 A4 (A7 (C0 (K := K) T) hr.mo rfl T.m_Ltake T.F_Ltake.kp (C7 T) .nil B4 (A0 (qpv 0) (A0 A4 A3)))))))
        (A6 (G9 (i := 2) rfl sc_Lgroups.nd rfl rfl (D7 (N' := ["_law_alike_here", "_law_at"]) (cap := [some 5, none]) rfl rfl rfl rfl (by decide +kernel) rfl rfl) (F1 (K := K) rfl (L9 (N2 (K := K) rfl) (qpv 2) (N6 A4) N7)) (fun _ _ _ => (B5 (i := 1) (show (["_law_alike_here", "_law_at"] : List Str).Nodup from by decide +kernel) rfl (Or.inl rfl) (Or.inr rfl))) (fun _ _ _ => (Q1 (B9 (A4h (K := K) rfl hr.units) (qpv 1) (qpv 0) (by with_unfolding_all rfl)))) (fun _ _ _ => (qpv 1)) rfl)
        (B1 (D9 (QW.pt (W2 (B9 A4i (B7 (C4 (K := K) rfl) (by rfl) T.z_len PySem.boot_len (A0 (qpv 5) A3)) A4 (C6 _)) (Q0 (B9 (D4 (K := K) rfl hr.units) (A7 (C0 (K := K) T) hr.mo rfl T.m_Ltake T.F_Ltake.kp (C7 T) .nil B4 (A0 (qpv 0) (A0 A4 A3))) A4 (C6 _)))))
          (B1 (J8 (K2 (K := K) rfl PySem.F.plainAttrs_list PySem.F.slot_list_append PySem.F.type_list_append F4 (qpv 3) (A0 (qpv 5) A3))))
          C3))))))
      (B1 (B6 (qpv 3))))))), ?_⟩
  haveI := T.c2_NOUGHT
  refine Pu.E9 h ?_
  rintro as Qp ⟨xs, rfl, x0, x1, hk, k⟩
  trivial
  refine ⟨(xs.length : Int), by simp, by omega, by omega, fun os ho hos => ?_⟩
  trivial
  refine ⟨by omega, ⟨fun i e ys => ∃ (o : Option SV) (ls : List Int), e = [some (.bor (xs.map kD)), o] /\ ys = ls.map .int /\ ls.length <= i /\ ∀ o ∈ ls, (0 <= o /\ o < (xs.length : Int)) /\ (wat xs o).2.1 = "steps", ⟨_, [], rfl, rfl, by simp, fun _ z => nomatch z⟩, ?_, ?_⟩⟩
  · rintro i x e ys hx ⟨o, ls, rfl, rfl, hl, hr⟩
    rw [List.getElem?_map] at hx
    obtain ⟨b, hb, rfl⟩ := Option.map_eq_some_iff.mp hx
    obtain ⟨b0, b1⟩ := hos b (List.mem_of_getElem? hb)
    have hy := B5b b0 b1
    trivial
    refine D3 (A42 b0 b1) ?_
    trivial
    refine ⟨(hk _ hy).lay, A0e, ?_⟩
    refine ite2 (fun h => ⟨_, ls ++ [b], rfl, by rw [List.map_append]; rfl, by rw [List.length_append, List.length_singleton]; omega, fun z hz => ?_⟩) (fun h => ⟨_, ls, rfl, rfl, by omega, hr⟩)
    rcases List.mem_append.mp hz with q | q
    · exact hr z q
    · rw [List.mem_singleton.mp q]; rw [B15, decide_eq_true_eq] at h; exact ⟨⟨b0, b1⟩, h⟩
  · rintro e ys ⟨o, ls, rfl, rfl, hl, hr⟩
    rw [List.length_map] at hl
    trivial
    refine ⟨fun m e => ∃ (ls : List Int) (gs : List (List Int)) (o1 o2 : Option SV), e = [some .st, some (.bor (xs.map kD)), some (.own (ls.map .int)), some (.own (gs.map gD)), o1, o2] /\ m = ls.length /\ ls.length <= 10 /\ (gs.length <= 4 /\ ∀ g ∈ gs, GrOk xs g) /\ ∀ o ∈ ls, (0 <= o /\ o < (xs.length : Int)) /\ (wat xs o).2.1 = "steps", ⟨_, ls, [], _, _, rfl, rfl, by omega, ⟨by simp, fun _ z => nomatch z⟩, hr⟩, ?_⟩
    rintro m e ⟨ls, gs, o1, o2, rfl, rfl, hl, ⟨hg, gk⟩, hr⟩
    trivial
    refine ite2 (fun h1 => ite2 (fun h2 => ?_) (fun _ => k gs hg gk)) (fun _ => k gs hg gk)
    obtain ⟨a, r, rfl⟩ : ∃ a r, ls = a :: r := by
      cases ls with
      | nil => simp at h1
      | cons a r => exact ⟨a, r, rfl⟩
    have ey' := A42 (hr a (List.mem_cons_self ..)).1.1 (hr a (List.mem_cons_self ..)).1.2
    obtain ⟨y, hy⟩ : ∃ y, y = wat xs a := ⟨_, rfl⟩
    rw [<- hy] at ey'
    have e0 : L2.atI ((a :: r).map PyData.int) ((0 : Nat) : Int) = some (.int a) := F5 rfl
    refine D3 e0 ?_
    trivial
    refine D3 ey' ?_
    trivial
    rw [List.length_cons] at hl
    refine ⟨by omega, ⟨fun i e ys => ∃ (o : Option SV) (ts : List Int), e = [some (.d (.int (y.2.2.length : Int))), some (.bor (xs.map kD)), o] /\ ys = ts.map .int /\ ts.length <= i /\ ∀ b ∈ ts, b ∈ a :: r /\ (wat xs b).2.2.length = y.2.2.length, ⟨_, [], rfl, rfl, by simp, fun _ z => nomatch z⟩, ?_, ?_⟩⟩
    · rintro i x e ys hx ⟨o, ts, rfl, rfl, ht, htm⟩
      have hx' : ((a :: r).map PyData.int)[i]? = some x := hx
      rw [List.getElem?_map] at hx'
      obtain ⟨b, hb, rfl⟩ := Option.map_eq_some_iff.mp hx'
      obtain ⟨⟨b0, b1⟩, b2⟩ := hr b (List.mem_of_getElem? hb)
      trivial
      refine D3 (A42 b0 b1) ?_
      trivial
      refine ite2 (fun h => ⟨_, ts ++ [b], rfl, by rw [List.map_append]; rfl, by rw [List.length_append, List.length_singleton]; omega, fun z hz => ?_⟩) (fun h => ⟨_, ts, rfl, rfl, by omega, htm⟩)
      rcases List.mem_append.mp hz with q | q
      · exact htm z q
      · rw [List.mem_singleton.mp q]; exact ⟨List.mem_of_getElem? hb, by omega⟩
    · rintro e ys ⟨o, ts, rfl, rfl, ht, htm⟩
      have ht' : ts.length <= 10 := by
        have h := ht
        rw [List.length_cons, List.length_map] at h
        omega
      trivial
      refine ⟨2, rfl, by decide, sm4 2, fun d d0 d2 => ?_⟩
      trivial
      rw [show cutD (PyData.int a :: r.map PyData.int) (some 1) none = r.map PyData.int from A0r (f := PyData.int) (xs := a :: r)]
      obtain ⟨al, eal, hsub, hal⟩ := B7j (f := PyData.int) (xs := ts) none (some (2 + d))
      rw [eal]
      refine ⟨by rw [List.length_map]; omega, ⟨fun i e ys => ∃ (o : Option SV) (us : List Int), e = [some (.bor (al.map .int)), o] /\ ys = us.map .int /\ us.length <= i /\ ∀ o ∈ us, (0 <= o /\ o < (xs.length : Int)) /\ (wat xs o).2.1 = "steps", ⟨_, [], rfl, rfl, by simp, fun _ z => nomatch z⟩, ?_, ?_⟩⟩
      · rintro i x e ys hx ⟨o, us, rfl, rfl, hu, hur⟩
        rw [List.getElem?_map] at hx
        obtain ⟨b, hb, rfl⟩ := Option.map_eq_some_iff.mp hx
        have hbr := hr b (List.mem_cons_of_mem _ (List.mem_of_getElem? hb))
        trivial
        refine ⟨X2 al, ?_⟩
        refine ite2 (fun h => ⟨_, us ++ [b], rfl, by rw [List.map_append]; rfl, by rw [List.length_append, List.length_singleton]; omega, fun z hz => ?_⟩) (fun h => ⟨_, us, rfl, rfl, by omega, hur⟩)
        rcases List.mem_append.mp hz with q | q
        · exact hur z q
        · rw [List.mem_singleton.mp q]; exact hbr
      · rintro e ys ⟨o, us, rfl, rfl, hu, hur⟩
        rw [List.length_map] at hu
        trivial
        have fin : ∀ gs' : List (List Int), gs'.length <= 4 -> (∀ g ∈ gs', GrOk xs g) -> ∃ m', m' < r.length + 1 /\ ∃ (ls : List Int) (gs_1 : List (List Int)) (o1 o2 : Option SV), [some SV.st, some (SV.bor (List.map kD xs)), some (SV.own (List.map PyData.int us)), some (SV.own (gs'.map gD)), some (SV.d (PyData.int y.2.2.length)), some (SV.own (List.map PyData.int al))] = [some SV.st, some (SV.bor (List.map kD xs)), some (SV.own (List.map PyData.int ls)), some (SV.own (gs_1.map gD)), o1, o2] /\ m' = ls.length /\ ls.length <= 10 /\ (gs_1.length <= 4 /\ ∀ g ∈ gs_1, GrOk xs g) /\ ∀ o ∈ ls, (0 <= o /\ o < (xs.length : Int)) /\ (wat xs o).2.1 = "steps" := fun gs' h h' => ⟨_, by omega, us, gs', _, _, rfl, rfl, by omega, ⟨h, h'⟩, hur⟩
        refine ite2 (fun h3 => ?_) (fun h3 => fin gs hg gk)
        refine ⟨2, rfl, by decide, sm4 2, fun f f0 f2 => ?_⟩
        trivial
        refine ite2 (fun h4 => ?_) (fun h4 => fin gs hg gk)
        have gal : GrOk xs al := ⟨by omega, by omega, fun w hw => (hr w (htm w (hsub w hw)).1).1, fun w hw => (hr w (htm w (hsub w hw)).1).2, fun w hw v hv => by rw [(htm w (hsub w hw)).2, (htm v (hsub v hv)).2]⟩
        refine ⟨by omega, _, by omega, us, gs ++ [al], _, _, by rw [List.map_append]; rfl, rfl, by omega, ⟨by rw [List.length_append, List.length_singleton]; omega, fun g hg' => ?_⟩, hur⟩
        rcases List.mem_append.mp hg' with q | q
        · exact gk g q
        · rw [List.mem_singleton.mp q]; exact gal
def B52 : Pu.PSp := fun as Q => ∃ (ns : List Int) (at_ : Int) (kz : List Str) (mw mc : Int), as = [.bor (ns.map .int), .d (.int at_), .d (.int mw), .d (.int mc), .d (.list (kz.map .str)), .d (.bool false)] /\ 0 <= at_ /\ at_ <= 50 /\ 1 <= kz.length /\ kz.length <= 3 /\ (∀ z ∈ kz, Kd z) /\ (1 <= mw /\ mw <= 10) /\ (1 <= mc /\ mc <= 5) /\ ∀ n xs ws hs gs, NetG n xs ws hs gs -> n <= mw -> hs.length <= 4 -> (∀ x ∈ xs, x.2.1 ∈ kz /\ x.2.2.length <= mc.toNat) -> Q (.d (netD xs ws hs (gs.map gD)))
theorem B61 (T : Txt K mg D) : FnOk P w K mg base CX0 5 D.a_Lnet D.d_Lnet ["_law_script", "_law_at", "_law_most", "_law_corners", "_law_kinds", "_law_plain"] (Pu.spOf K [.vw, .dat, .dat, .dat, .dat, .dat] B52) := by
  refine T.F_Lnet.ok sc_Lnet (Pu.spOf.len rfl) (fun cdv A outer s H vs Q E hr h => ?_)
  refine ⟨_, (QSs.out (A6 (B3 (i := 6) sc_Lnet.nd rfl (Or.inl rfl) (A7 (M1 (K := K) T) hr.mo rfl T.m_Lbegun T.F_Lbegun.kp (O3 T) .nil B4 (A0 (qpv 0) (A0 (qpv 1) A3))))
      (A6 (B3 (i := 7) sc_Lnet.nd rfl (Or.inl rfl) (B8 F0 A4 (A7 (C0 (K := K) T) hr.mo rfl T.m_Ltake T.F_Ltake.kp (C7 T) .nil B4 (A0 (qpv 6) (A0 (qpv 2) A3)))))
      (A6 (B3 (i := 8) sc_Lnet.nd rfl (Or.inl rfl) (A7 (A7i (K := K) T) hr.mo rfl T.m_Lnames T.F_Lnames.kp (B2l T) .nil B4 (A0 (qpv 6) (A0 (qpv 7) A3))))
      (A6 (B3 (i := 6) sc_Lnet.nd rfl (Or.inl rfl) (A7 (M1 (K := K) T) hr.mo rfl T.m_Lbegun T.F_Lbegun.kp (O3 T) .nil B4 (A0 (qpv 0) (A0 (B8 F0 (qpv 1) A4) A3))))
      (A6 (B3 (i := 9) sc_Lnet.nd rfl (Or.inl rfl) (D6 A3))
      (A6 (B3 (i := 10) sc_Lnet.nd rfl (Or.inl rfl) (C5 (A0 A4 (A0 A4 A3))))
      (A6 (G6 PassesOwn.never rfl (F1 (K := K) rfl (qpv 8)) (B5 (i := 11) sc_Lnet.nd rfl (Or.inl rfl) (Or.inl rfl))
        (A6 (B3 (i := 12) sc_Lnet.nd rfl (Or.inl rfl) (A7 (A7h (K := K) T) hr.mo rfl T.m_Loffer T.F_Loffer.kp (B2k T) .nil B4 (A0 (qpv 6) (A0 (B2 (A8 (K := K) rfl) (qpv 4) (A7 (C0 (K := K) T) hr.mo rfl T.m_Ltake T.F_Ltake.kp (C7 T) .nil B4 (A0 (qpv 6) (A0 (B7 (C4 (K := K) rfl) (by rfl) T.z_len PySem.boot_len (A0 (qpv 4) A3)) A3))) (fun _ _ => rfl)) (A0 (qpv 3) (A0 (qpv 5) A3))))))
        (A6 (B3 (i := 10) sc_Lnet.nd rfl (Or.inl rfl) (A7 (G5 (K := K) T) hr.mo rfl T.m_Lplus T.F_Lplus.kp (J4 T) .nil B4 (A0 (qpv 10) (A0 (B2 (A8 (K := K) rfl) (B2 (A8 (K := K) rfl) (B2 (A8 (K := K) rfl) (qpv 12) A4 (fun _ _ => rfl)) A4 (fun _ _ => rfl)) A4 (fun _ _ => rfl)) A3))))
        (B1 (J8 (K2 (K := K) rfl PySem.F.plainAttrs_list PySem.F.slot_list_append PySem.F.type_list_append F4 (qpv 9) (A0 (C5 (A0 (qpv 11) (A0 (qpv 12) A3))) A3)))))))
      (A6 (B3 (i := 6) sc_Lnet.nd rfl (Or.inl rfl) (A7 (M1 (K := K) T) hr.mo rfl T.m_Lbegun T.F_Lbegun.kp (O3 T) .nil B4 (A0 (qpv 0) (A0 (B8 F0 (qpv 1) A4) A3))))
      (A6 (B3 (i := 13) sc_Lnet.nd rfl (Or.inl rfl) (A7 (A7e (K := K) T) hr.mo rfl T.m_Lwaits T.F_Lwaits.kp (B2i T) .nil B4 (A0 (qpv 6) (A0 (qpv 7) (A0 (qpv 5) A3)))))
      (A6 (B3 (i := 6) sc_Lnet.nd rfl (Or.inl rfl) (A7 (M1 (K := K) T) hr.mo rfl T.m_Lbegun T.F_Lbegun.kp (O3 T) .nil B4 (A0 (qpv 0) (A0 (B8 F0 (qpv 1) A4) A3))))
      (A6 (B3 (i := 14) sc_Lnet.nd rfl (Or.inl rfl) (A7 (A7j (K := K) T) hr.mo rfl T.m_Lholds T.F_Lholds.kp (B2m T) .nil B4 (A0 (qpv 6) (A0 (qpv 7) (A0 (qpv 5) (A0 (qpv 10) A3))))))
      (B1 (B6 (C5 (A0 (qpv 9) (A0 (qpv 13) (A0 (qpv 14) (A0 (A7 (A4n (K := K) T) hr.mo rfl T.m_Lgroups T.F_Lgroups.kp (B0i T) .nil B4 (A0 (qpv 6) (A0 (qpv 9) A3))) A3))))))))))))))))))), ?_⟩
  haveI := T.c2_NOUGHT
  refine Pu.E9 h ?_
  rintro as Qp ⟨ns, at_, kz, mw, mc, rfl, a0, a1, k0, k1, hkz, ⟨w0, w1⟩, ⟨c0, c1⟩, k⟩
  trivial
  refine ⟨ns, at_, rfl, by omega, by omega, ?_⟩
  trivial
  refine ⟨mw, rfl, by omega, L6 (B := 10) (by omega) (by omega) (by decide), fun d d0 d6 => ?_⟩
  trivial
  refine ⟨1 + d, rfl, by omega, by omega, fun zs hz hzl => ?_⟩
  trivial
  refine ⟨ns, at_ + 1, rfl, by omega, by omega, ?_⟩
  trivial
  refine K8 (f := PyData.str) (xs := zs) (fun i e => ∃ (xs : List Wk) (late : Rat) (o1 o2 : Option SV), e = [some (SV.bor (List.map PyData.int ns)), some (SV.d (PyData.int at_)), some (SV.d (PyData.int mw)), some (SV.d (PyData.int mc)), some (SV.d (PyData.list (List.map PyData.str kz))), some (SV.d (PyData.bool false)), some SV.st, some (SV.d (PyData.int (1 + d))), some (SV.d (PyData.list (List.map PyData.str zs))), some (SV.own (xs.map kD)), some (SV.d (dq late)), o1, o2, none, none] /\ xs.length = i /\ On LL (i * 2 ^ 45) late /\ ∀ x ∈ xs, (Kd x.2.1 /\ OfG x.2.1 x.2.2 100 54 244 130 /\ OnC x.2.2) /\ x.2.1 ∈ kz /\ x.2.2.length <= mc.toNat /\ (PyData.str x.1).canLay0 = true /\ (x.2.1 = "straight" -> OnP x.2.2)) ⟨[], 0, _, _, rfl, rfl, On.zero.mono (Nat.zero_le _), fun _ z => nomatch z⟩ ?_ ?_
  · rintro i z e hzi ⟨xs, late, o1, o2, rfl, hx, sl, hxs⟩
    have hi : i < zs.length := (List.getElem?_eq_some_iff.mp hzi).1
    trivial
    refine ⟨(kz.length : Int), by simp, by omega, L6 (B := 3) (by omega) (by omega) (by decide), fun g g0 g1 => ?_⟩
    trivial
    obtain ⟨gj, rfl⟩ := Int.eq_ofNat_of_zero_le g0
    have hgj : gj < kz.length := by omega
    have eg : L2.atI (kz.map PyData.str) (gj : Int) = some (.str kz[gj]) := F5 (by rw [List.getElem?_map, List.getElem?_eq_getElem hgj]; rfl)
    refine D3 eg ?_
    trivial
    refine ⟨kz[gj], mc, rfl, by omega, by omega, hkz _ (List.getElem_mem hgj), fun cs og oc osl ol => ?_⟩
    have ok := og.ok
    trivial
    unfold offD
    trivial
    obtain ⟨c, hc, ec⟩ : ∃ c, c ∈ cs /\ L2.atI (cs.map dcn) ((0 : Nat) : Int) = some (dcn c) := by
      have h0 : 0 < cs.length := ok.ne
      exact ⟨cs[0], List.getElem_mem h0, F5 (by rw [List.getElem?_map, List.getElem?_eq_getElem h0]; rfl)⟩
    have sc := (oc c hc).1
    have i10 : i * 2 ^ 45 <= 2 ^ 49 := Nat.le_trans (Nat.mul_le_mul_right _ (show i <= 10 by omega)) (Nat.le_of_ble_eq_true rfl)
    refine D3 ec ?_
    trivial
    refine ⟨late, c.1, rfl, onL (sl.mono i10) (by decide), onL sc (by decide), ?_⟩
    trivial
    refine ⟨by omega, xs ++ [(z, kz[gj], cs)], _, _, _, by rw [List.map_append]; rfl, by rw [List.length_append, List.length_singleton]; omega, (sl.add E6 sc).mono (by rw [Nat.add_mul, Nat.one_mul]; exact Nat.le_refl _), fun x hx' => ?_⟩
    rcases List.mem_append.mp hx' with q | q
    · exact hxs x q
    · rw [List.mem_singleton.mp q]; exact ⟨⟨hkz _ (List.getElem_mem hgj), og, oc⟩, List.getElem_mem hgj, ol, hzl z (List.mem_of_getElem? hzi), osl⟩
  · rintro e ⟨xs, late, o1, o2, rfl, hx, sl, hxs⟩
    trivial
    refine ⟨ns, at_ + 2, rfl, by omega, by omega, ?_⟩
    trivial
    refine ⟨1 + d, rfl, by omega, by omega, fun ws hw wk => ?_⟩
    trivial
    refine ⟨ns, at_ + 3, rfl, by omega, by omega, ?_⟩
    trivial
    refine ⟨1 + d, late, rfl, by omega, by omega, sl.mono (Nat.le_trans (Nat.mul_le_mul_right _ (show _ <= 10 by omega)) (Nat.le_of_ble_eq_true rfl)), fun hs hh hhk => ?_⟩
    trivial
    refine ⟨xs, rfl, by omega, by omega, fun x hx' => (hxs x hx').1.1, fun gs gl gk => ?_⟩
    trivial
    exact k (1 + d) xs ws hs gs ⟨by omega, by omega, by omega, fun x hx' => (hxs x hx').1, hw, wk, by omega, hhk, gl, gk, fun x hx' => (hxs x hx').2.2.2.1, fun x hx' => (hxs x hx').2.2.2.2⟩ (by omega) hh (fun x hx' => ⟨(hxs x hx').2.1, (hxs x hx').2.2.1⟩)
theorem S2 (T : Txt K mg D) : ∀ n : Nat, FnOk P w K mg base CX0 (n + 1) D.a_Lalike D.d_Lalike ["_law_found", "_law_due"] (Pu.spOf K [.dat, .dat] (Pu.A2g n)) := by
  have step : ∀ (n : Nat) (psI : Pu.PSp), FnOk P w K mg base CX0 n D.a_Lalike D.d_Lalike ["_law_found", "_law_due"] (Pu.spOf K [.dat, .dat] psI) -> (∀ xs, (okA n (.list xs) \/ okA n (.tuple xs)) -> xs.length < 1000 /\ ∀ x ∈ xs, ∀ Q : SV -> Prop, Q (.d (.bool true)) -> psI [.d x, .d x] Q) ->
      FnOk P w K mg base CX0 (n + 1) D.a_Lalike D.d_Lalike ["_law_found", "_law_due"] (Pu.spOf K [.dat, .dat] (Pu.A2g n)) := by
    intro n psI IH hI
    refine T.F_Lalike.ok sc_Lalike (Pu.spOf.len rfl) (fun cdv A outer s H vs Q E hr h => ?_)
    refine ⟨_, (QSs.out (A6 (D9 (F8 (B7 (V0 (K := K) rfl) (by rfl) T.z_isinstance (by rfl) (A0 (qpv 1) (A0 (C5 (A0 (G2 (v := .ty "list") rfl T.z_list (by rfl) rfl) (A0 (G2 (v := .ty "tuple") rfl T.z_tuple (by rfl) rfl) A3))) A3))))
        (A6 (D9 (QW.pt (Z1 (M5 (F8 (B7 (V0 (K := K) rfl) (by rfl) T.z_isinstance (by rfl) (A0 (qpv 0) (A0 (C5 (A0 (G2 (v := .ty "list") rfl T.z_list (by rfl) rfl) (A0 (G2 (v := .ty "tuple") rfl T.z_tuple (by rfl) rfl) A3))) A3))))) (W1 (B9 (R7 (K := K) rfl hr.units) (B7 (J3 (K := K) rfl) (by rfl) T.z_isinstance (by rfl) (A0 (qpv 0) (A0 (G2 (v := .ty "list") rfl T.z_list (by rfl) rfl) A3))) (B7 (J3 (K := K) rfl) (by rfl) T.z_isinstance (by rfl) (A0 (qpv 1) (A0 (G2 (v := .ty "list") rfl T.z_list (by rfl) rfl) A3))) (C6 _)))))
          (B1 (B6 N8))
          C3)
        (B1 (B6 (O7 (J1 (D4 (K := K) rfl hr.units) (B7 (C4 (K := K) rfl) (by rfl) T.z_len PySem.boot_len (A0 (qpv 0) A3)) (B7 (C4 (K := K) rfl) (by rfl) T.z_len PySem.boot_len (A0 (qpv 1) A3)) (C6 _)) (R4 (B7 (B0b (K := K) rfl) (by rfl) T.z_all (by rfl) (A0 (K5 rfl (D7 (N' := ["_law_one", "_law_other"]) (cap := [none, none]) rfl rfl rfl rfl (by decide +kernel) rfl rfl) (B57 (K := K) rfl rfl T.z_zip (A0 (qpv 0) (A0 (qpv 1) A3))) (fun _ _ _ => (G1 (K := K) (n := 2) rfl rfl (C2 (B5 (i := 0) (show (["_law_one", "_law_other"] : List Str).Nodup from by decide +kernel) rfl (Or.inl rfl) (Or.inr rfl)) (C2 (B5 (i := 1) (show (["_law_one", "_law_other"] : List Str).Nodup from by decide +kernel) rfl (Or.inl rfl) (Or.inr rfl)) G0)) rfl rfl)) (fun _ _ _ => G8) (fun _ _ _ => (A7 IH hr.mo rfl T.m_Lalike T.F_Lalike.kp (Q6 T) .nil B4 (A0 (qpv 0) (A0 (qpv 1) A3))))) A3)))))))
        C3)
      (A6 (D9 (F8 (B7 (J3 (K := K) rfl) (by rfl) T.z_isinstance (by rfl) (A0 (qpv 1) (A0 (G2 (v := .ty "str") rfl T.z_str (by rfl) rfl) A3))))
        (B1 (B6 (O7 (B7 (J3 (K := K) rfl) (by rfl) T.z_isinstance (by rfl) (A0 (qpv 0) (A0 (G2 (v := .ty "str") rfl T.z_str (by rfl) rfl) A3))) (R4 (J1 (D4 (K := K) rfl hr.units) (qpv 0) (qpv 1) (C6 _))))))
        C3)
      (A6 (D9 (B9 A1l (qpv 1) M7 (C6 _))
        (B1 (B6 (J1 A1l (qpv 0) M7 (C6 _))))
        C3)
      (A6 (D9 (F8 (B7 (J3 (K := K) rfl) (by rfl) T.z_isinstance (by rfl) (A0 (qpv 1) (A0 (G2 (v := .ty "bool") rfl T.z_bool (by rfl) rfl) A3))))
        (B1 (B6 (O7 (B7 (J3 (K := K) rfl) (by rfl) T.z_isinstance (by rfl) (A0 (qpv 0) (A0 (G2 (v := .ty "bool") rfl T.z_bool (by rfl) rfl) A3))) (R4 (J1 (D4 (K := K) rfl hr.units) (qpv 0) (qpv 1) (C6 _))))))
        C3)
      (B1 (B6 (O7 (B7 (J3 (K := K) rfl) (by rfl) T.z_isinstance (by rfl) (A0 (qpv 0) (A0 (G2 (v := .ty "int") rfl T.z_int (by rfl) rfl) A3))) (O7 (A1i (B7 (J3 (K := K) rfl) (by rfl) T.z_isinstance (by rfl) (A0 (qpv 0) (A0 (G2 (v := .ty "bool") rfl T.z_bool (by rfl) rfl) A3)))) (R4 (J1 (D4 (K := K) rfl hr.units) (qpv 0) (qpv 1) (C6 _)))))))))))), ?_⟩
    refine Pu.E9 h ?_
    rintro as Qp ⟨x, rfl, ox, k⟩
    cases x with
    | none =>
      trivial
      exact k
    | bool b =>
      trivial
      exact k
    | int i =>
      trivial
      exact k
    | str t =>
      have oy : (PyData.str t).canLay0 = true := by cases n <;> exact ox
      trivial
      exact ⟨oy, oy, k⟩
    | dict kvs => unfold okA at ox; exact ox.elim
    | list xs =>
      obtain ⟨hl, hx⟩ := hI xs (.inl ox)
      trivial
      refine ⟨by rw [P9]; omega, ⟨fun i e ys => ∃ o1 o2 : Option SV, e = [o1, o2] /\ ys = List.replicate i (.bool true), ⟨none, none, rfl, rfl⟩, ?_, ?_⟩⟩
      · rintro i x e ys hxi ⟨o1, o2, rfl, rfl⟩
        obtain ⟨a, ha, rfl⟩ := Y0 hxi
        trivial
        refine hx a (List.mem_of_getElem? ha) _ ?_
        trivial
        exact ⟨_, _, rfl, (List.replicate_succ' ..).symm⟩
      · rintro e ys ⟨o1, o2, rfl, rfl⟩
        trivial
        exact ⟨_, A3v _, by rw [A31]; exact k⟩
    | tuple xs =>
      obtain ⟨hl, hx⟩ := hI xs (.inr ox)
      trivial
      refine ⟨by rw [P9]; omega, ⟨fun i e ys => ∃ o1 o2 : Option SV, e = [o1, o2] /\ ys = List.replicate i (.bool true), ⟨none, none, rfl, rfl⟩, ?_, ?_⟩⟩
      · rintro i x e ys hxi ⟨o1, o2, rfl, rfl⟩
        obtain ⟨a, ha, rfl⟩ := Y0 hxi
        trivial
        refine hx a (List.mem_of_getElem? ha) _ ?_
        trivial
        exact ⟨_, _, rfl, (List.replicate_succ' ..).symm⟩
      · rintro e ys ⟨o1, o2, rfl, rfl⟩
        trivial
        exact ⟨_, A3v _, by rw [A31]; exact k⟩
  intro n
  induction n with
  | zero => exact step 0 _ (B12 rfl) fun xs h => by rcases h with h | h <;> (unfold okA at h; exact h.elim)
  | succ n ih =>
    refine step (n + 1) _ ih fun xs h => ?_
    have h' : xs.length < 1000 /\ ∀ x ∈ xs, okA n x := by rcases h with h | h <;> (unfold okA at h; exact h)
    exact ⟨h'.1, fun x hx Q q => ⟨x, rfl, h'.2 x hx, q⟩⟩
def B08 : Pu.PSp := fun as Q => ∃ (xs : List Wk) (ws : List (Int × Int × Rat)) (hs : List (Str × Int × Rat)) (gs : List (List Int)), as = [.d (netD xs ws hs (gs.map gD))] /\ xs.length <= 1000 /\ gs.length <= 1000 /\ Q (.d (netD xs ws hs (gs.map gD)))
theorem B1k (T : Txt K mg D) : FnOk P w K mg base CX0 1 D.a_Lcopy D.d_Lcopy ["_law_net_here"] (Pu.spOf K [.dat] B08) := by
  refine T.F_Lcopy.ok sc_Lcopy (Pu.spOf.len rfl) (fun cdv A outer s H vs Q E hr h => ?_)
  refine ⟨_, (QSs.out (A6 (G9 (i := 1) rfl sc_Lcopy.nd rfl rfl (D7 (N' := ["_law_name", "_law_offer_here"]) (cap := [none, none]) rfl rfl rfl rfl (by decide +kernel) rfl rfl) (F1 (K := K) rfl (B2 (A8 (K := K) rfl) (qpv 0) A4 (fun _ _ => rfl))) (fun _ _ _ => (G1 (K := K) (n := 2) rfl rfl (C2 (B5 (i := 0) (show (["_law_name", "_law_offer_here"] : List Str).Nodup from by decide +kernel) rfl (Or.inl rfl) (Or.inr rfl)) (C2 (B5 (i := 1) (show (["_law_name", "_law_offer_here"] : List Str).Nodup from by decide +kernel) rfl (Or.inl rfl) (Or.inr rfl)) G0)) rfl rfl)) (fun _ _ _ => G8) (fun _ _ _ => (C5 (A0 (qpv 0) (A0 (C5 (A0 (B2 (A8 (K := K) rfl) (qpv 1) A4 (fun _ _ => rfl)) (A0 (F7 (L1 (K := K) rfl) (by rfl) T.z_list (by rfl) (A0 (B2 (A8 (K := K) rfl) (qpv 1) A4 (fun _ _ => rfl)) A3)) A3))) A3)))) rfl)
      (B1 (B6 (C5 (A0 (qpv 1) (A0 (F7 (L1 (K := K) rfl) (by rfl) T.z_list (by rfl) (A0 (B2 (A8 (K := K) rfl) (qpv 0) A4 (fun _ _ => rfl)) A3)) (A0 (F7 (L1 (K := K) rfl) (by rfl) T.z_list (by rfl) (A0 (B2 (A8 (K := K) rfl) (qpv 0) A4 (fun _ _ => rfl)) A3)) (A0 (K5 rfl (D7 (N' := ["_law_group"]) (cap := [none]) rfl rfl rfl rfl (by decide +kernel) rfl rfl) (F1 (K := K) rfl (B2 (A8 (K := K) rfl) (qpv 0) A4 (fun _ _ => rfl))) (fun _ _ _ => (B5 (i := 0) (show (["_law_group"] : List Str).Nodup from by decide +kernel) rfl (Or.inl rfl) (Or.inr rfl))) (fun _ _ _ => G8) (fun _ _ _ => (F7 (L1 (K := K) rfl) (by rfl) T.z_list (by rfl) (A0 (qpv 0) A3)))) A3))))))))), ?_⟩
  haveI := T.c2_NOUGHT
  refine Pu.E9 h ?_
  rintro as Qp ⟨xs, ws, hs, gs, rfl, hl, hgl, k⟩
  unfold netD at k ⊢
  trivial
  refine ⟨by omega, ⟨fun i e ys => ∃ o1 o2 : Option SV, e = [o1, o2] /\ ys = ((xs.take i).map kD), ⟨_, _, rfl, rfl⟩, ?_, ?_⟩⟩
  · rintro i x e ys hx ⟨o1, o2, rfl, rfl⟩
    rw [List.getElem?_map] at hx
    obtain ⟨y, hy, rfl⟩ := Option.map_eq_some_iff.mp hx
    rw [show kD y = PyData.tuple [.str y.1, .tuple [.str y.2.1, .list (y.2.2.map dcn)]] from rfl]
    trivial
    refine ⟨_, _, rfl, ?_⟩
    rw [List.take_succ, hy, List.map_append]; rfl
  rintro e ys ⟨o1, o2, rfl, rfl⟩
  rw [List.length_map, List.take_length]
  trivial
  refine ⟨by omega, X5 (f := gD) (xs := gs) (fun i e ys => ∃ o : Option SV, e = [o] /\ ys = ((gs.take i).map gD)) ⟨_, rfl, rfl⟩ ?_ ?_⟩
  · rintro i y e ys hy ⟨o, rfl, rfl⟩
    rw [show gD y = PyData.list (y.map .int) from rfl]
    trivial
    refine ⟨_, rfl, ?_⟩
    rw [List.take_succ, hy, List.map_append]; rfl
  rintro e ys ⟨o, rfl, rfl⟩
  rw [List.take_length]
  trivial
  exact k
def B06 : Pu.PSp := fun as Q => ∃ (kd : Str) (cs : List (Rat × Rat)), as = [.st, .d (offD kd cs)] /\ Kd kd /\ OfOk cs 100 54 244 130 /\ OnC cs /\ ∀ t, On (LL * 12) (2 ^ 49) t -> Off kd cs t -> Q (.d (dq t))
theorem B1i (T : Txt K mg D) : FnOk P w K mg base CX0 3 D.a_Ltime D.d_Ltime ["_law_state", "_law_offer_here"] (Pu.spOf K [.st, .dat] B06) := by
  refine T.F_Ltime.ok sc_Ltime (Pu.spOf.len rfl) (fun cdv A outer s H vs Q E hr h => ?_)
  refine ⟨_, (QSs.out (A6 (M6 (qpv 1) (G1 (K := K) (n := 2) rfl rfl (C2 (B5 (i := 2) sc_Ltime.nd rfl (Or.inl rfl) (Or.inl rfl)) (C2 (B5 (i := 3) sc_Ltime.nd rfl (Or.inl rfl) (Or.inl rfl)) G0)) rfl rfl))
      (A6 (B3 (i := 4) sc_Ltime.nd rfl (Or.inl rfl) (A7 (C0 (K := K) T) hr.mo rfl T.m_Ltake T.F_Ltake.kp (C7 T) .nil B4 (A0 (qpv 0) (A0 (B7 (C4 (K := K) rfl) (by rfl) T.z_len PySem.boot_len (A0 (qpv 3) A3)) A3))))
      (A6 (D9 (QW.pt (Z1 (B9 (D4 (K := K) rfl hr.units) (qpv 2) D1 (C6 _)) (Z1 (B9 (D4 (K := K) rfl hr.units) (B7 (C4 (K := K) rfl) (by rfl) T.z_len PySem.boot_len (A0 (qpv 3) A3)) A4 (C6 _)) (W1 (B9 (D4 (K := K) rfl hr.units) (A7 (C0 (K := K) T) hr.mo rfl T.m_Ltake T.F_Ltake.kp (C7 T) .nil B4 (A0 (qpv 0) (A0 A4 A3))) A4 (C6 _))))))
        (B1 (B6 (B2 (A8 (K := K) rfl) (B2 (A8 (K := K) rfl) (qpv 3) (qpv 4) (fun _ _ => rfl)) A4 (fun _ _ => rfl))))
        C3)
      (A6 (B3 (i := 4) sc_Ltime.nd rfl (Or.inl rfl) (B7 (A0v rfl) (by rfl) T.z_min (by rfl) (A0 (qpv 4) (A0 (B8 A2s (B7 (C4 (K := K) rfl) (by rfl) T.z_len PySem.boot_len (A0 (qpv 3) A3)) A4) A3))))
      (A6 (B3 (i := 5) sc_Ltime.nd rfl (Or.inl rfl) (A7 (J2 (K := K) T) hr.mo rfl T.m_Lminus T.F_Lminus.kp (K7 T) .nil B4 (A0 (B2 (A8 (K := K) rfl) (B2 (A8 (K := K) rfl) (qpv 3) (qpv 4) (fun _ _ => rfl)) A4 (fun _ _ => rfl)) (A0 (B2 (A8 (K := K) rfl) (B2 (A8 (K := K) rfl) (qpv 3) (B8 F0 (qpv 4) A4) (fun _ _ => rfl)) A4 (fun _ _ => rfl)) A3))))
      (B1 (B6 (A7 (G5 (K := K) T) hr.mo rfl T.m_Lplus T.F_Lplus.kp (J4 T) .nil B4 (A0 (B2 (A8 (K := K) rfl) (B2 (A8 (K := K) rfl) (qpv 3) (B8 F0 (qpv 4) A4) (fun _ _ => rfl)) A4 (fun _ _ => rfl)) (A0 (A7 (O2 (K := K) T) hr.mo rfl T.m_Ltimes T.F_Ltimes.kp (Q5 T) .nil B4 (A0 (A7 (O9 (K := K) T) hr.mo rfl T.m_Llow T.F_Llow.kp (V2 T) .nil B4 (A0 (A7 (C0 (K := K) T) hr.mo rfl T.m_Ltake T.F_Ltake.kp (C7 T) .nil B4 (A0 (qpv 0) (A0 A4 A3))) (A0 A4 A3))) (A0 (qpv 5) A3))) A3))))))))))), ?_⟩
  haveI := T.c2_NOUGHT
  refine Pu.E9 h ?_
  rintro as Qp ⟨kd, cs, rfl, hk, ok, oc, k⟩
  have n1 := ok.ne
  have n5 := ok.le
  unfold offD
  trivial
  refine ⟨(cs.length : Int), by simp, by omega, L6 (B := 5) (by omega) (by omega) (by decide), fun a a0 a1 => ?_⟩
  trivial
  obtain ⟨n, rfl⟩ := Int.eq_ofNat_of_zero_le a0
  obtain ⟨c, ec⟩ : ∃ c, cs[n]? = some c := ⟨_, List.getElem?_eq_getElem (by omega)⟩
  have sc := (ok.sm c (List.mem_of_getElem? ec)).1
  have kc := k c.1 (((oc c (List.mem_of_getElem? ec)).1.up (by decide)).p2 (by decide)) (U5 hk ok.dec n1 ec)
  refine ⟨hk.lay, A0e, ?_⟩
  rcases hk with hk | hk
  · have hk' : kd = "straight" := hk
    subst hk'
    rw [A9q, if_neg (by decide)]
    refine ite2 (fun h => ?_) (fun h => ?_)
    · refine E5 ec ?_
      trivial
      exact kc
    · refine ⟨2, rfl, by decide, sm4 2, fun g g0 g2 => ?_⟩
      nofun
      refine ite2 (fun h => ?_) (fun h => ?_)
      · refine E5 ec ?_
        trivial
        exact kc
      · obtain ⟨m, em, hm⟩ : ∃ m : Nat, (if ((cs.length : Nat) : Int) - 2 < (n : Int) then ((cs.length : Nat) : Int) - 2 else (n : Int)) = (m : Int) /\ m + 1 < cs.length := by
          split
          · exact ⟨cs.length - 2, by omega, by omega⟩
          · exact ⟨n, by omega, by omega⟩
        trivial
        rw [em]
        obtain ⟨d, ed⟩ : ∃ d, cs[m]? = some d := ⟨_, List.getElem?_eq_getElem (by omega)⟩
        obtain ⟨f, ef⟩ : ∃ d, cs[m + 1]? = some d := ⟨_, List.getElem?_eq_getElem hm⟩
        have sd := (ok.sm d (List.mem_of_getElem? ed)).1
        have sf := (ok.sm f (List.mem_of_getElem? ef)).1
        have hfd : f.1 < d.1 := ok.dec.get ed ef (Nat.lt_succ_self m)
        refine E5 ed ?_
        trivial
        refine E5 (n := m + 1) ef ?_
        trivial
        refine ⟨d.1, f.1, rfl, sd.q (by decide) (by decide), sf.q (by decide) (by decide), ?_⟩
        trivial
        refine E5 (n := m + 1) ef ?_
        trivial
        refine ⟨13, rfl, by decide, sm4 13, fun u u0 u13 => ?_⟩
        trivial
        have s12 : SmR 4 4 (Rat.divInt u 12) := SmR.low (L6 (B := 13) (by omega) (by omega) (by decide)) (by unfold Sm; decide) (by decide)
        have sg := sd.sub sf
        refine ⟨u, 12, rfl, by decide, L6 (B := 13) (by omega) (by omega) (by decide), by unfold Sm; decide, ?_⟩
        trivial
        refine ⟨Rat.divInt u 12, d.1 - f.1, rfl, s12.q (by decide) (by decide), sg.q (by decide) (by decide), ?_⟩
        trivial
        have sm := s12.mul sg
        refine ⟨f.1, _, rfl, sf.q (by decide) (by decide), sm.q (by decide) (by decide), ?_⟩
        trivial
        have of1 := (oc f (List.mem_of_getElem? ef)).1
        have o12 : On 12 1 (Rat.divInt u 12) := ⟨u, rfl, by omega⟩
        have od := o12.mul (((oc d (List.mem_of_getElem? ed)).1.sub2 (b := 46) E6 of1 (by decide)))
        rw [Nat.mul_comm 12 LL, Nat.one_mul] at od
        refine k _ (((of1.up (by decide)).p2 (b := 46) (by decide)).add2 (by decide) od (by decide)) (M9 (i := m) (j := m + 1) ok.dec (by decide +kernel) n1 ed ef ?_ ?_)
        · have := B2q u0 (by omega : u <= 12)
          have h2 : 0 <= (1 - Rat.divInt u 12) * (d.1 - f.1) := Rat.mul_nonneg (by grind) (by grind)
          grind
        · have := B2q u0 (by omega : u <= 12)
          have h2 : 0 <= Rat.divInt u 12 * (d.1 - f.1) := Rat.mul_nonneg this.1 (by grind)
          grind
  · have hk' : kd = "steps" := hk
    subst hk'
    rw [A9s, if_pos rfl]
    refine E5 ec ?_
    trivial
    exact kc
def A4c : Pu.PSp := fun as Q => ∃ (xs : List Wk) (ws : List (Int × Int × Rat)) (hs : List (Str × Int × Rat)) (gs : List (List Int)) (ps : List (Rat × Rat)) (D : Nat), as = [.d (netD xs ws hs (gs.map gD)), .d (.list (ps.map dcn))] /\ xs.length = ps.length /\ xs.length <= 10 /\ (0 < D /\ D <= 2 ^ 20) /\ (∀ x ∈ xs, Kd x.2.1 /\ OfOk x.2.2 100 54 244 130 /\ OnC x.2.2 /\ (x.2.1 = "straight" -> OnP x.2.2)) /\ (∀ p ∈ ps, On (LL * D) (2 ^ 72) p.2) /\ fiT xs ps = none /\ ∀ qs, Prs xs ps qs -> (∀ q ∈ qs, On (LL * (LL * D)) (2 ^ 120) q) -> Q (.d (dq (My.S qs)))
theorem A4k (T : Txt K mg D) : FnOk P w K mg base CX0 6 D.a_priceof D.d_priceof ["net", "plan"] (Pu.spOf K [.dat, .dat] A4c) := by
  refine T.F_priceof.ok sc_priceof (Pu.spOf.len rfl) (fun cdv A outer s H vs Q E hr h => ?_)
  refine ⟨_, (QSs.out (B1 (B6 (A7 (A2t (K := K) T) hr.mo rfl T.m_sumof T.F_sumof.kp (B0d T) .nil B4 (A0 (K5 rfl (D7 (N' := ["work", "step"]) (cap := [none, none]) rfl rfl rfl rfl (by decide +kernel) rfl rfl) (W3 (K := K) rfl rfl T.z_zip (A0 (B2 (A8 (K := K) rfl) (qpv 0) A4 (fun _ _ => rfl)) (A0 (qpv 1) A3))) (fun _ _ _ => (G1 (K := K) (n := 2) rfl rfl (C2 (B5 (i := 0) (show (["work", "step"] : List Str).Nodup from by decide +kernel) rfl (Or.inl rfl) (Or.inr rfl)) (C2 (B5 (i := 1) (show (["work", "step"] : List Str).Nodup from by decide +kernel) rfl (Or.inl rfl) (Or.inr rfl)) G0)) rfl rfl)) (fun _ _ _ => G8) (fun _ _ _ => (A7 (M4 (K := K) T) hr.mo rfl T.m_priceoftime T.F_priceoftime.kp (L4 T) .nil B4 (A0 (B2 (A8 (K := K) rfl) (qpv 0) A4 (fun _ _ => rfl)) (A0 (B2 (A8 (K := K) rfl) (qpv 1) A4 (fun _ _ => rfl)) A3))))) A3))))), ?_⟩
  haveI := T.c2_NOUGHT
  refine Pu.E9 h ?_
  rintro as Qp ⟨xs, ws, hs, gs, ps, D, rfl, hl, l10, ⟨hDp, hdd⟩, hx, hp, hT, k⟩
  have hLD : 0 < LL * D := Nat.mul_pos E6 hDp
  have hB : 0 < LL * (LL * D) := Nat.mul_pos E6 hLD
  have bB : LL * (LL * D) <= 2 ^ 220 := by
    have b1 : LL <= 2 ^ 100 := Nat.le_of_ble_eq_true rfl
    have := Nat.mul_le_mul b1 (Nat.mul_le_mul b1 hdd)
    rw [<- Nat.pow_add, <- Nat.pow_add] at this
    exact this
  have bD : LL * D <= 2 ^ 120 := by
    have b1 : LL <= 2 ^ 100 := Nat.le_of_ble_eq_true rfl
    have := Nat.mul_le_mul b1 hdd
    rw [<- Nat.pow_add] at this
    exact this
  unfold netD
  trivial
  rw [P8]
  refine ⟨by rw [List.length_map, List.length_zip]; omega, ?_⟩
  refine X5 (fun i e ys => ∃ (o1 o2 : Option SV) (qs : List Rat), e = [o1, o2] /\ ys = qs.map dq /\ qs.length = i /\ (∀ q ∈ qs, On (LL * (LL * D)) (2 ^ 120) q) /\ ∀ (i : Nat) x p q, xs[i]? = some x -> ps[i]? = some p -> qs[i]? = some q -> Price x.2.2 p.2 q) ⟨_, _, [], rfl, rfl, rfl, (fun _ z => nomatch z), fun i x p q _ _ h => by simp at h⟩ ?_ ?_
  · rintro i a e ys ha ⟨o1, o2, qs, rfl, rfl, hql, oq, hq⟩
    obtain ⟨x, p⟩ := a
    rw [List.getElem?_zip_eq_some] at ha
    obtain ⟨ex, ep⟩ := ha
    obtain ⟨x1, x2, x3, x4⟩ := hx x (List.mem_of_getElem? ex)
    have ot := hp p (List.mem_of_getElem? ep)
    have hof : offB x.2.1 x.2.2 p.2 = true := by
      have := A9n hl hT (w := (i : Int)) (by omega) (by have := (List.getElem?_eq_some_iff.mp ex).1; omega)
      rwa [A41 ex, A5k ep] at this
    rw [show kD x = PyData.tuple [.str x.1, offD x.2.1 x.2.2] from rfl]
    trivial
    refine ⟨x.2.1, x.2.2, p.2, rfl, x1, x2, B34 hLD ot ?_ ?_, hof, fun q hpq => ?_⟩
    · exact Nat.lt_of_le_of_lt (Nat.mul_le_mul_left _ bD) (by rw [<- Nat.pow_add]; exact Nat.pow_lt_pow_right (by decide) (by decide))
    · exact Nat.lt_of_le_of_lt bD (Nat.pow_lt_pow_right (by decide) (by decide))
    have oqq := Z9 x1 x2.ne x2.dec hDp x3 x4 ot hof hpq
    trivial
    refine ⟨_, _, qs ++ [q], rfl, by rw [List.map_append]; rfl, by rw [List.length_append, hql]; rfl, fun z hz => ?_, fun j x' p' q' ex' ep' eq' => ?_⟩
    · rcases List.mem_append.mp hz with w | w
      · exact oq z w
      · rw [List.mem_singleton.mp w]; exact oqq
    · rcases Nat.lt_trichotomy j qs.length with z | z | z
      · rw [List.getElem?_append_left z] at eq'; exact hq j x' p' q' ex' ep' eq'
      · subst z
        rw [hql] at ex' ep'
        rw [ex] at ex'; rw [ep] at ep'
        cases ex'; cases ep'
        have : q' = q := by simpa using eq'.symm
        rw [this]; exact hpq
      · rw [List.getElem?_eq_none (by rw [List.length_append, List.length_singleton]; omega)] at eq'; cases eq'
  rintro e ys ⟨o1, o2, qs, rfl, rfl, hql, oq, hq⟩
  rw [List.length_zip] at hql
  have b1000 : LL * (LL * D) <= 2 ^ 1000 := Nat.le_trans bB (Nat.pow_le_pow_right (by decide) (by decide))
  trivial
  refine ⟨qs, rfl, fun i => ?_, fun q hz => onQ (oq q hz) hB b1000 (Nat.pow_le_pow_right (by decide) (by decide)), k qs ⟨by omega, hq⟩ oq⟩
  refine onQ (On_S hB fun q hz => oq q (List.mem_of_mem_take hz)) hB b1000 (Nat.le_trans (Nat.mul_le_mul_right _ (show (qs.take i).length <= 2 ^ 4 by rw [List.length_take]; omega)) ?_)
  rw [<- Nat.pow_add]; exact Nat.pow_le_pow_right (by decide) (by decide)
def A1j : List SV -> Prop := fun as => ∃ (xs : List Wk) (ws : List (Int × Int × Rat)) (hs : List (Str × Int × Rat)) (gs : List (List Int)) (ps : List (Rat × Rat)) (n : Nat), as = [.d (netD xs ws hs (gs.map gD)), .d (.list (ps.map dcn))] /\ xs.length <= 10 /\ (∀ x ∈ xs, Kd x.2.1 /\ OfOk x.2.2 100 54 244 130) /\ (∀ p ∈ ps, SmR 339 261 p.2) /\ fiT xs ps = some n
theorem A1m (T : Txt K mg D) : FnOk P w K mg base (CX1 P w) 6 D.a_priceof D.d_priceof ["net", "plan"] (Pu.spE K [.dat, .dat] D.k_NoTime A1j) := by
  haveI := T.c2_NOUGHT
  refine Pu.okx T.F_priceof sc_priceof rfl (fun cdv A outer s H E w0 hr hk => (QSs.out (B1 (B6 (A7 (A2t (K := K) T) hr.mo rfl T.m_sumof T.F_sumof.kp (B0d T) .nil B4 (A0 (qe_F (A5q rfl (D7 (N' := ["work", "step"]) (cap := [none, none]) rfl rfl rfl rfl (by decide +kernel) rfl rfl) (W3 (K := K) rfl rfl T.z_zip (A0 (B2 (A8 (K := K) rfl) (qpv 0) A4 (fun _ _ => rfl)) (A0 (qpv 1) A3))) (fun _ _ _ => (G1 (K := K) (n := 2) rfl rfl (C2 (B5 (i := 0) (show (["work", "step"] : List Str).Nodup from by decide +kernel) rfl (Or.inl rfl) (Or.inr rfl)) (C2 (B5 (i := 1) (show (["work", "step"] : List Str).Nodup from by decide +kernel) rfl (Or.inl rfl) (Or.inr rfl)) G0)) rfl rfl)) (fun _ _ _ => G8) (fun _ _ _ => C1d (C1c (A7 (M4 (K := K) T) hr.mo rfl T.m_priceoftime T.F_priceoftime.kp (L4 T) .nil B4 (A0 (B2 (A8 (K := K) rfl) (qpv 0) A4 (fun _ _ => rfl)) (A0 (B2 (A8 (K := K) rfl) (qpv 1) A4 (fun _ _ => rfl)) A3)))) (A39 rfl (R8 (K := K) T) hr.mo rfl T.m_priceoftime T.F_priceoftime.kp (L4 T) B6e hk (A0 (B2 (A8 (K := K) rfl) (qpv 0) A4 (fun _ _ => rfl)) (A0 (B2 (A8 (K := K) rfl) (qpv 1) A4 (fun _ _ => rfl)) A3)))))) A3)))))) (fun w0 => inferInstance) ?_
  rintro as ⟨xs, ws, hs, gs, ps, n, rfl, l10, hx, hp, hT⟩
  obtain ⟨⟨n1, n2⟩, hno, hyes⟩ := C0m hT
  unfold netD B82
  trivial
  rw [P8]
  refine ⟨by rw [List.length_map, List.length_zip]; omega, n, fun i e => ∃ o1 o2 : Option SV, e = [o1, o2], by rw [List.length_map, List.length_zip]; omega, ⟨_, _, rfl⟩, ?_, ?_⟩
  · rintro i a e hi ha ⟨o1, o2, rfl⟩
    rw [List.getElem?_map] at ha
    obtain ⟨⟨x, p⟩, hz, rfl⟩ := Option.map_eq_some_iff.mp ha
    rw [List.getElem?_zip_eq_some] at hz
    obtain ⟨ex, ep⟩ := hz
    rw [show kD x = PyData.tuple [.str x.1, offD x.2.1 x.2.2] from rfl]
    trivial
    refine ⟨x.2.1, x.2.2, p.2, rfl, (hx x (List.mem_of_getElem? ex)).1, (hx x (List.mem_of_getElem? ex)).2, hp p (List.mem_of_getElem? ep), hyes i x p hi ex ep, fun q hq => ?_⟩
    trivial
    exact ⟨_, _, rfl⟩
  · rintro a e ha ⟨o1, o2, rfl⟩
    rw [List.getElem?_map] at ha
    obtain ⟨⟨x, p⟩, hz, rfl⟩ := Option.map_eq_some_iff.mp ha
    rw [List.getElem?_zip_eq_some] at hz
    obtain ⟨ex, ep⟩ := hz
    rw [show kD x = PyData.tuple [.str x.1, offD x.2.1 x.2.2] from rfl]
    trivial
    exact ⟨x.2.1, x.2.2, p.2, rfl, (hx x (List.mem_of_getElem? ex)).1, (hx x (List.mem_of_getElem? ex)).2, hp p (List.mem_of_getElem? ep), hno x p ex ep⟩
def A4a : Pu.PSp := fun as Q => ∃ (ps : List (Rat × Rat)), as = [.d (.list (ps.map dcn))] /\ 1 <= ps.length /\ ps.length <= 1000 /\ (∀ p ∈ ps, PlSm p) /\ ∀ v : Rat, (∀ p ∈ ps, enD p <= v) -> (∃ p ∈ ps, v = enD p) -> Q (.d (dq v))
theorem A4j (T : Txt K mg D) : FnOk P w K mg base CX0 4 D.a_wholeof D.d_wholeof ["plan"] (Pu.spOf K [.dat] A4a) := by
  refine T.F_wholeof.ok sc_wholeof (Pu.spOf.len rfl) (fun cdv A outer s H vs Q E hr h => ?_)
  refine ⟨_, (QSs.out (A6 (B3 (i := 1) sc_wholeof.nd rfl (Or.inl rfl) (A7 (A2u (K := K) T) hr.mo rfl T.m_endof T.F_endof.kp (B0e T) .nil B4 (A0 (B2 (A8 (K := K) rfl) (qpv 0) A4 (fun _ _ => rfl)) A3)))
      (A6 (G6 PassesOwn.never rfl (F1 (K := K) rfl (qpv 0)) (B5 (i := 2) sc_wholeof.nd rfl (Or.inl rfl) (Or.inl rfl))
        (B1 (B3 (i := 1) sc_wholeof.nd rfl (Or.inl rfl) (A7 (A7d (K := K) T) hr.mo rfl T.m_larger T.F_larger.kp (B2h T) .nil B4 (A0 (qpv 1) (A0 (A7 (A2u (K := K) T) hr.mo rfl T.m_endof T.F_endof.kp (B0e T) .nil B4 (A0 (qpv 2) A3)) A3))))))
      (B1 (B6 (qpv 1)))))), ?_⟩
  haveI := T.c2_NOUGHT
  refine Pu.E9 h ?_
  rintro as Qp ⟨ps, rfl, h1, h2, hp, k⟩
  have h0 : ps[0]? = some ps[0] := List.getElem?_eq_getElem (by omega)
  trivial
  refine E5 (n := 0) h0 ?_
  trivial
  refine ⟨ps[0], rfl, hp _ (List.mem_of_getElem? h0), ?_⟩
  trivial
  refine K8 (f := dcn) (xs := ps) (fun i e => ∃ (p : Rat × Rat) (o1 : Option SV), e = [some (.d (.list (ps.map dcn))), some (.d (dq (enD p))), o1] /\ p ∈ ps /\ ∀ j r, j < i -> ps[j]? = some r -> enD r <= enD p) ⟨ps[0], _, rfl, List.mem_of_getElem? h0, fun j r h => absurd h (Nat.not_lt_zero _)⟩ ?_ ?_
  · rintro i a e ha ⟨p, o1, rfl, pm, hpj⟩
    have am := List.mem_of_getElem? ha
    trivial
    refine ⟨a, rfl, hp a am, ?_⟩
    trivial
    refine ⟨_, _, rfl, (hp p pm).e, (hp a am).e, ?_⟩
    trivial
    by_cases h : enD p < enD a
    · rw [if_pos h]
      refine ⟨a, _, rfl, am, fun j r hj hr => ?_⟩
      rcases Nat.lt_succ_iff_lt_or_eq.mp hj with z | z
      · exact Rat.le_trans (hpj j r z hr) (Rat.le_of_lt h)
      · subst z; rw [ha] at hr; cases hr; exact Rat.le_refl
    · rw [if_neg h]
      refine ⟨p, _, rfl, pm, fun j r hj hr => ?_⟩
      rcases Nat.lt_succ_iff_lt_or_eq.mp hj with z | z
      · exact hpj j r z hr
      · subst z; rw [ha] at hr; cases hr; exact Rat.not_lt.mp h
  rintro e ⟨p, o1, rfl, pm, hpj⟩
  trivial
  refine k _ (fun q hq => ?_) ⟨p, pm, rfl⟩
  obtain ⟨j, hj, ej⟩ := List.getElem_of_mem hq
  exact hpj j q hj (by rw [List.getElem?_eq_getElem hj, ej])
def A53 : Pu.PSp := fun as Q => ∃ (kd : Str) (cs : List (Rat × Rat)) (t : Rat), as = [.d (offD kd cs), .d (dq t)] /\ Kd kd /\ OfOk cs 100 54 244 130 /\ SmR 339 261 t /\ (offB kd cs t = true -> ∀ p, Price cs t p -> Q (.d (dq p))) /\ (offB kd cs t = false -> Q (.d .none))
theorem A7g (T : Txt K mg D) : FnOk P w K mg base CX0 3 D.a_Lprice D.d_Lprice ["_law_offer_here", "_law_time_here"] (Pu.spOf K [.dat, .dat] A53) := by
  refine T.F_Lprice.ok sc_Lprice (Pu.spOf.len rfl) (fun cdv A outer s H vs Q E hr h => ?_)
  refine ⟨_, (QSs.out (A6 (M6 (qpv 0) (G1 (K := K) (n := 2) rfl rfl (C2 (B5 (i := 2) sc_Lprice.nd rfl (Or.inl rfl) (Or.inl rfl)) (C2 (B5 (i := 3) sc_Lprice.nd rfl (Or.inl rfl) (Or.inl rfl)) G0)) rfl rfl))
      (A6 (G6 PassesOwn.never rfl (F1 (K := K) rfl (qpv 3)) (B5 (i := 4) sc_Lprice.nd rfl (Or.inl rfl) (Or.inl rfl))
        (B1 (D9 (B9 (D4 (K := K) rfl hr.units) (B2 (A8 (K := K) rfl) (qpv 4) A4 (fun _ _ => rfl)) (qpv 1) (C6 _))
          (B1 (B6 (B2 (A8 (K := K) rfl) (qpv 4) A4 (fun _ _ => rfl))))
          C3)))
      (A6 (D9 (B9 (D4 (K := K) rfl hr.units) (qpv 2) D1 (C6 _))
        (B1 (B6 M7))
        C3)
      (A6 (G6 PassesOwn.never rfl (W3 (K := K) rfl rfl T.z_zip (A0 (qpv 3) (A0 (L9 (N2 (K := K) rfl) (qpv 3) (N6 A4) N7) A3))) (G1 (K := K) (n := 2) rfl rfl (C2 (B5 (i := 5) sc_Lprice.nd rfl (Or.inl rfl) (Or.inl rfl)) (C2 (B5 (i := 6) sc_Lprice.nd rfl (Or.inl rfl) (Or.inl rfl)) G0)) rfl rfl)
        (B1 (D9 (QW.pt (W2 (F8 (A7 (S1 (K := K) T) hr.mo rfl T.m_Lunder T.F_Lunder.kp (X8 T) .nil B4 (A0 (B2 (A8 (K := K) rfl) (qpv 6) A4 (fun _ _ => rfl)) (A0 (qpv 1) A3)))) (Q0 (F8 (A7 (S1 (K := K) T) hr.mo rfl T.m_Lunder T.F_Lunder.kp (X8 T) .nil B4 (A0 (qpv 1) (A0 (B2 (A8 (K := K) rfl) (qpv 5) A4 (fun _ _ => rfl)) A3)))))))
          (A6 (B3 (i := 7) sc_Lprice.nd rfl (Or.inl rfl) (A7 (J2 (K := K) T) hr.mo rfl T.m_Lminus T.F_Lminus.kp (K7 T) .nil B4 (A0 (B2 (A8 (K := K) rfl) (qpv 5) A4 (fun _ _ => rfl)) (A0 (qpv 1) A3))))
          (A6 (B3 (i := 8) sc_Lprice.nd rfl (Or.inl rfl) (A7 (J2 (K := K) T) hr.mo rfl T.m_Lminus T.F_Lminus.kp (K7 T) .nil B4 (A0 (B2 (A8 (K := K) rfl) (qpv 5) A4 (fun _ _ => rfl)) (A0 (B2 (A8 (K := K) rfl) (qpv 6) A4 (fun _ _ => rfl)) A3))))
          (A6 (B3 (i := 9) sc_Lprice.nd rfl (Or.inl rfl) (A7 (O9 (K := K) T) hr.mo rfl T.m_Llow T.F_Llow.kp (V2 T) .nil B4 (A0 (B8 D2 (B2 (A8 (K := K) rfl) (qpv 7) A4 (fun _ _ => rfl)) (B2 (A8 (K := K) rfl) (qpv 8) A4 (fun _ _ => rfl))) (A0 (B8 D2 (B2 (A8 (K := K) rfl) (qpv 7) A4 (fun _ _ => rfl)) (B2 (A8 (K := K) rfl) (qpv 8) A4 (fun _ _ => rfl))) A3))))
          (B1 (B6 (A7 (G5 (K := K) T) hr.mo rfl T.m_Lplus T.F_Lplus.kp (J4 T) .nil B4 (A0 (B2 (A8 (K := K) rfl) (qpv 5) A4 (fun _ _ => rfl)) (A0 (A7 (O2 (K := K) T) hr.mo rfl T.m_Ltimes T.F_Ltimes.kp (Q5 T) .nil B4 (A0 (qpv 9) (A0 (A7 (J2 (K := K) T) hr.mo rfl T.m_Lminus T.F_Lminus.kp (K7 T) .nil B4 (A0 (B2 (A8 (K := K) rfl) (qpv 6) A4 (fun _ _ => rfl)) (A0 (B2 (A8 (K := K) rfl) (qpv 5) A4 (fun _ _ => rfl)) A3))) A3))) A3))))))))
          C3)))
      (B1 (B6 M7))))))), ?_⟩
  haveI := T.c2_NOUGHT
  refine Pu.E9 h ?_
  rintro as Qp ⟨kd, cs, t, rfl, hk0, ok, st, k1, k2⟩
  have n1 := ok.ne
  have n5 := ok.le
  have hk := hk0
  unfold offD
  trivial
  refine K8 (fun i e => ∃ o4 : Option SV, e = [some (.d (.tuple [.str kd, .list (cs.map dcn)])), some (.d (dq t)), some (.d (.str kd)), some (.d (.list (cs.map dcn))), o4, none, none, none, none, none] /\ ∀ j c, j < i -> cs[j]? = some c -> ¬ c.1 = t) ⟨_, rfl, fun j c z => absurd z (Nat.not_lt_zero j)⟩ ?_ ?_
  · rintro i c e hc ⟨o4, rfl, hn⟩
    trivial
    refine ite2 (fun h => ?_) (fun h => ?_)
    · trivial
      exact k1 (A2v hk n1 (h ▸ U5 hk ok.dec n1 hc)) _ (B1a ok.dec (List.mem_of_getElem? hc) h)
    · refine ⟨_, rfl, fun j c' hj hc' => ?_⟩
      rcases Nat.lt_succ_iff_lt_or_eq.mp hj with z | z
      · exact hn j c' z hc'
      · subst z; rw [hc] at hc'; cases hc'; exact h
  rintro e ⟨o4, rfl, hn⟩
  have hn' : ∀ c ∈ cs, ¬ c.1 = t := fun c hc => by
    obtain ⟨j, hj, e⟩ := List.mem_iff_getElem.mp hc
    exact hn j c hj (by rw [List.getElem?_eq_getElem hj, e])
  have none' : ¬ Off kd cs t -> Qp (.d .none) := fun z => k2 (by
    cases q : offB kd cs t with
    | false => rfl
    | true => exact absurd (X0 hk0 n1 q) z)
  trivial
  refine ⟨hk.lay, A0e, ?_⟩
  rcases hk with hk | hk
  case inr =>
    have hk' : kd = "steps" := hk
    subst hk'
    rw [A9s, if_pos rfl]
    exact none' fun z => by obtain ⟨c, hc, e⟩ := z.st rfl; exact hn' c hc e
  have hk' : kd = "straight" := hk
  subst hk'
  rw [A9q, if_neg (by decide)]
  trivial
  rw [A0r (f := dcn) (xs := cs), P8]
  have zg : ∀ (i : Nat) (a : (Rat × Rat) × Rat × Rat), (cs.zip (cs.drop 1))[i]? = some a -> cs[i]? = some a.1 /\ cs[i + 1]? = some a.2 := fun i a h => by
    rw [List.getElem?_zip_eq_some, List.getElem?_drop, Nat.add_comm 1 i] at h
    exact h
  refine K8 (f := fun p : (Rat × Rat) × Rat × Rat => PyData.tuple [dcn p.1, dcn p.2]) (xs := cs.zip (cs.drop 1)) (fun i e => ∃ o4 o5 o6 o7 o8 o9 : Option SV, e = [some (.d (.tuple [.str "straight", .list (cs.map dcn)])), some (.d (dq t)), some (.d (.str "straight")), some (.d (.list (cs.map dcn))), o4, o5, o6, o7, o8, o9] /\ ∀ j c d, j < i -> cs[j]? = some c -> cs[j + 1]? = some d -> ¬ (d.1 < t /\ t < c.1)) ⟨_, _, _, _, _, _, rfl, fun j c d z => absurd z (Nat.not_lt_zero j)⟩ ?_ ?_
  · rintro i ⟨c, d⟩ e hi ⟨o4, o5, o6, o7, o8, o9, rfl, hm⟩
    obtain ⟨ec, ed⟩ := zg i _ hi
    have sc := ok.sm c (List.mem_of_getElem? ec)
    have sd := ok.sm d (List.mem_of_getElem? ed)
    trivial
    refine ⟨_, _, rfl, sd.1.q (by decide) (by decide), st.q (by decide) (by decide), ?_⟩
    by_cases h1 : d.1 < t
    · rw [decide_eq_true h1]
      trivial
      refine ⟨_, _, rfl, st.q (by decide) (by decide), sc.1.q (by decide) (by decide), ?_⟩
      by_cases h2 : t < c.1
      · rw [decide_eq_true h2]
        trivial
        refine ⟨_, _, rfl, sc.1.q (by decide) (by decide), st.q (by decide) (by decide), ?_⟩
        trivial
        refine ⟨_, _, rfl, sc.1.q (by decide) (by decide), sd.1.q (by decide) (by decide), ?_⟩
        trivial
        have s1 := sc.1.sub st
        have s2 := sc.1.sub sd.1
        have hw : (0 : Rat) < c.1 - d.1 := by grind
        have sh : SmR 700 700 ((c.1 - t) / (c.1 - d.1)) := (s1.div s2 (by grind)).mono (by decide) (by decide)
        refine ⟨⟨s1.1.mono (by decide), s2.2.mono (by decide)⟩, ⟨s1.2.mono (by decide), s2.1.mono (by decide)⟩, _, _, rfl, Int.mul_pos (denp _) (B66 hw), (s1.1.mul s2.2).mono (by decide), (s1.2.mul s2.1).mono (by decide), ?_⟩
        rw [B8j]
        trivial
        refine ⟨_, _, rfl, sd.2.q (by decide) (by decide), sc.2.q (by decide) (by decide), ?_⟩
        trivial
        refine ⟨_, _, rfl, sh.q (by decide) (by decide), (sd.2.sub sc.2).q (by decide) (by decide), ?_⟩
        trivial
        refine ⟨_, _, rfl, sc.2.q (by decide) (by decide), (sh.mul (sd.2.sub sc.2)).q (by decide) (by decide), ?_⟩
        trivial
        rw [B7x]
        exact k1 (A2v hk0 n1 (M9 ok.dec (fun z => A0g z.symm) n1 ec ed (Rat.le_of_lt h2) (Rat.le_of_lt h1))) _ (A58 ok.dec ec ed h1 h2)
      · rw [decide_eq_false h2]
        trivial
        refine ⟨_, _, _, _, _, _, rfl, fun j c' d' hj hc hd => ?_⟩
        rcases Nat.lt_succ_iff_lt_or_eq.mp hj with z | z
        · exact hm j c' d' z hc hd
        · subst z; rw [ec] at hc; cases hc; exact fun z => h2 z.2
    · rw [decide_eq_false h1]
      trivial
      refine ⟨_, _, _, _, _, _, rfl, fun j c' d' hj hc hd => ?_⟩
      rcases Nat.lt_succ_iff_lt_or_eq.mp hj with z | z
      · exact hm j c' d' z hc hd
      · subst z; rw [ed] at hd; cases hd; exact fun z => h1 z.1
  rintro e ⟨o4, o5, o6, o7, o8, o9, rfl, hm⟩
  trivial
  refine none' fun of => ?_
  obtain ⟨i, c, d, e1, e2, h1, h2⟩ := B64 ok.dec of hn'
  have hl := (List.getElem?_eq_some_iff.mp e2).1
  exact hm i c d (by rw [List.length_zip, List.length_drop]; omega) e1 e2 ⟨h1, h2⟩
def B07 : Pu.PSp := fun as Q => ∃ (n : Int) (xs : List Wk) (ws : List (Int × Int × Rat)) (hs : List (Str × Int × Rat)) (gs : List (List Int)), as = [.st, .d (netD xs ws hs (gs.map gD))] /\ NetG n xs ws hs gs /\ ∀ ps, ps.length = xs.length -> PlB 36 2 ps -> Q (.own (ps.map dcn))
theorem B1j (T : Txt K mg D) : FnOk P w K mg base CX0 4 D.a_Lplan D.d_Lplan ["_law_state", "_law_net_here"] (Pu.spOf K [.st, .dat] B07) := by
  refine T.F_Lplan.ok sc_Lplan (Pu.spOf.len rfl) (fun cdv A outer s H vs Q E hr h => ?_)
  refine ⟨_, (QSs.out (A6 (B3 (i := 2) sc_Lplan.nd rfl (Or.inl rfl) (D6 A3))
      (A6 (G6 PassesOwn.never rfl (F1 (K := K) rfl (B2 (A8 (K := K) rfl) (qpv 1) A4 (fun _ _ => rfl))) (G1 (K := K) (n := 2) rfl rfl (C2 (B5 (i := 3) sc_Lplan.nd rfl (Or.inl rfl) (Or.inl rfl)) (C2 (B5 (i := 4) sc_Lplan.nd rfl (Or.inl rfl) (Or.inl rfl)) G0)) rfl rfl)
        (A6 (B3 (i := 5) sc_Lplan.nd rfl (Or.inl rfl) (A7 (A1n (K := K) T) hr.mo rfl T.m_Llag T.F_Llag.kp (B0h T) .nil B4 (A0 (qpv 0) (A0 N8 A3))))
        (A6 (D9 (B9 (D4 (K := K) rfl hr.units) (A7 (C0 (K := K) T) hr.mo rfl T.m_Ltake T.F_Ltake.kp (C7 T) .nil B4 (A0 (qpv 0) (A0 A4 A3))) A4 (C6 _))
          (B1 (B3 (i := 5) sc_Lplan.nd rfl (Or.inl rfl) (A7 (J2 (K := K) T) hr.mo rfl T.m_Lminus T.F_Lminus.kp (K7 T) .nil B4 (A0 (C5 (A0 A4 (A0 A4 A3))) (A0 (A7 (G5 (K := K) T) hr.mo rfl T.m_Lplus T.F_Lplus.kp (J4 T) .nil B4 (A0 (qpv 5) (A0 (C5 (A0 A4 (A0 A4 A3))) A3))) A3)))))
          C3)
        (B1 (J8 (K2 (K := K) rfl PySem.F.plainAttrs_list PySem.F.slot_list_append PySem.F.type_list_append F4 (qpv 2) (A0 (C5 (A0 (qpv 5) (A0 (A7 (B1i (K := K) T) hr.mo rfl T.m_Ltime T.F_Ltime.kp (B7p T) .nil B4 (A0 (qpv 0) (A0 (qpv 4) A3))) A3))) A3)))))))
      (A6 (D9 (B9 (D4 (K := K) rfl hr.units) (A7 (C0 (K := K) T) hr.mo rfl T.m_Ltake T.F_Ltake.kp (C7 T) .nil B4 (A0 (qpv 0) (A0 A4 A3))) A4 (C6 _))
        (A6 (B3 (i := 6) sc_Lplan.nd rfl (Or.inl rfl) (A7 (C0 (K := K) T) hr.mo rfl T.m_Ltake T.F_Ltake.kp (C7 T) .nil B4 (A0 (qpv 0) (A0 (B7 (C4 (K := K) rfl) (by rfl) T.z_len PySem.boot_len (A0 (qpv 2) A3)) A3))))
        (A6 (M6 (B2 (A8 (K := K) rfl) (qpv 2) (qpv 6) (fun _ _ => rfl)) (G1 (K := K) (n := 2) rfl rfl (C2 (B5 (i := 5) sc_Lplan.nd rfl (Or.inl rfl) (Or.inl rfl)) (C2 (B5 (i := 7) sc_Lplan.nd rfl (Or.inl rfl) (Or.inl rfl)) G0)) rfl rfl))
        (A6 (B3 (i := 8) sc_Lplan.nd rfl (Or.inl rfl) (D6 (A0 (A7 (G5 (K := K) T) hr.mo rfl T.m_Lplus T.F_Lplus.kp (J4 T) .nil B4 (A0 (B2 (A8 (K := K) rfl) (B2 (A8 (K := K) rfl) (B2 (A8 (K := K) rfl) (B2 (A8 (K := K) rfl) (B2 (A8 (K := K) rfl) (B2 (A8 (K := K) rfl) (qpv 1) A4 (fun _ _ => rfl)) (qpv 6) (fun _ _ => rfl)) A4 (fun _ _ => rfl)) A4 (fun _ _ => rfl)) A4 (fun _ _ => rfl)) A4 (fun _ _ => rfl)) (A0 (A7 (J0 (K := K) T) hr.mo rfl T.m_Lamount T.F_Lamount.kp (K3 T) .nil B4 (A0 (qpv 0) (A0 N8 (A0 A4 A3)))) A3))) (A0 (A7 (O2 (K := K) T) hr.mo rfl T.m_Ltimes T.F_Ltimes.kp (Q5 T) .nil B4 (A0 (qpv 7) (A0 (C5 (A0 A4 (A0 A4 A3))) A3))) A3))))
        (B1 (M6 (C5 (A0 (qpv 5) (A0 (B2 (A8 (K := K) rfl) (qpv 8) (A7 (C0 (K := K) T) hr.mo rfl T.m_Ltake T.F_Ltake.kp (C7 T) .nil B4 (A0 (qpv 0) (A0 A4 A3))) (fun _ _ => rfl)) A3))) (A5p (qpv 2) (qpv 6) N3))))))
        C3)
      (B1 (B6 (qpv 2))))))), ?_⟩
  haveI := T.c2_NOUGHT
  refine Pu.E9 h ?_
  rintro as Qp ⟨n, xs, ws, hs, gs, rfl, ok, k⟩
  have h1 := ok.ln
  have h2 := ok.n0
  have h3 := ok.n1
  unfold netD
  refine hd fun R hR => ?_
  trivial
  subst hR
  refine A5i (fun e => ∃ (ps : List (Rat × Rat)) (o3 o4 o5 : Option SV), e = [some .st, some (.d (.tuple [.list (xs.map kD), .list (ws.map wD), .list (hs.map hD), .list (gs.map gD)])), some (.own (ps.map dcn)), o3, o4, o5, none, none, none] /\ ps.length = xs.length /\ PlB 12 1 ps) (fun R hR => ?_) ?_
  · trivial
    refine K8 (f := kD) (xs := xs) (fun i e => ∃ (ps : List (Rat × Rat)) (o3 o4 o5 : Option SV), e = [some .st, some (.d (.tuple [.list (xs.map kD), .list (ws.map wD), .list (hs.map hD), .list (gs.map gD)])), some (.own (ps.map dcn)), o3, o4, o5, none, none, none] /\ ps.length = i /\ PlB 12 1 ps) ⟨[], _, _, _, rfl, rfl, fun _ z => nomatch z⟩ ?_ ?_
    · rintro i x e hx ⟨ps, o3, o4, o5, rfl, hl, pb⟩
      have hi := (List.getElem?_eq_some_iff.mp hx).1
      obtain ⟨x1, x2, x3⟩ := ok.of x (List.mem_of_getElem? hx)
      rw [show kD x = PyData.tuple [.str x.1, offD x.2.1 x.2.2] from rfl]
      trivial
      refine ⟨rfl, fun q oq => ?_⟩
      trivial
      refine ⟨4, rfl, by decide, sm4 4, fun d d0 d1 => ?_⟩
      trivial
      have fin : ∀ (s t : Rat), On (LL * 12) (1 * 2 ^ 60) s -> On (LL * 12) (2 ^ 49) t -> PlB 12 1 (ps ++ [(s, t)]) := fun s t os ot p hp => by
        rcases List.mem_append.mp hp with z | z
        · exact pb p z
        · rw [List.mem_singleton.mp z]; exact ⟨os, by rw [Nat.one_mul]; exact ot.p2 (by decide)⟩
      refine ite2 (fun h => ?_) (fun h => ?_)
      · rw [A9w]
        have o40 : On LL (2 ^ 42) ((40 : Int) : Rat) := B35 E6 (Nat.le_of_ble_eq_true rfl)
        have o41 := oq.add2 (b := 43) E6 o40 (by decide)
        refine ⟨q, _, rfl, onL oq (by decide), onL o40 (by decide), ?_⟩
        trivial
        refine ⟨0, _, rfl, smq0, onL o41 (by decide), ?_⟩
        trivial
        refine ⟨x.2.1, x.2.2, rfl, x1, x2.ok, x3, fun t t1 t2 => ?_⟩
        trivial
        exact ⟨by omega, ps ++ [(0 - (q + ((40 : Int) : Rat)), t)], _, _, _, by rw [List.map_append]; rfl, by rw [List.length_append, hl]; rfl, fin _ _ (unOf (by decide) ((On.zero.mono (Nat.zero_le _)).sub2 (b := 44) E6 o41 (by decide)) (by decide)) t1⟩
      · refine ⟨x.2.1, x.2.2, rfl, x1, x2.ok, x3, fun t t1 t2 => ?_⟩
        trivial
        exact ⟨by omega, ps ++ [(q, t)], _, _, _, by rw [List.map_append]; rfl, by rw [List.length_append, hl]; rfl, fin _ _ (unOf (by decide) oq (by decide)) t1⟩
    · rintro e ⟨ps, o3, o4, o5, rfl, hl, pb⟩
      exact hR _ ⟨ps, _, _, _, rfl, hl, pb⟩
  rintro e ⟨ps, o3, o4, o5, rfl, hl, pb⟩
  have up : ∀ {q : Rat} {a : Nat}, On (LL * 12) a q -> On (LL * 36) a q := fun {q a} h => by
    have := h.up (C := 3) (by decide)
    rw [Nat.mul_assoc] at this
    exact this
  have pb2 : PlB 36 2 ps := fun p hp => ⟨Y2 (up (pb p hp).1) (by decide), Y2 (up (pb p hp).2) (by decide)⟩
  trivial
  refine ⟨4, rfl, by decide, sm4 4, fun d d0 d1 => ?_⟩
  trivial
  refine ite2 (fun h => ?_) (fun h => k ps hl pb2)
  refine ⟨_, rfl, by omega, L6 (B := 10) (by omega) (by omega) (by decide), fun a a0 a1 => ?_⟩
  trivial
  obtain ⟨an, rfl⟩ := Int.eq_ofNat_of_zero_le a0
  have han : an < ps.length := by omega
  obtain ⟨p, ep⟩ : ∃ g, ps[an]? = some g := ⟨_, List.getElem?_eq_getElem han⟩
  obtain ⟨x, ex⟩ : ∃ g, xs[an]? = some g := ⟨_, List.getElem?_eq_getElem (by omega)⟩
  obtain ⟨o1', o2'⟩ := pb p (List.mem_of_getElem? ep)
  obtain ⟨x1, x2, x3⟩ := ok.of x (List.mem_of_getElem? ex)
  have e0 := A3m x2.ok.ne
  have oc0 := (x3 _ (List.mem_of_getElem? e0)).1
  refine E5 (n := an) ep ?_
  trivial
  refine E5 (n := an) ex ?_
  rw [show kD x = PyData.tuple [.str x.1, .tuple [.str x.2.1, .list (x.2.2.map dcn)]] from rfl]
  trivial
  refine E5 (n := 0) e0 ?_
  trivial
  refine ⟨_, _, rfl, .inr rfl, fun gap _ _ sg _ => ?_⟩
  have og := M0 sg
  trivial
  refine ⟨_, _, rfl, onL oc0 (by decide), onL og (by decide), ?_⟩
  have oa : On (LL * 36) (2 * 2 ^ 60) ((fstC x.2.2).1 + gap) := Y2 (unOf (by decide) (oc0.add2 (b := 46) E6 (og.p2 (by decide)) (by decide)) (by decide)) (by decide)
  trivial
  rw [B0s]
  have o3 : On 3 1 (Rat.divInt 1 3) := ⟨1, rfl, by decide⟩
  have o4 := o2'.mul o3
  rw [Nat.mul_assoc, Nat.mul_one] at o4
  have o4 : On (LL * 36) (2 * 2 ^ 60) (p.2 * Rat.divInt 1 3) := Y2 (D := 36) (a := 1) o4 (by decide)
  refine ⟨_, _, rfl, unQ o2' (by decide) (by decide) (by decide), onQ o3 (by decide) (Nat.le_trans (show 3 <= 2 ^ 4 by decide) (Nat.pow_le_pow_right (by decide) (by decide))) Nat.one_le_two_pow, ?_⟩
  trivial
  refine ⟨2, rfl, by decide, sm4 2, fun b b0 b1 => ?_⟩
  trivial
  have last : ∀ t : Rat, On (LL * 36) (2 * 2 ^ 60) t -> Qp (.own ((ps.set an (p.1, t)).map dcn)) := fun t ot => k _ (by rw [List.length_set]; exact hl) fun q hq => by
    rcases List.mem_or_eq_of_mem_set hq with z | z
    · exact pb2 q z
    · rw [z]; exact ⟨Y2 (up o1') (by decide), ot⟩
  have hb : b = 0 \/ b = 1 := by omega
  obtain ⟨y1, hy1⟩ : ∃ y, y = (fstC x.2.2).1 + gap := ⟨_, rfl⟩
  obtain ⟨y2, hy2⟩ : ∃ y, y = p.2 * Rat.divInt 1 3 := ⟨_, rfl⟩
  rw [<- hy1] at oa
  rw [<- hy2] at o4
  rw [<- hy1, <- hy2]
  rcases hb with rfl | rfl
  · refine D3 rfl ?_
    trivial
    refine ⟨an, by first | (rw [List.length_map]; exact A3d a0 (by omega)) | exact A3d a0 (by omega), ?_⟩
    have := last y1 oa
    rw [List.map_set] at this
    exact this
  · refine D3 rfl ?_
    trivial
    refine ⟨an, by first | (rw [List.length_map]; exact A3d a0 (by omega)) | exact A3d a0 (by omega), ?_⟩
    have := last y2 o4
    rw [List.map_set] at this
    exact this
def A4d : Pu.PSp := fun as Q => ∃ (xs : List Wk) (ws : List (Int × Int × Rat)) (hs : List (Str × Int × Rat)) (gs : List (List Int)) (ps : List (Rat × Rat)) (n : Nat), as = [.d (netD xs ws hs (gs.map gD)), .d (.list (ps.map dcn))] /\ xs.length <= 10 /\ (∀ x ∈ xs, Kd x.2.1 /\ OfOk x.2.2 100 54 244 130) /\ (∀ p ∈ ps, SmR 339 261 p.2) /\ fiT xs ps = some n /\ Q (.d (.bool true))
theorem A4l (T : Txt K mg D) : FnOk P w K mg base CX0 7 D.a_Lnotime D.d_Lnotime ["_law_net_here", "_law_plan_here"] (Pu.spOf K [.dat, .dat] A4d) := by
  refine T.F_Lnotime.ok sc_Lnotime (Pu.spOf.len rfl) (fun cdv A outer s H vs Q E hr h => ?_)
  refine ⟨_, (QSs.out (A6 (B5u (C := D.k_NoTime) (i := 2) (b := true) (A1m (K := K) T) hr.mo (by rfl) T.m_priceof T.F_priceof.kp (A08 T) (A0 (qpv 0) (A0 (qpv 1) A3)) (by rfl) T.c_HurryError T.xm_NoTime_HurryError sc_Lnotime.nd (by rfl) (by rfl) (fun _ _ he => (A8j (KE.t (B40 he (ExC.of T.xga_NoTime T.xgn_NoTime T.xgc_NoTime T.xsb_NoTime T.xso_NoTime T.xhd_NoTime T.xty_NoTime) (by rfl) T.z_isinstance (by rfl) (Or.inl (by rfl)) (E8 (J5 (by rfl) T.c_NoChange) (E8 (J5 (by rfl) T.c_NoDeed) (E8 (J5 (by rfl) T.c_NoDiary) (E8 (J5 (by rfl) T.c_NoJoin) (E8 (J5 (by rfl) T.c_NoName) (E8 (J5 (by rfl) T.c_NoNet) (E8 (J5 (by rfl) T.c_NoNumber) (E8 (J5 (by rfl) T.c_NoPaper) A9c)))))))) T.xt_NoTime_NoChange_NoDeed_NoDiary_NoJoin_NoName_NoNet_NoNumber_NoPaper (Nat.le_of_ble_eq_true rfl))) (A8j (KE.t (B40 he (ExC.of T.xga_NoTime T.xgn_NoTime T.xgc_NoTime T.xsb_NoTime T.xso_NoTime T.xhd_NoTime T.xty_NoTime) (by rfl) T.z_isinstance (by rfl) (Or.inl (by rfl)) (E8 (J5 (by rfl) T.c_NoRow) (E8 (J5 (by rfl) T.c_NoText) (E8 (J5 (by rfl) T.c_NoTree) (E8 (J5 (by rfl) T.c_NotSteps) (E8 (J5 (by rfl) T.c_NotStraight) (E8 (J5 (by rfl) T.c_TooMany) (E8 (J5 (by rfl) T.c_Unbalanced) A9c))))))) T.xt_NoTime_NoRow_NoText_NoTree_NotSteps_NotStraight_TooMany_Unbalanced (Nat.le_of_ble_eq_true rfl))) (B94 (C0d (C0c he (ExC.of T.xga_NoTime T.xgn_NoTime T.xgc_NoTime T.xsb_NoTime T.xso_NoTime T.xhd_NoTime T.xty_NoTime) (by rfl) T.z_isinstance (by rfl) (Or.inl (by rfl)) (J5 (by rfl) T.c_NoTime) T.xi_NoTime_NoTime) (C0b (C0c he (ExC.of T.xga_NoTime T.xgn_NoTime T.xgc_NoTime T.xsb_NoTime T.xso_NoTime T.xhd_NoTime T.xty_NoTime) (by rfl) T.z_isinstance (by rfl) (Or.inl (by rfl)) (C1y (by rfl) T.z_ValueError (by rfl)) T.xi_NoTime_ValueError))))))))
      (B1 (B6 N8)))), ?_⟩
  haveI := T.c2_NOUGHT
  refine Pu.E9 h ?_
  rintro as Qp ⟨xs, ws, hs, gs, ps, n, rfl, l10, hx, hp, hT, k⟩
  trivial
  unfold B8w
  trivial
  exact ⟨⟨xs, ws, hs, gs, ps, n, rfl, l10, hx, hp, hT⟩, k⟩
def A4e : Pu.PSp := fun as Q => ∃ (ps : List (Rat × Rat)), as = [.d (.list (ps.map dcn))] /\ 1 <= ps.length /\ ps.length <= 1000 /\ (∀ p ∈ ps, PlSm p) /\ ∀ v : Rat, (∀ p ∈ ps, enD p <= v) -> (∃ p ∈ ps, v = enD p) -> Q (.d (dq v))
theorem A4m (T : Txt K mg D) : FnOk P w K mg base CX0 3 D.a_Llatest D.d_Llatest ["_law_plan_here"] (Pu.spOf K [.dat] A4e) := by
  refine T.F_Llatest.ok sc_Llatest (Pu.spOf.len rfl) (fun cdv A outer s H vs Q E hr h => ?_)
  refine ⟨_, (QSs.out (A6 (B3 (i := 1) sc_Llatest.nd rfl (Or.inl rfl) M7)
      (A6 (G6 PassesOwn.never rfl (F1 (K := K) rfl (qpv 0)) (G1 (K := K) (n := 2) rfl rfl (C2 (B5 (i := 2) sc_Llatest.nd rfl (Or.inl rfl) (Or.inl rfl)) (C2 (B5 (i := 3) sc_Llatest.nd rfl (Or.inl rfl) (Or.inl rfl)) G0)) rfl rfl)
        (A6 (B3 (i := 4) sc_Llatest.nd rfl (Or.inl rfl) (A7 (G5 (K := K) T) hr.mo rfl T.m_Lplus T.F_Lplus.kp (J4 T) .nil B4 (A0 (qpv 2) (A0 (qpv 3) A3))))
        (B1 (D9 (QW.pt (Z1 (B9 A1l (qpv 1) M7 (C6 _)) (W1 (F8 (A7 (S1 (K := K) T) hr.mo rfl T.m_Lunder T.F_Lunder.kp (X8 T) .nil B4 (A0 (qpv 1) (A0 (qpv 4) A3)))))))
          (B1 (B3 (i := 1) sc_Llatest.nd rfl (Or.inl rfl) (qpv 4)))
          C3))))
      (B1 (B6 (qpv 1)))))), ?_⟩
  haveI := T.c2_NOUGHT
  refine Pu.E9 h ?_
  rintro as Qp ⟨ps, rfl, h1, h2, hp, k⟩
  trivial
  refine K8 (f := dcn) (xs := ps) (fun i e => ∃ (b : Option Rat) (o2 o3 o4 : Option SV), e = [some (.d (.list (ps.map dcn))), some (.d (vD b)), o2, o3, o4] /\ (b = none -> i = 0) /\ ∀ q, b = some q -> (∃ p ∈ ps, q = enD p) /\ ∀ j r, j < i -> ps[j]? = some r -> enD r <= q) ⟨none, _, _, _, rfl, fun _ => rfl, fun q e => by cases e⟩ ?_ ?_
  · rintro i a e ha ⟨b, o2, o3, o4, rfl, hb0, hb⟩
    have am := List.mem_of_getElem? ha
    trivial
    refine ⟨_, _, rfl, (hp a am).s, (hp a am).t, ?_⟩
    cases b with
    | none =>
      unfold vD
      trivial
      have hi := hb0 rfl
      subst hi
      refine ⟨some (enD a), _, _, _, rfl, (fun e => by cases e), fun q e => ?_⟩
      cases e
      refine ⟨⟨a, am, rfl⟩, fun j r hj hr => ?_⟩
      have : j = 0 := by omega
      subst this; rw [ha] at hr; cases hr; exact Rat.le_refl
    | some q =>
      obtain ⟨⟨p, pm, rfl⟩, hpj⟩ := hb q rfl
      unfold vD
      trivial
      refine ⟨enD p, enD a, rfl, (hp p pm).e, (hp a am).e, ?_⟩
      trivial
      refine ite2 (fun h => ?_) (fun h => ?_)
      · refine ⟨some (enD a), _, _, _, rfl, (fun e => by cases e), fun q e => ?_⟩
        cases e
        refine ⟨⟨a, am, rfl⟩, fun j r hj hr => ?_⟩
        rcases Nat.lt_succ_iff_lt_or_eq.mp hj with z | z
        · exact Rat.le_trans (hpj j r z hr) (Rat.le_of_lt h)
        · subst z; rw [ha] at hr; cases hr; exact Rat.le_refl
      · refine ⟨some (enD p), _, _, _, rfl, (fun e => by cases e), fun q e => ?_⟩
        cases e
        refine ⟨⟨p, pm, rfl⟩, fun j r hj hr => ?_⟩
        rcases Nat.lt_succ_iff_lt_or_eq.mp hj with z | z
        · exact hpj j r z hr
        · subst z; rw [ha] at hr; cases hr; exact Rat.not_lt.mp h
  rintro e ⟨b, o2, o3, o4, rfl, hb0, hb⟩
  cases b with
  | none => have := hb0 rfl; omega
  | some q =>
  obtain ⟨h3, hpj⟩ := hb q rfl
  unfold vD
  trivial
  refine k q (fun r hr => ?_) h3
  obtain ⟨j, hj, ej⟩ := List.getElem_of_mem hr
  exact hpj j r hj (by rw [List.getElem?_eq_getElem hj, ej])
theorem B9o (T : Txt K mg D) : FnOk P w K mg base CX0 10 D.a_law D.d_law ["_law_script"] (B5n K) := by
  refine FnOk.imp (sp := Pu.spOf K [.vw] Pu.pLaw) ?_ Pu.B93
  refine T.F_law.ok sc_law (Pu.spOf.len rfl) (fun cdv A outer s H vs Q E hr h => ?_)
  refine ⟨_, (QSs.out (A6 (G6 PassesOwn.never rfl (F6 rfl T.z_range (A0 (B7 (A98 rfl) (by rfl) T.z_max (by rfl) (A0 A4 (A0 (B7 (A0v rfl) (by rfl) T.z_min (by rfl) (A0 (B7 (C4 (K := K) rfl) (by rfl) T.z_len PySem.boot_len (A0 (qpv 0) A3)) (A0 A4 A3))) A3))) A3)) (B5 (i := 1) sc_law.nd rfl (Or.inl rfl) (Or.inl rfl))
        (A6 (B3 (i := 2) sc_law.nd rfl (Or.inl rfl) (A7 (M1 (K := K) T) hr.mo rfl T.m_Lbegun T.F_Lbegun.kp (O3 T) .nil B4 (A0 (qpv 0) (A0 (B8 F0 (qpv 1) A4) A3))))
        (A6 (B3 (i := 3) sc_law.nd rfl (Or.inl rfl) (B2 (A8 (K := K) rfl) (D6 (A0 (D6 (A0 D1 A3)) (A0 (D6 (A0 D1 A3)) (A0 (D6 (A0 D1 (A0 D1 A3))) A3)))) (A7 (C0 (K := K) T) hr.mo rfl T.m_Ltake T.F_Ltake.kp (C7 T) .nil B4 (A0 (qpv 2) (A0 A4 A3))) (fun _ _ => rfl)))
        (A6 (B3 (i := 4) sc_law.nd rfl (Or.inr rfl) (A7 (B61 (K := K) T) hr.mo rfl T.m_Lnet T.F_Lnet.kp (C0u T) .nil B4 (A0 (qpv 0) (A0 (qpv 1) (A0 (B2 (A8 (K := K) rfl) (D6 (A0 A4 (A0 A4 A3))) (F7 A0y (by rfl) T.z_int (by rfl) (A0 (J1 (D4 (K := K) rfl hr.units) (qpv 1) A4 (C6 _)) A3)) (fun _ _ => rfl)) (A0 A4 (A0 (qpv 3) (A0 N8 A3))))))))
        (A6 (B3 (i := 5) sc_law.nd rfl (Or.inr rfl) (A7 (B1j (K := K) T) hr.mo rfl T.m_Lplan T.F_Lplan.kp (B7q T) .nil B4 (A0 (qpv 2) (A0 (qpv 4) A3))))
        (A6 (G9 (i := 6) rfl sc_law.nd rfl rfl (D7 (N' := ["_law_plan_here", "_law_net_here", "_law_k"]) (cap := [some 5, some 4, none]) rfl rfl rfl rfl (by decide +kernel) rfl rfl) (F6 rfl T.z_range (A0 (B7 (C4 (K := K) rfl) (by rfl) T.z_len PySem.boot_len (A0 (qpv 5) A3)) A3)) (fun _ _ _ => (B5 (i := 2) (show (["_law_plan_here", "_law_net_here", "_law_k"] : List Str).Nodup from by decide +kernel) rfl (Or.inl rfl) (Or.inr rfl))) (fun _ _ _ => G8) (fun _ _ _ => (A7 (A7g (K := K) T) hr.mo rfl T.m_Lprice T.F_Lprice.kp (B2j T) .nil B4 (A0 (B2 (A8 (K := K) rfl) (B2 (A8 (K := K) rfl) (B2 (A8 (K := K) rfl) (qpv 1) A4 (fun _ _ => rfl)) (qpv 2) (fun _ _ => rfl)) A4 (fun _ _ => rfl)) (A0 (B2 (A8 (K := K) rfl) (B2 (A8 (K := K) rfl) (qpv 0) (qpv 2) (fun _ _ => rfl)) A4 (fun _ _ => rfl)) A3)))) rfl)
        (A6 (B3 (i := 7) sc_law.nd rfl (Or.inl rfl) (A7 (B1k (K := K) T) hr.mo rfl T.m_Lcopy T.F_Lcopy.kp (B7r T) .nil B4 (A0 (qpv 4) A3)))
        (A6 (B3 (i := 8) sc_law.nd rfl (Or.inl rfl) (F7 (L1 (K := K) rfl) (by rfl) T.z_list (by rfl) (A0 (qpv 5) A3)))
        (A6 (D9 (B9 (A7b (K := K) rfl hr.units) M7 (qpv 6) (by with_unfolding_all rfl))
          (B1 (D9 (M5 (F8 (A7 (A4l (K := K) T) hr.mo rfl T.m_Lnotime T.F_Lnotime.kp (B0f T) .nil B4 (A0 (qpv 7) (A0 (qpv 8) A3)))))
            (B1 (B6 N8))
            C3))
          (A6 (B3 (i := 9) sc_law.nd rfl (Or.inl rfl) (C5 (A0 A4 (A0 A4 A3))))
          (A6 (G6 PassesOwn.never rfl (F1 (K := K) rfl (qpv 6)) (B5 (i := 10) sc_law.nd rfl (Or.inl rfl) (Or.inl rfl))
            (B1 (B3 (i := 9) sc_law.nd rfl (Or.inl rfl) (A7 (G5 (K := K) T) hr.mo rfl T.m_Lplus T.F_Lplus.kp (J4 T) .nil B4 (A0 (qpv 9) (A0 (qpv 10) A3))))))
          (B1 (D9 (M5 (F8 (A5t (A7 (S2 (K := K) T 8) hr.mo rfl T.m_Lalike T.F_Lalike.kp (Q6 T) .nil B4 (A0 (A7 (A4k (K := K) T) hr.mo rfl T.m_priceof T.F_priceof.kp (A08 T) .nil B4 (A0 (qpv 7) (A0 (qpv 8) A3))) (A0 (qpv 9) A3))))))
            (B1 (B6 N8))
            C3)))))
        (B1 (D9 (QW.pt (Z1 (M5 (F8 (A5t (A7 (S2 (K := K) T 8) hr.mo rfl T.m_Lalike T.F_Lalike.kp (Q6 T) .nil B4 (A0 (A7 (A4j (K := K) T) hr.mo rfl T.m_wholeof T.F_wholeof.kp (B0c T) .nil B4 (A0 (qpv 8) A3)) (A0 (A7 (A4m (K := K) T) hr.mo rfl T.m_Llatest T.F_Llatest.kp (B0g T) .nil B4 (A0 (qpv 5) A3)) A3)))))) (W1 (M5 (F8 (A5t (A7 (S2 (K := K) T 8) hr.mo rfl T.m_Lalike T.F_Lalike.kp (Q6 T) .nil B4 (A0 (C5 (A0 (qpv 7) (A0 (qpv 8) A3))) (A0 (C5 (A0 (qpv 4) (A0 (qpv 5) A3))) A3)))))))))
          (B1 (B6 N8))
          C3)))))))))))
      (B1 (B6 N8)))), ?_⟩
  haveI := T.c2_NOUGHT
  refine Pu.E9 h ?_
  rintro as Qp ⟨ns, rfl, hlen, k⟩
  trivial
  have hm : (if (if 30 < (ns.length : Int) then 30 else (ns.length : Int)) > 1 then if 30 < (ns.length : Int) then 30 else (ns.length : Int) else 1) <= 30 /\ 0 <= (if (if 30 < (ns.length : Int) then 30 else (ns.length : Int)) > 1 then if 30 < (ns.length : Int) then 30 else (ns.length : Int) else 1) := by
    split <;> split <;> omega
  generalize (if (if 30 < (ns.length : Int) then 30 else (ns.length : Int)) > 1 then if 30 < (ns.length : Int) then 30 else (ns.length : Int) else 1) = m at hm ⊢
  refine ⟨⟨by omega, by omega⟩, S6 (fun i e => ∃ (o1 o2 o3 o4 o5 o6 o7 o8 o9 o10 : Option SV), e = [some (.bor (ns.map .int)), o1, o2, o3, o4, o5, o6, o7, o8, o9, o10]) ⟨_, _, _, _, _, _, _, _, _, _, rfl⟩ ?_ ?_⟩
  · rintro i e hi ⟨o1, o2, o3, o4, o5, o6, o7, o8, o9, o10, rfl⟩
    refine hd fun R hR => ?_
    trivial
    refine ⟨ns, _, rfl, by omega, by omega, ?_⟩
    trivial
    subst hR
    refine hd fun R hR => ?_
    trivial
    refine ⟨3, rfl, by decide, sm4 3, fun g g0 g3 => ?_⟩
    trivial
    obtain ⟨kz, ⟨kz1, kz3, hkz⟩, ek⟩ := C1x g0 g3
    refine D3 ek ?_
    trivial
    subst hR
    refine hd fun R hR => ?_
    trivial
    obtain ⟨mw, emw, hmw⟩ : ∃ mw : Int, L2.atI [PyData.int 5, .int 10] (if (i : Int) = 0 then 1 else 0) = some (.int mw) /\ 1 <= mw /\ mw <= 10 := by
      split
      · exact ⟨10, rfl, by decide, by decide⟩
      · exact ⟨5, rfl, by decide, by decide⟩
    refine D3 emw ?_
    trivial
    refine ⟨ns, (i : Int), kz, mw, 5, rfl, by omega, by omega, kz1, kz3, hkz, hmw, ⟨by decide, by decide⟩, fun n xs ws hs gs ok hn hh4 hkk => ?_⟩
    have h1 := ok.ln
    have h2 := ok.n0
    have h3 := ok.n1
    have gl := ok.gl
    unfold netD
    trivial
    subst hR
    refine hd fun R hR => ?_
    trivial
    refine ⟨n, xs, ws, hs, gs, rfl, ok, fun ps hl pb => ?_⟩
    trivial
    subst hR
    have h36 : LL * 36 <= 2 ^ 120 := Nat.le_of_ble_eq_true rfl
    have smt : ∀ p ∈ ps, SmR 339 261 p.2 := fun p hp => B34 (by decide) (pb p hp).2 (Nat.lt_of_le_of_lt (Nat.mul_le_mul (Nat.le_of_ble_eq_true rfl : 2 * 2 ^ 60 <= 2 ^ 62) h36) (by rw [<- Nat.pow_add]; exact Nat.pow_lt_pow_right (by decide) (by decide))) (Nat.lt_of_le_of_lt h36 (Nat.pow_lt_pow_right (by decide) (by decide)))
    have hx : ∀ x ∈ xs, Kd x.2.1 /\ OfOk x.2.2 100 54 244 130 := fun x hx => ⟨(ok.of x hx).1, (ok.of x hx).2.1.ok⟩
    refine hd fun R hR => ?_
    trivial
    refine ⟨⟨by omega, by omega⟩, by rw [J7]; omega, ?_⟩
    refine Q3 (fun j e ys => ∃ (o : Option SV) (os : List (Option Rat)), e = [some (.bor (ps.map dcn)), some (.d (.tuple [.list (xs.map kD), .list (ws.map wD), .list (hs.map hD), .list (gs.map gD)])), o] /\ ys = os.map vD /\ os.length = j /\ Told xs ps os) ⟨_, [], rfl, rfl, rfl, fun i x p o _ _ h => by simp at h⟩ ?_ ?_
    · rintro j e ys hj ⟨o, os, rfl, rfl, hol, tl⟩
      have hj' : j < ps.length := by simpa using hj
      obtain ⟨p, ep⟩ : ∃ g, ps[j]? = some g := ⟨_, List.getElem?_eq_getElem hj'⟩
      obtain ⟨x, ex⟩ : ∃ g, xs[j]? = some g := ⟨_, List.getElem?_eq_getElem (by omega)⟩
      have more : ∀ o' : Option Rat, ((offB x.2.1 x.2.2 p.2 = true -> ∃ q, o' = some q /\ Price x.2.2 p.2 q) /\ (offB x.2.1 x.2.2 p.2 = false -> o' = none)) -> Told xs ps (os ++ [o']) := fun o' ho i x' p' q ex' ep' eq' => by
        rcases Nat.lt_trichotomy i os.length with z | z | z
        · rw [List.getElem?_append_left z] at eq'; exact tl i x' p' q ex' ep' eq'
        · subst z
          rw [hol] at ex' ep'
          rw [ex] at ex'; rw [ep] at ep'
          cases ex'; cases ep'
          have : q = o' := by simpa using eq'.symm
          rw [this]; exact ho
        · rw [List.getElem?_eq_none (by rw [List.length_append, List.length_singleton]; omega)] at eq'; cases eq'
      trivial
      refine E5 (n := j) ex ?_
      rw [show kD x = PyData.tuple [.str x.1, offD x.2.1 x.2.2] from rfl]
      trivial
      refine E5 (n := j) ep ?_
      trivial
      refine ⟨x.2.1, x.2.2, p.2, rfl, (hx x (List.mem_of_getElem? ex)).1, (hx x (List.mem_of_getElem? ex)).2, smt p (List.mem_of_getElem? ep), fun hof q hq => ?_, fun hof => ?_⟩
      · trivial
        exact ⟨_, os ++ [some q], rfl, by rw [List.map_append]; rfl, by rw [List.length_append, hol]; rfl, more _ ⟨fun _ => ⟨q, rfl, hq⟩, fun z => by rw [hof] at z; cases z⟩⟩
      · trivial
        exact ⟨_, os ++ [none], rfl, by rw [List.map_append]; rfl, by rw [List.length_append, hol]; rfl, more _ ⟨(fun z => by rw [hof] at z; cases z), fun _ => rfl⟩⟩
    rintro e ys ⟨o, os, rfl, rfl, hol, tl⟩
    have hol : os.length = xs.length := by simpa [hl] using hol
    trivial
    subst hR
    refine hd fun R hR => ?_
    trivial
    refine ⟨xs, ws, hs, gs, rfl, by omega, by omega, ?_⟩
    unfold netD
    trivial
    subst hR
    refine hd fun R hR => ?_
    trivial
    subst hR
    have Q36 : ∀ {q : Rat} (l : Nat), On (LL * 36) (l * 2 ^ 60) q -> l <= 2 ^ 12 -> SmQ 3900 q := fun l o hl => unQ o (by decide) (by decide) hl
    have plsm : ∀ p ∈ ps, PlSm p := fun p hp => ⟨Q36 2 (pb p hp).1 (by decide), Q36 2 (pb p hp).2 (by decide), Q36 4 (B5e (by decide) (pb p hp).1 (pb p hp).2 (by decide)) (by decide)⟩
    have tm : ∀ p ∈ ps, On (LL * 36) (2 ^ 72) p.2 := fun p hp => (pb p hp).2.mono (Nat.le_of_ble_eq_true rfl)
    have hB : 0 < LL * (LL * 36) := by decide
    have bB : LL * (LL * 36) <= 2 ^ 1000 := Nat.le_trans (Nat.le_of_ble_eq_true rfl : LL * (LL * 36) <= 2 ^ 220) (Nat.pow_le_pow_right (by decide) (by decide))
    have look : ∀ (j : Nat) x p, xs[j]? = some x -> ps[j]? = some p -> ∃ o, os[j]? = some o := fun j x p ex ep => ⟨_, List.getElem?_eq_getElem (by rw [hol]; exact (List.getElem?_eq_some_iff.mp ex).1)⟩
    refine A5i (fun e => ∃ (o6 o9 o10 : Option SV), e = [some (.bor (ns.map .int)), some (.d (.int (i : Int))), some .st, some (.d (.list (kz.map .str))), some (.d (.tuple [.list (xs.map kD), .list (ws.map wD), .list (hs.map hD), .list (gs.map gD)])), some (.own (ps.map dcn)), o6, some (.d (.tuple [.list (xs.map kD), .list (ws.map wD), .list (hs.map hD), .list (gs.map gD)])), some (.d (.list (ps.map dcn))), o9, o10]) (fun R hR => ?_) ?_
    · trivial
      refine ⟨B4j os, ?_⟩
      rw [B46]
      cases ho : os.any Option.isNone with
      | true =>
        trivial
        obtain ⟨nn, hT⟩ : ∃ nn, fiT xs ps = some nn := by
          cases q : fiT xs ps with
          | some nn => exact ⟨nn, rfl⟩
          | none =>
            exfalso
            obtain ⟨o, hm, hno⟩ := List.any_eq_true.mp ho
            obtain ⟨j, hj⟩ := List.mem_iff_getElem?.mp hm
            have hjl : j < xs.length := by rw [<- hol]; exact (List.getElem?_eq_some_iff.mp hj).1
            have ex := List.getElem?_eq_getElem hjl
            have ep := List.getElem?_eq_getElem (show j < ps.length by omega)
            have hof := A9n hl.symm q (w := (j : Int)) (by omega) (by omega)
            rw [A41 ex, A5k ep] at hof
            obtain ⟨z, hz, _⟩ := (tl j _ _ o ex ep hj).1 hof
            rw [hz] at hno; cases hno
        refine ⟨xs, ws, hs, gs, ps, nn, rfl, by omega, hx, smt, hT, ?_⟩
        trivial
        exact hR _ ⟨_, _, _, rfl⟩
      | false =>
        obtain ⟨qs, hqs⟩ := A32 ho
        have hyes : ∀ (j : Nat) x p, xs[j]? = some x -> ps[j]? = some p -> offB x.2.1 x.2.2 p.2 = true := fun j x p ex ep => by
          cases q : offB x.2.1 x.2.2 p.2 with
          | true => rfl
          | false =>
            obtain ⟨o, eo⟩ := look j x p ex ep
            have := (tl j x p o ex ep eo).2 q
            rw [hqs, List.getElem?_map] at eo
            obtain ⟨z, _, hz⟩ := Option.map_eq_some_iff.mp eo
            rw [this] at hz; cases hz
        have hT : fiT xs ps = none := B14 fun j x p _ ex ep => hyes j x p ex ep
        have pr : Prs xs ps qs := ⟨by rw [<- hol, hqs, List.length_map], fun j x p q ex ep eq => by
          have eo : os[j]? = some (some q) := by rw [hqs, List.getElem?_map, eq]; rfl
          obtain ⟨z, hz, hp⟩ := (tl j x p _ ex ep eo).1 (hyes j x p ex ep)
          cases hz; exact hp⟩
        have oq : ∀ q ∈ qs, On (LL * (LL * 36)) (2 ^ 120) q := fun q hq => by
          obtain ⟨j, hj⟩ := List.mem_iff_getElem?.mp hq
          have hjl : j < xs.length := by rw [<- pr.1]; exact (List.getElem?_eq_some_iff.mp hj).1
          have ex := List.getElem?_eq_getElem hjl
          have ep := List.getElem?_eq_getElem (show j < ps.length by omega)
          have xm := List.mem_of_getElem? ex
          exact Z9 (hx _ xm).1 (hx _ xm).2.ne (hx _ xm).2.dec (by decide) (ok.of _ xm).2.2 (ok.os _ xm) (tm _ (List.mem_of_getElem? ep)) (hyes j _ _ ex ep) (pr.2 j _ _ _ ex ep hj)
        have smS : ∀ j : Nat, SmQ 3900 (My.S (qs.take j)) := fun j => by
          refine onQ (On_S hB fun q hz => oq q (List.mem_of_mem_take hz)) hB bB (Nat.le_trans (Nat.mul_le_mul_right _ (show (qs.take j).length <= 2 ^ 4 by rw [List.length_take, pr.1]; omega)) ?_)
          rw [<- Nat.pow_add]; exact Nat.pow_le_pow_right (by decide) (by decide)
        rw [show os.map vD = qs.map dq by rw [hqs, List.map_map]; rfl]
        trivial
        refine K8 (f := dq) (xs := qs) (fun j e => ∃ (o10 : Option SV), e = [some (.bor (ns.map .int)), some (.d (.int (i : Int))), some .st, some (.d (.list (kz.map .str))), some (.d (.tuple [.list (xs.map kD), .list (ws.map wD), .list (hs.map hD), .list (gs.map gD)])), some (.own (ps.map dcn)), some (.d (.list (qs.map dq))), some (.d (.tuple [.list (xs.map kD), .list (ws.map wD), .list (hs.map hD), .list (gs.map gD)])), some (.own (ps.map dcn)), some (.d (dq (My.S (qs.take j)))), o10]) ⟨_, rfl⟩ ?_ ?_
        · rintro j q e hq ⟨o10, rfl⟩
          trivial
          refine ⟨_, _, rfl, smS j, onQ (oq q (List.mem_of_getElem? hq)) hB bB (Nat.pow_le_pow_right (by decide) (by decide)), ?_⟩
          trivial
          exact ⟨_, by rw [T1 hq]⟩
        rintro e ⟨o10, rfl⟩
        rw [List.take_length]
        trivial
        refine ⟨xs, ws, hs, gs, ps, 36, rfl, hl.symm, by omega, ⟨by decide, by decide⟩, fun x xm => ⟨(hx x xm).1, (hx x xm).2, (ok.of x xm).2.2, ok.os x xm⟩, tm, hT, fun qs2 pr2 oq2 => ?_⟩
        rw [B09 hl pr2 pr]
        trivial
        refine ⟨_, rfl, A0b _ _, ?_⟩
        trivial
        refine ⟨true, rfl, ?_⟩
        rw [if_neg (by decide)]
        exact hR _ ⟨_, _, _, rfl⟩
    rintro e ⟨o6, o9, o10, rfl⟩
    trivial
    refine ⟨ps, rfl, by omega, by omega, plsm, fun v1 a1 b1 => ?_⟩
    trivial
    refine ⟨ps, rfl, by omega, by omega, plsm, fun v2 a2 b2 => ?_⟩
    have e12 : v1 = v2 := by
      obtain ⟨p1, m1, rfl⟩ := b1
      obtain ⟨p2, m2, rfl⟩ := b2
      exact Rat.le_antisymm (a2 p1 m1) (a1 p2 m2)
    rw [e12]
    trivial
    refine ⟨_, rfl, A0b _ _, ?_⟩
    trivial
    refine ⟨true, rfl, ?_⟩
    trivial
    refine ⟨_, rfl, A4p (by show 2 < 1000; decide) (F9 (B62 ok) (F9 (B36 (by omega) 4) V5)), ?_⟩
    trivial
    refine ⟨true, rfl, ?_⟩
    trivial
    exact ⟨_, _, _, _, _, _, _, _, _, _, rfl⟩
  rintro e ⟨o1, o2, o3, o4, o5, o6, o7, o8, o9, o10, rfl⟩
  trivial
  exact k
end
theorem all_mk {l : PySem.W.OpenLaw} {w : World} {K : PySem.W.Frag} {h : Heap} {mg : Str -> Option Value} {fa : Addr} (X : K.In h) (G : h.Ns mainGlobals mg) (hfa : mg "law" = some (.ref fa))
    {od_commonpart an_commonpart : Option Addr} {sl_commonpart : Array (Option Value)} {oc_commonpart kV_commonpart dc_commonpart pm_commonpart cd_commonpart ct_commonpart : Value} {a_commonpart : Addr}
    {od_plus an_plus : Option Addr} {sl_plus : Array (Option Value)} {oc_plus kV_plus dc_plus pm_plus cd_plus ct_plus : Value} {a_plus : Addr}
    {od_minus an_minus : Option Addr} {sl_minus : Array (Option Value)} {oc_minus kV_minus dc_minus pm_minus cd_minus ct_minus : Value} {a_minus : Addr}
    {od_product an_product : Option Addr} {sl_product : Array (Option Value)} {oc_product kV_product dc_product pm_product cd_product ct_product : Value} {a_product : Addr}
    {od_parted an_parted : Option Addr} {sl_parted : Array (Option Value)} {oc_parted kV_parted dc_parted pm_parted cd_parted ct_parted : Value} {a_parted : Addr}
    {od_isless an_isless : Option Addr} {sl_isless : Array (Option Value)} {oc_isless kV_isless dc_isless pm_isless cd_isless ct_isless : Value} {a_isless : Addr}
    {od_larger an_larger : Option Addr} {sl_larger : Array (Option Value)} {oc_larger kV_larger dc_larger pm_larger cd_larger ct_larger : Value} {a_larger : Addr}
    {od_sumof an_sumof : Option Addr} {sl_sumof : Array (Option Value)} {oc_sumof kV_sumof dc_sumof pm_sumof cd_sumof ct_sumof : Value} {a_sumof : Addr}
    {od_ratebetween an_ratebetween : Option Addr} {sl_ratebetween : Array (Option Value)} {oc_ratebetween kV_ratebetween dc_ratebetween pm_ratebetween cd_ratebetween ct_ratebetween : Value} {a_ratebetween : Addr}
    {od_isoffered an_isoffered : Option Addr} {sl_isoffered : Array (Option Value)} {oc_isoffered kV_isoffered dc_isoffered pm_isoffered cd_isoffered ct_isoffered : Value} {a_isoffered : Addr}
    {od_cornersabove an_cornersabove : Option Addr} {sl_cornersabove : Array (Option Value)} {oc_cornersabove kV_cornersabove dc_cornersabove pm_cornersabove cd_cornersabove ct_cornersabove : Value} {a_cornersabove : Addr}
    {od_priceoftime an_priceoftime : Option Addr} {sl_priceoftime : Array (Option Value)} {oc_priceoftime kV_priceoftime dc_priceoftime pm_priceoftime cd_priceoftime ct_priceoftime : Value} {a_priceoftime : Addr}
    {od_endof an_endof : Option Addr} {sl_endof : Array (Option Value)} {oc_endof kV_endof dc_endof pm_endof cd_endof ct_endof : Value} {a_endof : Addr}
    {od_priceof an_priceof : Option Addr} {sl_priceof : Array (Option Value)} {oc_priceof kV_priceof dc_priceof pm_priceof cd_priceof ct_priceof : Value} {a_priceof : Addr}
    {od_wholeof an_wholeof : Option Addr} {sl_wholeof : Array (Option Value)} {oc_wholeof kV_wholeof dc_wholeof pm_wholeof cd_wholeof ct_wholeof : Value} {a_wholeof : Addr}
    {od_Lbegun an_Lbegun : Option Addr} {sl_Lbegun : Array (Option Value)} {oc_Lbegun kV_Lbegun dc_Lbegun pm_Lbegun cd_Lbegun ct_Lbegun : Value} {a_Lbegun : Addr}
    {od_Ltake an_Ltake : Option Addr} {sl_Ltake : Array (Option Value)} {oc_Ltake kV_Ltake dc_Ltake pm_Ltake cd_Ltake ct_Ltake : Value} {a_Ltake : Addr}
    {od_Llow an_Llow : Option Addr} {sl_Llow : Array (Option Value)} {oc_Llow kV_Llow dc_Llow pm_Llow cd_Llow ct_Llow : Value} {a_Llow : Addr}
    {od_Lplus an_Lplus : Option Addr} {sl_Lplus : Array (Option Value)} {oc_Lplus kV_Lplus dc_Lplus pm_Lplus cd_Lplus ct_Lplus : Value} {a_Lplus : Addr}
    {od_Lminus an_Lminus : Option Addr} {sl_Lminus : Array (Option Value)} {oc_Lminus kV_Lminus dc_Lminus pm_Lminus cd_Lminus ct_Lminus : Value} {a_Lminus : Addr}
    {od_Ltimes an_Ltimes : Option Addr} {sl_Ltimes : Array (Option Value)} {oc_Ltimes kV_Ltimes dc_Ltimes pm_Ltimes cd_Ltimes ct_Ltimes : Value} {a_Ltimes : Addr}
    {od_Lunder an_Lunder : Option Addr} {sl_Lunder : Array (Option Value)} {oc_Lunder kV_Lunder dc_Lunder pm_Lunder cd_Lunder ct_Lunder : Value} {a_Lunder : Addr}
    {od_Lamount an_Lamount : Option Addr} {sl_Lamount : Array (Option Value)} {oc_Lamount kV_Lamount dc_Lamount pm_Lamount cd_Lamount ct_Lamount : Value} {a_Lamount : Addr}
    {od_Loffer an_Loffer : Option Addr} {sl_Loffer : Array (Option Value)} {oc_Loffer kV_Loffer dc_Loffer pm_Loffer cd_Loffer ct_Loffer : Value} {a_Loffer : Addr}
    {od_Lnames an_Lnames : Option Addr} {sl_Lnames : Array (Option Value)} {oc_Lnames kV_Lnames dc_Lnames pm_Lnames cd_Lnames ct_Lnames : Value} {a_Lnames : Addr}
    {od_Lorder an_Lorder : Option Addr} {sl_Lorder : Array (Option Value)} {oc_Lorder kV_Lorder dc_Lorder pm_Lorder cd_Lorder ct_Lorder : Value} {a_Lorder : Addr}
    {od_Llag an_Llag : Option Addr} {sl_Llag : Array (Option Value)} {oc_Llag kV_Llag dc_Llag pm_Llag cd_Llag ct_Llag : Value} {a_Llag : Addr}
    {od_Lwaits an_Lwaits : Option Addr} {sl_Lwaits : Array (Option Value)} {oc_Lwaits kV_Lwaits dc_Lwaits pm_Lwaits cd_Lwaits ct_Lwaits : Value} {a_Lwaits : Addr}
    {od_Lholds an_Lholds : Option Addr} {sl_Lholds : Array (Option Value)} {oc_Lholds kV_Lholds dc_Lholds pm_Lholds cd_Lholds ct_Lholds : Value} {a_Lholds : Addr}
    {od_Lgroups an_Lgroups : Option Addr} {sl_Lgroups : Array (Option Value)} {oc_Lgroups kV_Lgroups dc_Lgroups pm_Lgroups cd_Lgroups ct_Lgroups : Value} {a_Lgroups : Addr}
    {od_Lnet an_Lnet : Option Addr} {sl_Lnet : Array (Option Value)} {oc_Lnet kV_Lnet dc_Lnet pm_Lnet cd_Lnet ct_Lnet : Value} {a_Lnet : Addr}
    {od_Lalike an_Lalike : Option Addr} {sl_Lalike : Array (Option Value)} {oc_Lalike kV_Lalike dc_Lalike pm_Lalike cd_Lalike ct_Lalike : Value} {a_Lalike : Addr}
    {od_Lcopy an_Lcopy : Option Addr} {sl_Lcopy : Array (Option Value)} {oc_Lcopy kV_Lcopy dc_Lcopy pm_Lcopy cd_Lcopy ct_Lcopy : Value} {a_Lcopy : Addr}
    {od_Ltime an_Ltime : Option Addr} {sl_Ltime : Array (Option Value)} {oc_Ltime kV_Ltime dc_Ltime pm_Ltime cd_Ltime ct_Ltime : Value} {a_Ltime : Addr}
    {od_Lprice an_Lprice : Option Addr} {sl_Lprice : Array (Option Value)} {oc_Lprice kV_Lprice dc_Lprice pm_Lprice cd_Lprice ct_Lprice : Value} {a_Lprice : Addr}
    {od_Lplan an_Lplan : Option Addr} {sl_Lplan : Array (Option Value)} {oc_Lplan kV_Lplan dc_Lplan pm_Lplan cd_Lplan ct_Lplan : Value} {a_Lplan : Addr}
    {od_Lnotime an_Lnotime : Option Addr} {sl_Lnotime : Array (Option Value)} {oc_Lnotime kV_Lnotime dc_Lnotime pm_Lnotime cd_Lnotime ct_Lnotime : Value} {a_Lnotime : Addr}
    {od_Llatest an_Llatest : Option Addr} {sl_Llatest : Array (Option Value)} {oc_Llatest kV_Llatest dc_Llatest pm_Llatest cd_Llatest ct_Llatest : Value} {a_Llatest : Addr}
    {od_law an_law : Option Addr} {sl_law : Array (Option Value)} {oc_law kV_law dc_law pm_law cd_law ct_law : Value} {a_law : Addr}
    {q_NOUGHT : Addr}
    {q_NoTime : Addr}
    {q_HurryError : Addr}
    {q_NoChange : Addr}
    {q_NoDeed : Addr}
    {q_NoDiary : Addr}
    {q_NoJoin : Addr}
    {q_NoName : Addr}
    {q_NoNet : Addr}
    {q_NoNumber : Addr}
    {q_NoPaper : Addr}
    {q_NoRow : Addr}
    {q_NoText : Addr}
    {q_NoTree : Addr}
    {q_NotSteps : Addr}
    {q_NotStraight : Addr}
    {q_TooMany : Addr}
    {q_Unbalanced : Addr}
    {od_NOUGHT : Option Addr} {its_NOUGHT : Array Value} {n_NOUGHT : Nat} {sl_NOUGHT : Array (Option Value)} {t0_NOUGHT t1_NOUGHT : Tok}
    (g_commonpart : PySem.W.nsIn K mainGlobals "common_part" = some (some (.ref a_commonpart)))
    (l_commonpart : K.lookup a_commonpart = some ⟨oc_commonpart, od_commonpart, .func (PySem.W.fnOf "common_part" "common_part" (B0 s_commonpart) (A9 s_commonpart) (A5 s_commonpart) .none kV_commonpart dc_commonpart pm_commonpart an_commonpart cd_commonpart ct_commonpart), sl_commonpart⟩)
    (c_commonpart : PySem.W.codeIn K cd_commonpart "common_part" = true)
    (k_commonpart : PySem.W.keepIn K (.ref a_commonpart) = true)
    (g_plus : PySem.W.nsIn K mainGlobals "plus" = some (some (.ref a_plus)))
    (l_plus : K.lookup a_plus = some ⟨oc_plus, od_plus, .func (PySem.W.fnOf "plus" "plus" (B0 s_plus) (A9 s_plus) (A5 s_plus) .none kV_plus dc_plus pm_plus an_plus cd_plus ct_plus), sl_plus⟩)
    (c_plus : PySem.W.codeIn K cd_plus "plus" = true)
    (k_plus : PySem.W.keepIn K (.ref a_plus) = true)
    (g_minus : PySem.W.nsIn K mainGlobals "minus" = some (some (.ref a_minus)))
    (l_minus : K.lookup a_minus = some ⟨oc_minus, od_minus, .func (PySem.W.fnOf "minus" "minus" (B0 s_minus) (A9 s_minus) (A5 s_minus) .none kV_minus dc_minus pm_minus an_minus cd_minus ct_minus), sl_minus⟩)
    (c_minus : PySem.W.codeIn K cd_minus "minus" = true)
    (k_minus : PySem.W.keepIn K (.ref a_minus) = true)
    (g_product : PySem.W.nsIn K mainGlobals "product" = some (some (.ref a_product)))
    (l_product : K.lookup a_product = some ⟨oc_product, od_product, .func (PySem.W.fnOf "product" "product" (B0 s_product) (A9 s_product) (A5 s_product) .none kV_product dc_product pm_product an_product cd_product ct_product), sl_product⟩)
    (c_product : PySem.W.codeIn K cd_product "product" = true)
    (k_product : PySem.W.keepIn K (.ref a_product) = true)
    (g_parted : PySem.W.nsIn K mainGlobals "parted" = some (some (.ref a_parted)))
    (l_parted : K.lookup a_parted = some ⟨oc_parted, od_parted, .func (PySem.W.fnOf "parted" "parted" (B0 s_parted) (A9 s_parted) (A5 s_parted) .none kV_parted dc_parted pm_parted an_parted cd_parted ct_parted), sl_parted⟩)
    (c_parted : PySem.W.codeIn K cd_parted "parted" = true)
    (k_parted : PySem.W.keepIn K (.ref a_parted) = true)
    (g_isless : PySem.W.nsIn K mainGlobals "is_less" = some (some (.ref a_isless)))
    (l_isless : K.lookup a_isless = some ⟨oc_isless, od_isless, .func (PySem.W.fnOf "is_less" "is_less" (B0 s_isless) (A9 s_isless) (A5 s_isless) .none kV_isless dc_isless pm_isless an_isless cd_isless ct_isless), sl_isless⟩)
    (c_isless : PySem.W.codeIn K cd_isless "is_less" = true)
    (k_isless : PySem.W.keepIn K (.ref a_isless) = true)
    (g_larger : PySem.W.nsIn K mainGlobals "larger" = some (some (.ref a_larger)))
    (l_larger : K.lookup a_larger = some ⟨oc_larger, od_larger, .func (PySem.W.fnOf "larger" "larger" (B0 s_larger) (A9 s_larger) (A5 s_larger) .none kV_larger dc_larger pm_larger an_larger cd_larger ct_larger), sl_larger⟩)
    (c_larger : PySem.W.codeIn K cd_larger "larger" = true)
    (k_larger : PySem.W.keepIn K (.ref a_larger) = true)
    (g_sumof : PySem.W.nsIn K mainGlobals "sum_of" = some (some (.ref a_sumof)))
    (l_sumof : K.lookup a_sumof = some ⟨oc_sumof, od_sumof, .func (PySem.W.fnOf "sum_of" "sum_of" (B0 s_sumof) (A9 s_sumof) (A5 s_sumof) .none kV_sumof dc_sumof pm_sumof an_sumof cd_sumof ct_sumof), sl_sumof⟩)
    (c_sumof : PySem.W.codeIn K cd_sumof "sum_of" = true)
    (k_sumof : PySem.W.keepIn K (.ref a_sumof) = true)
    (g_ratebetween : PySem.W.nsIn K mainGlobals "rate_between" = some (some (.ref a_ratebetween)))
    (l_ratebetween : K.lookup a_ratebetween = some ⟨oc_ratebetween, od_ratebetween, .func (PySem.W.fnOf "rate_between" "rate_between" (B0 s_ratebetween) (A9 s_ratebetween) (A5 s_ratebetween) .none kV_ratebetween dc_ratebetween pm_ratebetween an_ratebetween cd_ratebetween ct_ratebetween), sl_ratebetween⟩)
    (c_ratebetween : PySem.W.codeIn K cd_ratebetween "rate_between" = true)
    (k_ratebetween : PySem.W.keepIn K (.ref a_ratebetween) = true)
    (g_isoffered : PySem.W.nsIn K mainGlobals "is_offered" = some (some (.ref a_isoffered)))
    (l_isoffered : K.lookup a_isoffered = some ⟨oc_isoffered, od_isoffered, .func (PySem.W.fnOf "is_offered" "is_offered" (B0 s_isoffered) (A9 s_isoffered) (A5 s_isoffered) .none kV_isoffered dc_isoffered pm_isoffered an_isoffered cd_isoffered ct_isoffered), sl_isoffered⟩)
    (c_isoffered : PySem.W.codeIn K cd_isoffered "is_offered" = true)
    (k_isoffered : PySem.W.keepIn K (.ref a_isoffered) = true)
    (g_cornersabove : PySem.W.nsIn K mainGlobals "corners_above" = some (some (.ref a_cornersabove)))
    (l_cornersabove : K.lookup a_cornersabove = some ⟨oc_cornersabove, od_cornersabove, .func (PySem.W.fnOf "corners_above" "corners_above" (B0 s_cornersabove) (A9 s_cornersabove) (A5 s_cornersabove) .none kV_cornersabove dc_cornersabove pm_cornersabove an_cornersabove cd_cornersabove ct_cornersabove), sl_cornersabove⟩)
    (c_cornersabove : PySem.W.codeIn K cd_cornersabove "corners_above" = true)
    (k_cornersabove : PySem.W.keepIn K (.ref a_cornersabove) = true)
    (g_priceoftime : PySem.W.nsIn K mainGlobals "price_of_time" = some (some (.ref a_priceoftime)))
    (l_priceoftime : K.lookup a_priceoftime = some ⟨oc_priceoftime, od_priceoftime, .func (PySem.W.fnOf "price_of_time" "price_of_time" (B0 s_priceoftime) (A9 s_priceoftime) (A5 s_priceoftime) .none kV_priceoftime dc_priceoftime pm_priceoftime an_priceoftime cd_priceoftime ct_priceoftime), sl_priceoftime⟩)
    (c_priceoftime : PySem.W.codeIn K cd_priceoftime "price_of_time" = true)
    (k_priceoftime : PySem.W.keepIn K (.ref a_priceoftime) = true)
    (g_endof : PySem.W.nsIn K mainGlobals "end_of" = some (some (.ref a_endof)))
    (l_endof : K.lookup a_endof = some ⟨oc_endof, od_endof, .func (PySem.W.fnOf "end_of" "end_of" (B0 s_endof) (A9 s_endof) (A5 s_endof) .none kV_endof dc_endof pm_endof an_endof cd_endof ct_endof), sl_endof⟩)
    (c_endof : PySem.W.codeIn K cd_endof "end_of" = true)
    (k_endof : PySem.W.keepIn K (.ref a_endof) = true)
    (g_priceof : PySem.W.nsIn K mainGlobals "price_of" = some (some (.ref a_priceof)))
    (l_priceof : K.lookup a_priceof = some ⟨oc_priceof, od_priceof, .func (PySem.W.fnOf "price_of" "price_of" (B0 s_priceof) (A9 s_priceof) (A5 s_priceof) .none kV_priceof dc_priceof pm_priceof an_priceof cd_priceof ct_priceof), sl_priceof⟩)
    (c_priceof : PySem.W.codeIn K cd_priceof "price_of" = true)
    (k_priceof : PySem.W.keepIn K (.ref a_priceof) = true)
    (g_wholeof : PySem.W.nsIn K mainGlobals "whole_of" = some (some (.ref a_wholeof)))
    (l_wholeof : K.lookup a_wholeof = some ⟨oc_wholeof, od_wholeof, .func (PySem.W.fnOf "whole_of" "whole_of" (B0 s_wholeof) (A9 s_wholeof) (A5 s_wholeof) .none kV_wholeof dc_wholeof pm_wholeof an_wholeof cd_wholeof ct_wholeof), sl_wholeof⟩)
    (c_wholeof : PySem.W.codeIn K cd_wholeof "whole_of" = true)
    (k_wholeof : PySem.W.keepIn K (.ref a_wholeof) = true)
    (g_Lbegun : PySem.W.nsIn K mainGlobals "_law_begun" = some (some (.ref a_Lbegun)))
    (l_Lbegun : K.lookup a_Lbegun = some ⟨oc_Lbegun, od_Lbegun, .func (PySem.W.fnOf "_law_begun" "_law_begun" (B0 s_Lbegun) (A9 s_Lbegun) (A5 s_Lbegun) .none kV_Lbegun dc_Lbegun pm_Lbegun an_Lbegun cd_Lbegun ct_Lbegun), sl_Lbegun⟩)
    (c_Lbegun : PySem.W.codeIn K cd_Lbegun "_law_begun" = true)
    (k_Lbegun : PySem.W.keepIn K (.ref a_Lbegun) = true)
    (g_Ltake : PySem.W.nsIn K mainGlobals "_law_take" = some (some (.ref a_Ltake)))
    (l_Ltake : K.lookup a_Ltake = some ⟨oc_Ltake, od_Ltake, .func (PySem.W.fnOf "_law_take" "_law_take" (B0 s_Ltake) (A9 s_Ltake) (A5 s_Ltake) .none kV_Ltake dc_Ltake pm_Ltake an_Ltake cd_Ltake ct_Ltake), sl_Ltake⟩)
    (c_Ltake : PySem.W.codeIn K cd_Ltake "_law_take" = true)
    (k_Ltake : PySem.W.keepIn K (.ref a_Ltake) = true)
    (g_Llow : PySem.W.nsIn K mainGlobals "_law_low" = some (some (.ref a_Llow)))
    (l_Llow : K.lookup a_Llow = some ⟨oc_Llow, od_Llow, .func (PySem.W.fnOf "_law_low" "_law_low" (B0 s_Llow) (A9 s_Llow) (A5 s_Llow) .none kV_Llow dc_Llow pm_Llow an_Llow cd_Llow ct_Llow), sl_Llow⟩)
    (c_Llow : PySem.W.codeIn K cd_Llow "_law_low" = true)
    (k_Llow : PySem.W.keepIn K (.ref a_Llow) = true)
    (g_Lplus : PySem.W.nsIn K mainGlobals "_law_plus" = some (some (.ref a_Lplus)))
    (l_Lplus : K.lookup a_Lplus = some ⟨oc_Lplus, od_Lplus, .func (PySem.W.fnOf "_law_plus" "_law_plus" (B0 s_Lplus) (A9 s_Lplus) (A5 s_Lplus) .none kV_Lplus dc_Lplus pm_Lplus an_Lplus cd_Lplus ct_Lplus), sl_Lplus⟩)
    (c_Lplus : PySem.W.codeIn K cd_Lplus "_law_plus" = true)
    (k_Lplus : PySem.W.keepIn K (.ref a_Lplus) = true)
    (g_Lminus : PySem.W.nsIn K mainGlobals "_law_minus" = some (some (.ref a_Lminus)))
    (l_Lminus : K.lookup a_Lminus = some ⟨oc_Lminus, od_Lminus, .func (PySem.W.fnOf "_law_minus" "_law_minus" (B0 s_Lminus) (A9 s_Lminus) (A5 s_Lminus) .none kV_Lminus dc_Lminus pm_Lminus an_Lminus cd_Lminus ct_Lminus), sl_Lminus⟩)
    (c_Lminus : PySem.W.codeIn K cd_Lminus "_law_minus" = true)
    (k_Lminus : PySem.W.keepIn K (.ref a_Lminus) = true)
    (g_Ltimes : PySem.W.nsIn K mainGlobals "_law_times" = some (some (.ref a_Ltimes)))
    (l_Ltimes : K.lookup a_Ltimes = some ⟨oc_Ltimes, od_Ltimes, .func (PySem.W.fnOf "_law_times" "_law_times" (B0 s_Ltimes) (A9 s_Ltimes) (A5 s_Ltimes) .none kV_Ltimes dc_Ltimes pm_Ltimes an_Ltimes cd_Ltimes ct_Ltimes), sl_Ltimes⟩)
    (c_Ltimes : PySem.W.codeIn K cd_Ltimes "_law_times" = true)
    (k_Ltimes : PySem.W.keepIn K (.ref a_Ltimes) = true)
    (g_Lunder : PySem.W.nsIn K mainGlobals "_law_under" = some (some (.ref a_Lunder)))
    (l_Lunder : K.lookup a_Lunder = some ⟨oc_Lunder, od_Lunder, .func (PySem.W.fnOf "_law_under" "_law_under" (B0 s_Lunder) (A9 s_Lunder) (A5 s_Lunder) .none kV_Lunder dc_Lunder pm_Lunder an_Lunder cd_Lunder ct_Lunder), sl_Lunder⟩)
    (c_Lunder : PySem.W.codeIn K cd_Lunder "_law_under" = true)
    (k_Lunder : PySem.W.keepIn K (.ref a_Lunder) = true)
    (g_Lamount : PySem.W.nsIn K mainGlobals "_law_amount" = some (some (.ref a_Lamount)))
    (l_Lamount : K.lookup a_Lamount = some ⟨oc_Lamount, od_Lamount, .func (PySem.W.fnOf "_law_amount" "_law_amount" (B0 s_Lamount) (A9 s_Lamount) (A5 s_Lamount) .none kV_Lamount dc_Lamount pm_Lamount an_Lamount cd_Lamount ct_Lamount), sl_Lamount⟩)
    (c_Lamount : PySem.W.codeIn K cd_Lamount "_law_amount" = true)
    (k_Lamount : PySem.W.keepIn K (.ref a_Lamount) = true)
    (g_Loffer : PySem.W.nsIn K mainGlobals "_law_offer" = some (some (.ref a_Loffer)))
    (l_Loffer : K.lookup a_Loffer = some ⟨oc_Loffer, od_Loffer, .func (PySem.W.fnOf "_law_offer" "_law_offer" (B0 s_Loffer) (A9 s_Loffer) (A5 s_Loffer) .none kV_Loffer dc_Loffer pm_Loffer an_Loffer cd_Loffer ct_Loffer), sl_Loffer⟩)
    (c_Loffer : PySem.W.codeIn K cd_Loffer "_law_offer" = true)
    (k_Loffer : PySem.W.keepIn K (.ref a_Loffer) = true)
    (g_Lnames : PySem.W.nsIn K mainGlobals "_law_names" = some (some (.ref a_Lnames)))
    (l_Lnames : K.lookup a_Lnames = some ⟨oc_Lnames, od_Lnames, .func (PySem.W.fnOf "_law_names" "_law_names" (B0 s_Lnames) (A9 s_Lnames) (A5 s_Lnames) .none kV_Lnames dc_Lnames pm_Lnames an_Lnames cd_Lnames ct_Lnames), sl_Lnames⟩)
    (c_Lnames : PySem.W.codeIn K cd_Lnames "_law_names" = true)
    (k_Lnames : PySem.W.keepIn K (.ref a_Lnames) = true)
    (g_Lorder : PySem.W.nsIn K mainGlobals "_law_order" = some (some (.ref a_Lorder)))
    (l_Lorder : K.lookup a_Lorder = some ⟨oc_Lorder, od_Lorder, .func (PySem.W.fnOf "_law_order" "_law_order" (B0 s_Lorder) (A9 s_Lorder) (A5 s_Lorder) .none kV_Lorder dc_Lorder pm_Lorder an_Lorder cd_Lorder ct_Lorder), sl_Lorder⟩)
    (c_Lorder : PySem.W.codeIn K cd_Lorder "_law_order" = true)
    (k_Lorder : PySem.W.keepIn K (.ref a_Lorder) = true)
    (g_Llag : PySem.W.nsIn K mainGlobals "_law_lag" = some (some (.ref a_Llag)))
    (l_Llag : K.lookup a_Llag = some ⟨oc_Llag, od_Llag, .func (PySem.W.fnOf "_law_lag" "_law_lag" (B0 s_Llag) (A9 s_Llag) (A5 s_Llag) .none kV_Llag dc_Llag pm_Llag an_Llag cd_Llag ct_Llag), sl_Llag⟩)
    (c_Llag : PySem.W.codeIn K cd_Llag "_law_lag" = true)
    (k_Llag : PySem.W.keepIn K (.ref a_Llag) = true)
    (g_Lwaits : PySem.W.nsIn K mainGlobals "_law_waits" = some (some (.ref a_Lwaits)))
    (l_Lwaits : K.lookup a_Lwaits = some ⟨oc_Lwaits, od_Lwaits, .func (PySem.W.fnOf "_law_waits" "_law_waits" (B0 s_Lwaits) (A9 s_Lwaits) (A5 s_Lwaits) .none kV_Lwaits dc_Lwaits pm_Lwaits an_Lwaits cd_Lwaits ct_Lwaits), sl_Lwaits⟩)
    (c_Lwaits : PySem.W.codeIn K cd_Lwaits "_law_waits" = true)
    (k_Lwaits : PySem.W.keepIn K (.ref a_Lwaits) = true)
    (g_Lholds : PySem.W.nsIn K mainGlobals "_law_holds" = some (some (.ref a_Lholds)))
    (l_Lholds : K.lookup a_Lholds = some ⟨oc_Lholds, od_Lholds, .func (PySem.W.fnOf "_law_holds" "_law_holds" (B0 s_Lholds) (A9 s_Lholds) (A5 s_Lholds) .none kV_Lholds dc_Lholds pm_Lholds an_Lholds cd_Lholds ct_Lholds), sl_Lholds⟩)
    (c_Lholds : PySem.W.codeIn K cd_Lholds "_law_holds" = true)
    (k_Lholds : PySem.W.keepIn K (.ref a_Lholds) = true)
    (g_Lgroups : PySem.W.nsIn K mainGlobals "_law_groups" = some (some (.ref a_Lgroups)))
    (l_Lgroups : K.lookup a_Lgroups = some ⟨oc_Lgroups, od_Lgroups, .func (PySem.W.fnOf "_law_groups" "_law_groups" (B0 s_Lgroups) (A9 s_Lgroups) (A5 s_Lgroups) .none kV_Lgroups dc_Lgroups pm_Lgroups an_Lgroups cd_Lgroups ct_Lgroups), sl_Lgroups⟩)
    (c_Lgroups : PySem.W.codeIn K cd_Lgroups "_law_groups" = true)
    (k_Lgroups : PySem.W.keepIn K (.ref a_Lgroups) = true)
    (g_Lnet : PySem.W.nsIn K mainGlobals "_law_net" = some (some (.ref a_Lnet)))
    (l_Lnet : K.lookup a_Lnet = some ⟨oc_Lnet, od_Lnet, .func (PySem.W.fnOf "_law_net" "_law_net" (B0 s_Lnet) (A9 s_Lnet) (A5 s_Lnet) .none kV_Lnet dc_Lnet pm_Lnet an_Lnet cd_Lnet ct_Lnet), sl_Lnet⟩)
    (c_Lnet : PySem.W.codeIn K cd_Lnet "_law_net" = true)
    (k_Lnet : PySem.W.keepIn K (.ref a_Lnet) = true)
    (g_Lalike : PySem.W.nsIn K mainGlobals "_law_alike" = some (some (.ref a_Lalike)))
    (l_Lalike : K.lookup a_Lalike = some ⟨oc_Lalike, od_Lalike, .func (PySem.W.fnOf "_law_alike" "_law_alike" (B0 s_Lalike) (A9 s_Lalike) (A5 s_Lalike) .none kV_Lalike dc_Lalike pm_Lalike an_Lalike cd_Lalike ct_Lalike), sl_Lalike⟩)
    (c_Lalike : PySem.W.codeIn K cd_Lalike "_law_alike" = true)
    (k_Lalike : PySem.W.keepIn K (.ref a_Lalike) = true)
    (g_Lcopy : PySem.W.nsIn K mainGlobals "_law_copy" = some (some (.ref a_Lcopy)))
    (l_Lcopy : K.lookup a_Lcopy = some ⟨oc_Lcopy, od_Lcopy, .func (PySem.W.fnOf "_law_copy" "_law_copy" (B0 s_Lcopy) (A9 s_Lcopy) (A5 s_Lcopy) .none kV_Lcopy dc_Lcopy pm_Lcopy an_Lcopy cd_Lcopy ct_Lcopy), sl_Lcopy⟩)
    (c_Lcopy : PySem.W.codeIn K cd_Lcopy "_law_copy" = true)
    (k_Lcopy : PySem.W.keepIn K (.ref a_Lcopy) = true)
    (g_Ltime : PySem.W.nsIn K mainGlobals "_law_time" = some (some (.ref a_Ltime)))
    (l_Ltime : K.lookup a_Ltime = some ⟨oc_Ltime, od_Ltime, .func (PySem.W.fnOf "_law_time" "_law_time" (B0 s_Ltime) (A9 s_Ltime) (A5 s_Ltime) .none kV_Ltime dc_Ltime pm_Ltime an_Ltime cd_Ltime ct_Ltime), sl_Ltime⟩)
    (c_Ltime : PySem.W.codeIn K cd_Ltime "_law_time" = true)
    (k_Ltime : PySem.W.keepIn K (.ref a_Ltime) = true)
    (g_Lprice : PySem.W.nsIn K mainGlobals "_law_price" = some (some (.ref a_Lprice)))
    (l_Lprice : K.lookup a_Lprice = some ⟨oc_Lprice, od_Lprice, .func (PySem.W.fnOf "_law_price" "_law_price" (B0 s_Lprice) (A9 s_Lprice) (A5 s_Lprice) .none kV_Lprice dc_Lprice pm_Lprice an_Lprice cd_Lprice ct_Lprice), sl_Lprice⟩)
    (c_Lprice : PySem.W.codeIn K cd_Lprice "_law_price" = true)
    (k_Lprice : PySem.W.keepIn K (.ref a_Lprice) = true)
    (g_Lplan : PySem.W.nsIn K mainGlobals "_law_plan" = some (some (.ref a_Lplan)))
    (l_Lplan : K.lookup a_Lplan = some ⟨oc_Lplan, od_Lplan, .func (PySem.W.fnOf "_law_plan" "_law_plan" (B0 s_Lplan) (A9 s_Lplan) (A5 s_Lplan) .none kV_Lplan dc_Lplan pm_Lplan an_Lplan cd_Lplan ct_Lplan), sl_Lplan⟩)
    (c_Lplan : PySem.W.codeIn K cd_Lplan "_law_plan" = true)
    (k_Lplan : PySem.W.keepIn K (.ref a_Lplan) = true)
    (g_Lnotime : PySem.W.nsIn K mainGlobals "_law_no_time" = some (some (.ref a_Lnotime)))
    (l_Lnotime : K.lookup a_Lnotime = some ⟨oc_Lnotime, od_Lnotime, .func (PySem.W.fnOf "_law_no_time" "_law_no_time" (B0 s_Lnotime) (A9 s_Lnotime) (A5 s_Lnotime) .none kV_Lnotime dc_Lnotime pm_Lnotime an_Lnotime cd_Lnotime ct_Lnotime), sl_Lnotime⟩)
    (c_Lnotime : PySem.W.codeIn K cd_Lnotime "_law_no_time" = true)
    (k_Lnotime : PySem.W.keepIn K (.ref a_Lnotime) = true)
    (g_Llatest : PySem.W.nsIn K mainGlobals "_law_latest" = some (some (.ref a_Llatest)))
    (l_Llatest : K.lookup a_Llatest = some ⟨oc_Llatest, od_Llatest, .func (PySem.W.fnOf "_law_latest" "_law_latest" (B0 s_Llatest) (A9 s_Llatest) (A5 s_Llatest) .none kV_Llatest dc_Llatest pm_Llatest an_Llatest cd_Llatest ct_Llatest), sl_Llatest⟩)
    (c_Llatest : PySem.W.codeIn K cd_Llatest "_law_latest" = true)
    (k_Llatest : PySem.W.keepIn K (.ref a_Llatest) = true)
    (g_law : PySem.W.nsIn K mainGlobals "law" = some (some (.ref a_law)))
    (l_law : K.lookup a_law = some ⟨oc_law, od_law, .func (PySem.W.fnOf "law" "law" (B0 s_law) (A9 s_law) (A5 s_law) .none kV_law dc_law pm_law an_law cd_law ct_law), sl_law⟩)
    (c_law : PySem.W.codeIn K cd_law "law" = true)
    (k_law : PySem.W.keepIn K (.ref a_law) = true)
    (gc_NOUGHT : PySem.W.nsIn K mainGlobals "NOUGHT" = some (some (.ref q_NOUGHT)))
    (gc_NoTime : PySem.W.nsIn K mainGlobals "NoTime" = some (some (.ref q_NoTime)))
    (gc_HurryError : PySem.W.nsIn K mainGlobals "HurryError" = some (some (.ref q_HurryError)))
    (gc_NoChange : PySem.W.nsIn K mainGlobals "NoChange" = some (some (.ref q_NoChange)))
    (gc_NoDeed : PySem.W.nsIn K mainGlobals "NoDeed" = some (some (.ref q_NoDeed)))
    (gc_NoDiary : PySem.W.nsIn K mainGlobals "NoDiary" = some (some (.ref q_NoDiary)))
    (gc_NoJoin : PySem.W.nsIn K mainGlobals "NoJoin" = some (some (.ref q_NoJoin)))
    (gc_NoName : PySem.W.nsIn K mainGlobals "NoName" = some (some (.ref q_NoName)))
    (gc_NoNet : PySem.W.nsIn K mainGlobals "NoNet" = some (some (.ref q_NoNet)))
    (gc_NoNumber : PySem.W.nsIn K mainGlobals "NoNumber" = some (some (.ref q_NoNumber)))
    (gc_NoPaper : PySem.W.nsIn K mainGlobals "NoPaper" = some (some (.ref q_NoPaper)))
    (gc_NoRow : PySem.W.nsIn K mainGlobals "NoRow" = some (some (.ref q_NoRow)))
    (gc_NoText : PySem.W.nsIn K mainGlobals "NoText" = some (some (.ref q_NoText)))
    (gc_NoTree : PySem.W.nsIn K mainGlobals "NoTree" = some (some (.ref q_NoTree)))
    (gc_NotSteps : PySem.W.nsIn K mainGlobals "NotSteps" = some (some (.ref q_NotSteps)))
    (gc_NotStraight : PySem.W.nsIn K mainGlobals "NotStraight" = some (some (.ref q_NotStraight)))
    (gc_TooMany : PySem.W.nsIn K mainGlobals "TooMany" = some (some (.ref q_TooMany)))
    (gc_Unbalanced : PySem.W.nsIn K mainGlobals "Unbalanced" = some (some (.ref q_Unbalanced)))
    (z_ValueError : PySem.W.nsIn K mainGlobals "ValueError" = some none)
    (z_abs : PySem.W.nsIn K mainGlobals "abs" = some none)
    (z_all : PySem.W.nsIn K mainGlobals "all" = some none)
    (z_bool : PySem.W.nsIn K mainGlobals "bool" = some none)
    (z_int : PySem.W.nsIn K mainGlobals "int" = some none)
    (z_isinstance : PySem.W.nsIn K mainGlobals "isinstance" = some none)
    (z_len : PySem.W.nsIn K mainGlobals "len" = some none)
    (z_list : PySem.W.nsIn K mainGlobals "list" = some none)
    (z_max : PySem.W.nsIn K mainGlobals "max" = some none)
    (z_min : PySem.W.nsIn K mainGlobals "min" = some none)
    (z_range : PySem.W.nsIn K mainGlobals "range" = some none)
    (z_str : PySem.W.nsIn K mainGlobals "str" = some none)
    (z_tuple : PySem.W.nsIn K mainGlobals "tuple" = some none)
    (z_zip : PySem.W.nsIn K mainGlobals "zip" = some none)
    (lq_NOUGHT : K.lookup q_NOUGHT = some ⟨.type "tuple", od_NOUGHT, .seq its_NOUGHT n_NOUGHT, sl_NOUGHT⟩)
    (vq_NOUGHT : its_NOUGHT = #[Value.int 0 t0_NOUGHT, Value.int 1 t1_NOUGHT])
    (ex_NoTime : PySem.W.excIn K q_NoTime A34 "ValueError.__new__" = true)
    (xm_NoTime_HurryError : PySem.W.exmOne K (.ref q_NoTime) (.ref q_HurryError) = some true)
    (xga_NoTime : PySem.W.findIn K (.ref q_NoTime) "__getattribute__" = some (some (.builtin "BaseException.__getattribute__")))
    (xgn_NoTime : PySem.W.findIn K (.ref q_NoTime) "__getattr__" = some none)
    (xgc_NoTime : PySem.W.findIn K (.ref q_NoTime) "__class__" = some (some (.builtin "object.__class__")))
    (xsb_NoTime : PySem.W.subIn K (.ref q_NoTime) (.type "BaseException") = some true)
    (xso_NoTime : PySem.W.subIn K (.ref q_NoTime) (.type "object") = some true)
    (xhd_NoTime : PySem.W.hasDictIn K q_NoTime = true)
    (xty_NoTime : (K.lookup q_NoTime).map (·.cls) = some (.type "type"))
    (xt_NoTime_NoChange_NoDeed_NoDiary_NoJoin_NoName_NoNet_NoNumber_NoPaper : PySem.W.kitAny K (.ref q_NoTime) [(.ref q_NoChange), (.ref q_NoDeed), (.ref q_NoDiary), (.ref q_NoJoin), (.ref q_NoName), (.ref q_NoNet), (.ref q_NoNumber), (.ref q_NoPaper)] = some false)
    (xt_NoTime_NoRow_NoText_NoTree_NotSteps_NotStraight_TooMany_Unbalanced : PySem.W.kitAny K (.ref q_NoTime) [(.ref q_NoRow), (.ref q_NoText), (.ref q_NoTree), (.ref q_NotSteps), (.ref q_NotStraight), (.ref q_TooMany), (.ref q_Unbalanced)] = some false)
    (xi_NoTime_ValueError : PySem.W.kitOne K (.ref q_NoTime) (.type "ValueError") = some true)
    (xi_NoTime_NoTime : PySem.W.kitOne K (.ref q_NoTime) (.ref q_NoTime) = some true)
    : ∃ fd : FuncData, (∀ (s : Shared) (v : Value), BindsTo s fd ⟨[v], []⟩ [("_law_script", v)]) /\ ∀ base : Heap, K.In base -> base.Ns mainGlobals mg -> FnOk l.prog w K mg base CX0 10 fa fd ["_law_script"] (sp_law K) := by
  have e := hfa.symm.trans (PySem.W.mg_of X G g_law)
  cases e
  have T : Txt K mg ⟨a_commonpart, PySem.W.fnOf "common_part" "common_part" (B0 s_commonpart) (A9 s_commonpart) (A5 s_commonpart) .none kV_commonpart dc_commonpart pm_commonpart an_commonpart cd_commonpart ct_commonpart, a_plus, PySem.W.fnOf "plus" "plus" (B0 s_plus) (A9 s_plus) (A5 s_plus) .none kV_plus dc_plus pm_plus an_plus cd_plus ct_plus, a_minus, PySem.W.fnOf "minus" "minus" (B0 s_minus) (A9 s_minus) (A5 s_minus) .none kV_minus dc_minus pm_minus an_minus cd_minus ct_minus, a_product, PySem.W.fnOf "product" "product" (B0 s_product) (A9 s_product) (A5 s_product) .none kV_product dc_product pm_product an_product cd_product ct_product, a_parted, PySem.W.fnOf "parted" "parted" (B0 s_parted) (A9 s_parted) (A5 s_parted) .none kV_parted dc_parted pm_parted an_parted cd_parted ct_parted, a_isless, PySem.W.fnOf "is_less" "is_less" (B0 s_isless) (A9 s_isless) (A5 s_isless) .none kV_isless dc_isless pm_isless an_isless cd_isless ct_isless, a_larger, PySem.W.fnOf "larger" "larger" (B0 s_larger) (A9 s_larger) (A5 s_larger) .none kV_larger dc_larger pm_larger an_larger cd_larger ct_larger, a_sumof, PySem.W.fnOf "sum_of" "sum_of" (B0 s_sumof) (A9 s_sumof) (A5 s_sumof) .none kV_sumof dc_sumof pm_sumof an_sumof cd_sumof ct_sumof, a_ratebetween, PySem.W.fnOf "rate_between" "rate_between" (B0 s_ratebetween) (A9 s_ratebetween) (A5 s_ratebetween) .none kV_ratebetween dc_ratebetween pm_ratebetween an_ratebetween cd_ratebetween ct_ratebetween, a_isoffered, PySem.W.fnOf "is_offered" "is_offered" (B0 s_isoffered) (A9 s_isoffered) (A5 s_isoffered) .none kV_isoffered dc_isoffered pm_isoffered an_isoffered cd_isoffered ct_isoffered, a_cornersabove, PySem.W.fnOf "corners_above" "corners_above" (B0 s_cornersabove) (A9 s_cornersabove) (A5 s_cornersabove) .none kV_cornersabove dc_cornersabove pm_cornersabove an_cornersabove cd_cornersabove ct_cornersabove, a_priceoftime, PySem.W.fnOf "price_of_time" "price_of_time" (B0 s_priceoftime) (A9 s_priceoftime) (A5 s_priceoftime) .none kV_priceoftime dc_priceoftime pm_priceoftime an_priceoftime cd_priceoftime ct_priceoftime, a_endof, PySem.W.fnOf "end_of" "end_of" (B0 s_endof) (A9 s_endof) (A5 s_endof) .none kV_endof dc_endof pm_endof an_endof cd_endof ct_endof, a_priceof, PySem.W.fnOf "price_of" "price_of" (B0 s_priceof) (A9 s_priceof) (A5 s_priceof) .none kV_priceof dc_priceof pm_priceof an_priceof cd_priceof ct_priceof, a_wholeof, PySem.W.fnOf "whole_of" "whole_of" (B0 s_wholeof) (A9 s_wholeof) (A5 s_wholeof) .none kV_wholeof dc_wholeof pm_wholeof an_wholeof cd_wholeof ct_wholeof, a_Lbegun, PySem.W.fnOf "_law_begun" "_law_begun" (B0 s_Lbegun) (A9 s_Lbegun) (A5 s_Lbegun) .none kV_Lbegun dc_Lbegun pm_Lbegun an_Lbegun cd_Lbegun ct_Lbegun, a_Ltake, PySem.W.fnOf "_law_take" "_law_take" (B0 s_Ltake) (A9 s_Ltake) (A5 s_Ltake) .none kV_Ltake dc_Ltake pm_Ltake an_Ltake cd_Ltake ct_Ltake, a_Llow, PySem.W.fnOf "_law_low" "_law_low" (B0 s_Llow) (A9 s_Llow) (A5 s_Llow) .none kV_Llow dc_Llow pm_Llow an_Llow cd_Llow ct_Llow, a_Lplus, PySem.W.fnOf "_law_plus" "_law_plus" (B0 s_Lplus) (A9 s_Lplus) (A5 s_Lplus) .none kV_Lplus dc_Lplus pm_Lplus an_Lplus cd_Lplus ct_Lplus, a_Lminus, PySem.W.fnOf "_law_minus" "_law_minus" (B0 s_Lminus) (A9 s_Lminus) (A5 s_Lminus) .none kV_Lminus dc_Lminus pm_Lminus an_Lminus cd_Lminus ct_Lminus, a_Ltimes, PySem.W.fnOf "_law_times" "_law_times" (B0 s_Ltimes) (A9 s_Ltimes) (A5 s_Ltimes) .none kV_Ltimes dc_Ltimes pm_Ltimes an_Ltimes cd_Ltimes ct_Ltimes, a_Lunder, PySem.W.fnOf "_law_under" "_law_under" (B0 s_Lunder) (A9 s_Lunder) (A5 s_Lunder) .none kV_Lunder dc_Lunder pm_Lunder an_Lunder cd_Lunder ct_Lunder, a_Lamount, PySem.W.fnOf "_law_amount" "_law_amount" (B0 s_Lamount) (A9 s_Lamount) (A5 s_Lamount) .none kV_Lamount dc_Lamount pm_Lamount an_Lamount cd_Lamount ct_Lamount, a_Loffer, PySem.W.fnOf "_law_offer" "_law_offer" (B0 s_Loffer) (A9 s_Loffer) (A5 s_Loffer) .none kV_Loffer dc_Loffer pm_Loffer an_Loffer cd_Loffer ct_Loffer, a_Lnames, PySem.W.fnOf "_law_names" "_law_names" (B0 s_Lnames) (A9 s_Lnames) (A5 s_Lnames) .none kV_Lnames dc_Lnames pm_Lnames an_Lnames cd_Lnames ct_Lnames, a_Lorder, PySem.W.fnOf "_law_order" "_law_order" (B0 s_Lorder) (A9 s_Lorder) (A5 s_Lorder) .none kV_Lorder dc_Lorder pm_Lorder an_Lorder cd_Lorder ct_Lorder, a_Llag, PySem.W.fnOf "_law_lag" "_law_lag" (B0 s_Llag) (A9 s_Llag) (A5 s_Llag) .none kV_Llag dc_Llag pm_Llag an_Llag cd_Llag ct_Llag, a_Lwaits, PySem.W.fnOf "_law_waits" "_law_waits" (B0 s_Lwaits) (A9 s_Lwaits) (A5 s_Lwaits) .none kV_Lwaits dc_Lwaits pm_Lwaits an_Lwaits cd_Lwaits ct_Lwaits, a_Lholds, PySem.W.fnOf "_law_holds" "_law_holds" (B0 s_Lholds) (A9 s_Lholds) (A5 s_Lholds) .none kV_Lholds dc_Lholds pm_Lholds an_Lholds cd_Lholds ct_Lholds, a_Lgroups, PySem.W.fnOf "_law_groups" "_law_groups" (B0 s_Lgroups) (A9 s_Lgroups) (A5 s_Lgroups) .none kV_Lgroups dc_Lgroups pm_Lgroups an_Lgroups cd_Lgroups ct_Lgroups, a_Lnet, PySem.W.fnOf "_law_net" "_law_net" (B0 s_Lnet) (A9 s_Lnet) (A5 s_Lnet) .none kV_Lnet dc_Lnet pm_Lnet an_Lnet cd_Lnet ct_Lnet, a_Lalike, PySem.W.fnOf "_law_alike" "_law_alike" (B0 s_Lalike) (A9 s_Lalike) (A5 s_Lalike) .none kV_Lalike dc_Lalike pm_Lalike an_Lalike cd_Lalike ct_Lalike, a_Lcopy, PySem.W.fnOf "_law_copy" "_law_copy" (B0 s_Lcopy) (A9 s_Lcopy) (A5 s_Lcopy) .none kV_Lcopy dc_Lcopy pm_Lcopy an_Lcopy cd_Lcopy ct_Lcopy, a_Ltime, PySem.W.fnOf "_law_time" "_law_time" (B0 s_Ltime) (A9 s_Ltime) (A5 s_Ltime) .none kV_Ltime dc_Ltime pm_Ltime an_Ltime cd_Ltime ct_Ltime, a_Lprice, PySem.W.fnOf "_law_price" "_law_price" (B0 s_Lprice) (A9 s_Lprice) (A5 s_Lprice) .none kV_Lprice dc_Lprice pm_Lprice an_Lprice cd_Lprice ct_Lprice, a_Lplan, PySem.W.fnOf "_law_plan" "_law_plan" (B0 s_Lplan) (A9 s_Lplan) (A5 s_Lplan) .none kV_Lplan dc_Lplan pm_Lplan an_Lplan cd_Lplan ct_Lplan, a_Lnotime, PySem.W.fnOf "_law_no_time" "_law_no_time" (B0 s_Lnotime) (A9 s_Lnotime) (A5 s_Lnotime) .none kV_Lnotime dc_Lnotime pm_Lnotime an_Lnotime cd_Lnotime ct_Lnotime, a_Llatest, PySem.W.fnOf "_law_latest" "_law_latest" (B0 s_Llatest) (A9 s_Llatest) (A5 s_Llatest) .none kV_Llatest dc_Llatest pm_Llatest an_Llatest cd_Llatest ct_Llatest, fa, PySem.W.fnOf "law" "law" (B0 s_law) (A9 s_law) (A5 s_law) .none kV_law dc_law pm_law an_law cd_law ct_law, q_NOUGHT, q_NoTime, q_HurryError, q_NoChange, q_NoDeed, q_NoDiary, q_NoJoin, q_NoName, q_NoNet, q_NoNumber, q_NoPaper, q_NoRow, q_NoText, q_NoTree, q_NotSteps, q_NotStraight, q_TooMany, q_Unbalanced⟩ := ⟨D0 (st := s_commonpart) l_commonpart c_commonpart k_commonpart, PySem.W.mg_of X G g_commonpart, D0 (st := s_plus) l_plus c_plus k_plus, PySem.W.mg_of X G g_plus, D0 (st := s_minus) l_minus c_minus k_minus, PySem.W.mg_of X G g_minus, D0 (st := s_product) l_product c_product k_product, PySem.W.mg_of X G g_product, D0 (st := s_parted) l_parted c_parted k_parted, PySem.W.mg_of X G g_parted, D0 (st := s_isless) l_isless c_isless k_isless, PySem.W.mg_of X G g_isless, D0 (st := s_larger) l_larger c_larger k_larger, PySem.W.mg_of X G g_larger, D0 (st := s_sumof) l_sumof c_sumof k_sumof, PySem.W.mg_of X G g_sumof, D0 (st := s_ratebetween) l_ratebetween c_ratebetween k_ratebetween, PySem.W.mg_of X G g_ratebetween, D0 (st := s_isoffered) l_isoffered c_isoffered k_isoffered, PySem.W.mg_of X G g_isoffered, D0 (st := s_cornersabove) l_cornersabove c_cornersabove k_cornersabove, PySem.W.mg_of X G g_cornersabove, D0 (st := s_priceoftime) l_priceoftime c_priceoftime k_priceoftime, PySem.W.mg_of X G g_priceoftime, D0 (st := s_endof) l_endof c_endof k_endof, PySem.W.mg_of X G g_endof, D0 (st := s_priceof) l_priceof c_priceof k_priceof, PySem.W.mg_of X G g_priceof, D0 (st := s_wholeof) l_wholeof c_wholeof k_wholeof, PySem.W.mg_of X G g_wholeof, D0 (st := s_Lbegun) l_Lbegun c_Lbegun k_Lbegun, PySem.W.mg_of X G g_Lbegun, D0 (st := s_Ltake) l_Ltake c_Ltake k_Ltake, PySem.W.mg_of X G g_Ltake, D0 (st := s_Llow) l_Llow c_Llow k_Llow, PySem.W.mg_of X G g_Llow, D0 (st := s_Lplus) l_Lplus c_Lplus k_Lplus, PySem.W.mg_of X G g_Lplus, D0 (st := s_Lminus) l_Lminus c_Lminus k_Lminus, PySem.W.mg_of X G g_Lminus, D0 (st := s_Ltimes) l_Ltimes c_Ltimes k_Ltimes, PySem.W.mg_of X G g_Ltimes, D0 (st := s_Lunder) l_Lunder c_Lunder k_Lunder, PySem.W.mg_of X G g_Lunder, D0 (st := s_Lamount) l_Lamount c_Lamount k_Lamount, PySem.W.mg_of X G g_Lamount, D0 (st := s_Loffer) l_Loffer c_Loffer k_Loffer, PySem.W.mg_of X G g_Loffer, D0 (st := s_Lnames) l_Lnames c_Lnames k_Lnames, PySem.W.mg_of X G g_Lnames, D0 (st := s_Lorder) l_Lorder c_Lorder k_Lorder, PySem.W.mg_of X G g_Lorder, D0 (st := s_Llag) l_Llag c_Llag k_Llag, PySem.W.mg_of X G g_Llag, D0 (st := s_Lwaits) l_Lwaits c_Lwaits k_Lwaits, PySem.W.mg_of X G g_Lwaits, D0 (st := s_Lholds) l_Lholds c_Lholds k_Lholds, PySem.W.mg_of X G g_Lholds, D0 (st := s_Lgroups) l_Lgroups c_Lgroups k_Lgroups, PySem.W.mg_of X G g_Lgroups, D0 (st := s_Lnet) l_Lnet c_Lnet k_Lnet, PySem.W.mg_of X G g_Lnet, D0 (st := s_Lalike) l_Lalike c_Lalike k_Lalike, PySem.W.mg_of X G g_Lalike, D0 (st := s_Lcopy) l_Lcopy c_Lcopy k_Lcopy, PySem.W.mg_of X G g_Lcopy, D0 (st := s_Ltime) l_Ltime c_Ltime k_Ltime, PySem.W.mg_of X G g_Ltime, D0 (st := s_Lprice) l_Lprice c_Lprice k_Lprice, PySem.W.mg_of X G g_Lprice, D0 (st := s_Lplan) l_Lplan c_Lplan k_Lplan, PySem.W.mg_of X G g_Lplan, D0 (st := s_Lnotime) l_Lnotime c_Lnotime k_Lnotime, PySem.W.mg_of X G g_Lnotime, D0 (st := s_Llatest) l_Llatest c_Llatest k_Llatest, PySem.W.mg_of X G g_Llatest, D0 (st := s_law) l_law c_law k_law, PySem.W.mg_of X G g_law, PySem.W.mg_of X G gc_NOUGHT, PySem.W.mg_of X G gc_NoTime, PySem.W.mg_of X G gc_HurryError, PySem.W.mg_of X G gc_NoChange, PySem.W.mg_of X G gc_NoDeed, PySem.W.mg_of X G gc_NoDiary, PySem.W.mg_of X G gc_NoJoin, PySem.W.mg_of X G gc_NoName, PySem.W.mg_of X G gc_NoNet, PySem.W.mg_of X G gc_NoNumber, PySem.W.mg_of X G gc_NoPaper, PySem.W.mg_of X G gc_NoRow, PySem.W.mg_of X G gc_NoText, PySem.W.mg_of X G gc_NoTree, PySem.W.mg_of X G gc_NotSteps, PySem.W.mg_of X G gc_NotStraight, PySem.W.mg_of X G gc_TooMany, PySem.W.mg_of X G gc_Unbalanced, PySem.W.mg_none_of X G z_ValueError, PySem.W.mg_none_of X G z_abs, PySem.W.mg_none_of X G z_all, PySem.W.mg_none_of X G z_bool, PySem.W.mg_none_of X G z_int, PySem.W.mg_none_of X G z_isinstance, PySem.W.mg_none_of X G z_len, PySem.W.mg_none_of X G z_list, PySem.W.mg_none_of X G z_max, PySem.W.mg_none_of X G z_min, PySem.W.mg_none_of X G z_range, PySem.W.mg_none_of X G z_str, PySem.W.mg_none_of X G z_tuple, PySem.W.mg_none_of X G z_zip, ⟨fun H => .tup (.inr ⟨_, its_NOUGHT, n_NOUGHT, lq_NOUGHT, rfl, rfl, by rw [vq_NOUGHT]; show 2 <= sizeLine; decide, by rw [vq_NOUGHT]; exact .cons ⟨_, rfl⟩ (.cons ⟨_, rfl⟩ .nil)⟩) (.cons (.int _) (.cons (.int _) .nil))⟩, ex_NoTime, xm_NoTime_HurryError, xga_NoTime, xgn_NoTime, xgc_NoTime, xsb_NoTime, xso_NoTime, xhd_NoTime, xty_NoTime, xt_NoTime_NoChange_NoDeed_NoDiary_NoJoin_NoName_NoNet_NoNumber_NoPaper, xt_NoTime_NoRow_NoText_NoTree_NotSteps_NotStraight_TooMany_Unbalanced, xi_NoTime_ValueError, xi_NoTime_NoTime⟩
  exact ⟨PySem.W.fnOf "law" "law" (B0 s_law) (A9 s_law) (A5 s_law) .none kV_law dc_law pm_law an_law cd_law ct_law, fun s v => .of_eq rfl, fun base _ _ => B9o T⟩
theorem walk {l : PySem.W.OpenLaw} {q : Program} {loose : List Str} {XP : (Str -> Option Value) -> Heap -> Prop} {YP : World -> Heap -> Prop} {d : DefRec} {K : Params -> PySem.W.Frag} (hn : l.most = some 63) (hdf : d.params.defaults = [])
    (hY : ∀ (w : World) (h : Heap), YP w h -> (K w.params).In h)
    (F : ∀ (w : World) (mg : Str -> Option Value) (fa : Addr) (h : Heap), (K w.params).In h -> h.Ns mainGlobals mg -> mg d.name = some (.ref fa) ->
      ∃ fd : FuncData, (∀ (s : Shared) (u : Value), BindsTo s fd ⟨[u], []⟩ [("_law_script", u)]) /\ ∀ base : Heap, (K w.params).In base -> base.Ns mainGlobals mg -> FnOk l.prog w (K w.params) mg base CX0 10 fa fd ["_law_script"] (sp_law (K w.params))) :
    PySem.W.WalkO q loose XP YP l.row.toRowW d [] (fun f vs => PySem.call f vs) :=
  L2.B5c (n := 63) (k := 10) (x := "_law_script") (CX := fun _ => CX0) (sp := fun w => sp_law (K w.params)) hn (by decide) hdf ⟨rfl, rfl, by decide, by decide⟩ hY F (fun _ _ a ns hl _ hS => ⟨a, ns, rfl, hS, hl, fun _ => rfl⟩) fun _ _ _ _ _ z => z
end Prf
open PySem PySem.W PyProof.Rows
set_option maxRecDepth 100000 in
set_option maxHeartbeats 0 in
theorem PySem.Challenge.cw_hurryprice_k13_prices_of_plans_holds : PySem.Challenge.rw_hurryprice_k13_prices_of_plans.Holds := by
  refine holds_law Prf.said fun ws => ?_
  refine holds_open (q := Prf.qq) (loose := []) (Xt := Prf.xt) (XP := XL Prf.qq []) (Yf := Prf.hh.obs)
    (Ya := Prf.hh.val) (YP := Prf.hh.says) (N := 10186) Prf.left Prf.hh.of Prf.hh.keeps
    (fun s e => xl_of s (Bool.and_eq_true_iff.mp e).1) XL.keeps
    (by rfl) (by rfl) (by rfl) (fun s e => recFacts_of (Bool.and_eq_true_iff.mp e).2)
    (by rfl) ws (by decide +kernel)
    ⟨rfl, rfl, rfl, rfl, rfl, by decide +kernel⟩ ?hw ?hc
  case hw => w_witness2
  refine Prf.walk (l := PySem.Challenge.rw_hurryprice_k13_prices_of_plans) (K := Prf.kk) rfl rfl (fun w h Y => PySem.W.kIn_of Y) ?F
  case F =>
    intro w mg fa h KX G hmg
    k_fill
    refine' Prf.all_mk KX G hmg ?g_commonpart ?l_commonpart ?c_commonpart ?k_commonpart ?g_plus ?l_plus ?c_plus ?k_plus ?g_minus ?l_minus ?c_minus ?k_minus ?g_product ?l_product ?c_product ?k_product ?g_parted ?l_parted ?c_parted ?k_parted ?g_isless ?l_isless ?c_isless ?k_isless ?g_larger ?l_larger ?c_larger ?k_larger ?g_sumof ?l_sumof ?c_sumof ?k_sumof ?g_ratebetween ?l_ratebetween ?c_ratebetween ?k_ratebetween ?g_isoffered ?l_isoffered ?c_isoffered ?k_isoffered ?g_cornersabove ?l_cornersabove ?c_cornersabove ?k_cornersabove ?g_priceoftime ?l_priceoftime ?c_priceoftime ?k_priceoftime ?g_endof ?l_endof ?c_endof ?k_endof ?g_priceof ?l_priceof ?c_priceof ?k_priceof ?g_wholeof ?l_wholeof ?c_wholeof ?k_wholeof ?g_Lbegun ?l_Lbegun ?c_Lbegun ?k_Lbegun ?g_Ltake ?l_Ltake ?c_Ltake ?k_Ltake ?g_Llow ?l_Llow ?c_Llow ?k_Llow ?g_Lplus ?l_Lplus ?c_Lplus ?k_Lplus ?g_Lminus ?l_Lminus ?c_Lminus ?k_Lminus ?g_Ltimes ?l_Ltimes ?c_Ltimes ?k_Ltimes ?g_Lunder ?l_Lunder ?c_Lunder ?k_Lunder ?g_Lamount ?l_Lamount ?c_Lamount ?k_Lamount ?g_Loffer ?l_Loffer ?c_Loffer ?k_Loffer ?g_Lnames ?l_Lnames ?c_Lnames ?k_Lnames ?g_Lorder ?l_Lorder ?c_Lorder ?k_Lorder ?g_Llag ?l_Llag ?c_Llag ?k_Llag ?g_Lwaits ?l_Lwaits ?c_Lwaits ?k_Lwaits ?g_Lholds ?l_Lholds ?c_Lholds ?k_Lholds ?g_Lgroups ?l_Lgroups ?c_Lgroups ?k_Lgroups ?g_Lnet ?l_Lnet ?c_Lnet ?k_Lnet ?g_Lalike ?l_Lalike ?c_Lalike ?k_Lalike ?g_Lcopy ?l_Lcopy ?c_Lcopy ?k_Lcopy ?g_Ltime ?l_Ltime ?c_Ltime ?k_Ltime ?g_Lprice ?l_Lprice ?c_Lprice ?k_Lprice ?g_Lplan ?l_Lplan ?c_Lplan ?k_Lplan ?g_Lnotime ?l_Lnotime ?c_Lnotime ?k_Lnotime ?g_Llatest ?l_Llatest ?c_Llatest ?k_Llatest ?g_law ?l_law ?c_law ?k_law ?gc_NOUGHT ?gc_NoTime ?gc_HurryError ?gc_NoChange ?gc_NoDeed ?gc_NoDiary ?gc_NoJoin ?gc_NoName ?gc_NoNet ?gc_NoNumber ?gc_NoPaper ?gc_NoRow ?gc_NoText ?gc_NoTree ?gc_NotSteps ?gc_NotStraight ?gc_TooMany ?gc_Unbalanced ?z_ValueError ?z_abs ?z_all ?z_bool ?z_int ?z_isinstance ?z_len ?z_list ?z_max ?z_min ?z_range ?z_str ?z_tuple ?z_zip ?lq_NOUGHT ?vq_NOUGHT ?ex_NoTime ?xm_NoTime_HurryError ?xga_NoTime ?xgn_NoTime ?xgc_NoTime ?xsb_NoTime ?xso_NoTime ?xhd_NoTime ?xty_NoTime ?xt_NoTime_NoChange_NoDeed_NoDiary_NoJoin_NoName_NoNet_NoNumber_NoPaper ?xt_NoTime_NoRow_NoText_NoTree_NotSteps_NotStraight_TooMany_Unbalanced ?xi_NoTime_ValueError ?xi_NoTime_NoTime
    (case g_commonpart => k_is)
    (case l_commonpart => k_is)
    (case c_commonpart => k_is)
    (case k_commonpart => k_is)
    (case g_plus => k_is)
    (case l_plus => k_is)
    (case c_plus => k_is)
    (case k_plus => k_is)
    (case g_minus => k_is)
    (case l_minus => k_is)
    (case c_minus => k_is)
    (case k_minus => k_is)
    (case g_product => k_is)
    (case l_product => k_is)
    (case c_product => k_is)
    (case k_product => k_is)
    (case g_parted => k_is)
    (case l_parted => k_is)
    (case c_parted => k_is)
    (case k_parted => k_is)
    (case g_isless => k_is)
    (case l_isless => k_is)
    (case c_isless => k_is)
    (case k_isless => k_is)
    (case g_larger => k_is)
    (case l_larger => k_is)
    (case c_larger => k_is)
    (case k_larger => k_is)
    (case g_sumof => k_is)
    (case l_sumof => k_is)
    (case c_sumof => k_is)
    (case k_sumof => k_is)
    (case g_ratebetween => k_is)
    (case l_ratebetween => k_is)
    (case c_ratebetween => k_is)
    (case k_ratebetween => k_is)
    (case g_isoffered => k_is)
    (case l_isoffered => k_is)
    (case c_isoffered => k_is)
    (case k_isoffered => k_is)
    (case g_cornersabove => k_is)
    (case l_cornersabove => k_is)
    (case c_cornersabove => k_is)
    (case k_cornersabove => k_is)
    (case g_priceoftime => k_is)
    (case l_priceoftime => k_is)
    (case c_priceoftime => k_is)
    (case k_priceoftime => k_is)
    (case g_endof => k_is)
    (case l_endof => k_is)
    (case c_endof => k_is)
    (case k_endof => k_is)
    (case g_priceof => k_is)
    (case l_priceof => k_is)
    (case c_priceof => k_is)
    (case k_priceof => k_is)
    (case g_wholeof => k_is)
    (case l_wholeof => k_is)
    (case c_wholeof => k_is)
    (case k_wholeof => k_is)
    (case g_Lbegun => k_is)
    (case l_Lbegun => k_is)
    (case c_Lbegun => k_is)
    (case k_Lbegun => k_is)
    (case g_Ltake => k_is)
    (case l_Ltake => k_is)
    (case c_Ltake => k_is)
    (case k_Ltake => k_is)
    (case g_Llow => k_is)
    (case l_Llow => k_is)
    (case c_Llow => k_is)
    (case k_Llow => k_is)
    (case g_Lplus => k_is)
    (case l_Lplus => k_is)
    (case c_Lplus => k_is)
    (case k_Lplus => k_is)
    (case g_Lminus => k_is)
    (case l_Lminus => k_is)
    (case c_Lminus => k_is)
    (case k_Lminus => k_is)
    (case g_Ltimes => k_is)
    (case l_Ltimes => k_is)
    (case c_Ltimes => k_is)
    (case k_Ltimes => k_is)
    (case g_Lunder => k_is)
    (case l_Lunder => k_is)
    (case c_Lunder => k_is)
    (case k_Lunder => k_is)
    (case g_Lamount => k_is)
    (case l_Lamount => k_is)
    (case c_Lamount => k_is)
    (case k_Lamount => k_is)
    (case g_Loffer => k_is)
    (case l_Loffer => k_is)
    (case c_Loffer => k_is)
    (case k_Loffer => k_is)
    (case g_Lnames => k_is)
    (case l_Lnames => k_is)
    (case c_Lnames => k_is)
    (case k_Lnames => k_is)
    (case g_Lorder => k_is)
    (case l_Lorder => k_is)
    (case c_Lorder => k_is)
    (case k_Lorder => k_is)
    (case g_Llag => k_is)
    (case l_Llag => k_is)
    (case c_Llag => k_is)
    (case k_Llag => k_is)
    (case g_Lwaits => k_is)
    (case l_Lwaits => k_is)
    (case c_Lwaits => k_is)
    (case k_Lwaits => k_is)
    (case g_Lholds => k_is)
    (case l_Lholds => k_is)
    (case c_Lholds => k_is)
    (case k_Lholds => k_is)
    (case g_Lgroups => k_is)
    (case l_Lgroups => k_is)
    (case c_Lgroups => k_is)
    (case k_Lgroups => k_is)
    (case g_Lnet => k_is)
    (case l_Lnet => k_is)
    (case c_Lnet => k_is)
    (case k_Lnet => k_is)
    (case g_Lalike => k_is)
    (case l_Lalike => k_is)
    (case c_Lalike => k_is)
    (case k_Lalike => k_is)
    (case g_Lcopy => k_is)
    (case l_Lcopy => k_is)
    (case c_Lcopy => k_is)
    (case k_Lcopy => k_is)
    (case g_Ltime => k_is)
    (case l_Ltime => k_is)
    (case c_Ltime => k_is)
    (case k_Ltime => k_is)
    (case g_Lprice => k_is)
    (case l_Lprice => k_is)
    (case c_Lprice => k_is)
    (case k_Lprice => k_is)
    (case g_Lplan => k_is)
    (case l_Lplan => k_is)
    (case c_Lplan => k_is)
    (case k_Lplan => k_is)
    (case g_Lnotime => k_is)
    (case l_Lnotime => k_is)
    (case c_Lnotime => k_is)
    (case k_Lnotime => k_is)
    (case g_Llatest => k_is)
    (case l_Llatest => k_is)
    (case c_Llatest => k_is)
    (case k_Llatest => k_is)
    (case g_law => k_is)
    (case l_law => k_is)
    (case c_law => k_is)
    (case k_law => k_is)
    (case gc_NOUGHT => k_is)
    (case gc_NoTime => k_is)
    (case gc_HurryError => k_is)
    (case gc_NoChange => k_is)
    (case gc_NoDeed => k_is)
    (case gc_NoDiary => k_is)
    (case gc_NoJoin => k_is)
    (case gc_NoName => k_is)
    (case gc_NoNet => k_is)
    (case gc_NoNumber => k_is)
    (case gc_NoPaper => k_is)
    (case gc_NoRow => k_is)
    (case gc_NoText => k_is)
    (case gc_NoTree => k_is)
    (case gc_NotSteps => k_is)
    (case gc_NotStraight => k_is)
    (case gc_TooMany => k_is)
    (case gc_Unbalanced => k_is)
    (case z_ValueError => k_is)
    (case z_abs => k_is)
    (case z_all => k_is)
    (case z_bool => k_is)
    (case z_int => k_is)
    (case z_isinstance => k_is)
    (case z_len => k_is)
    (case z_list => k_is)
    (case z_max => k_is)
    (case z_min => k_is)
    (case z_range => k_is)
    (case z_str => k_is)
    (case z_tuple => k_is)
    (case z_zip => k_is)
    (case lq_NOUGHT => k_is)
    (case vq_NOUGHT => exact rfl)
    (case ex_NoTime => with_unfolding_all exact rfl)
    (case xm_NoTime_HurryError => exact rfl)
    (case xga_NoTime => k_is)
    (case xgn_NoTime => k_is)
    (case xgc_NoTime => k_is)
    (case xsb_NoTime => k_is)
    (case xso_NoTime => k_is)
    (case xhd_NoTime => k_is)
    (case xty_NoTime => exact rfl)
    (case xt_NoTime_NoChange_NoDeed_NoDiary_NoJoin_NoName_NoNet_NoNumber_NoPaper => exact rfl)
    (case xt_NoTime_NoRow_NoText_NoTree_NotSteps_NotStraight_TooMany_Unbalanced => exact rfl)
    (case xi_NoTime_ValueError => exact rfl)
    (case xi_NoTime_NoTime => exact rfl)
