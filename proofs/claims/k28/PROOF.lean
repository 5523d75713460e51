
import PyProof.Rows.All
import Wide.All
import OpenK.AllK
import Wide.FinOn
import Lean
import PyProof.EqAt
import PyProof.EqKinds
import PyProof.TupleCall
import PySem.Challenge.RW_hurryprice_k28_slips_told
set_option Elab.async false
set_option linter.all false
set_option maxRecDepth 100000
set_option maxHeartbeats 4000000
abbrev LW := List (Int × Int × Rat)
abbrev LH := List (PySem.Str × Int × Rat)
abbrev LR := List (Rat × Rat)
abbrev LP := List PySem.PyData
abbrev LQ := List Rat
namespace L2
open PySem PySem.Spec PyProof.Rows
def B1 (s : Stmt) : Arguments := match s with
 | .FunctionDef _ a _ _ _ _ _ _ _ _ => a
 | _ => { posonlyargs := [], args := [], vararg := none, kwonlyargs := [], kw_defaults := [], kwarg := none, defaults := [] }
def B0 (s : Stmt) : List Stmt := match s with
 | .FunctionDef _ _ b _ _ _ _ _ _ _ => b
 | _ => []
def A4 (s : Stmt) : Scope := match s with
 | .FunctionDef _ _ _ _ _ _ sc _ _ _ => sc
 | _ => { kind := .function, names := [], isGenerator := false, isCoroutine := false }
end L2
namespace L2
open PySem PySem.W PySem.Spec PyProof.Rows
def Q0 (tb : String -> Option Builtin) (p : Program) (w : World) (m : Nat) (ann : Option Value) : Nat -> SharedT -> Thread -> Option SharedT
 | 0, _, _ => none
 | n + 1, s, t => match through t with
  | true => some s
  | false => match stepOk m ann t with
   | false => none
   | true => match stepT (denote tb) p w s t with
    | some x => Q0 tb p w m ann n x.1 x.2
    | none => none
theorem U8 {tb : String -> Option Builtin} {p : Program} {w : World} {m : Nat} {ann : Option Value} : ∀ (n : Nat) (s r : SharedT) (t : Thread), Q0 tb p w m ann n s t = some r -> topRun tb p w m ann n s.abs t = some r.abs
 | 0, _, _, _, h => by cases h
 | n + 1, s, r, t, h => by
  unfold Q0 at h
  unfold topRun
  cases a : through t with
  | true => rw [a] at h; cases h; rfl
  | false =>
   rw [a] at h
   cases b : stepOk m ann t with
   | false => rw [b] at h; cases h
   | true =>
    rw [b] at h
    cases c : stepT (denote tb) p w s t with
    | none => rw [c] at h; cases h
    | some x =>
     rw [c] at h
     rw [stepT_spec (s' := x.1) (t' := x.2) c]
     exact U8 n x.1 r x.2 h
def mkT (os : List Obj) : Nat -> Nat -> Nat -> BT
 | 0, _, _ => .nil
 | k + 1, a, b => match os[b]? with
  | some o => .node o (mkT os k (2 * a) (a + b)) (mkT os k (2 * a) (2 * a + b))
  | none => .nil
noncomputable def A4l (w : World) (os : OsState) : Shared := ⟨boot_heap w.params, Array.mk [], boot_drawn, boot_toks, os⟩
noncomputable def B0o (w : World) (os : OsState) : SharedT := ⟨mkT (boot_heap w.params).objs.toList 12 1 0, (boot_heap w.params).objs.size, (boot_heap w.params).life, Array.mk [], boot_drawn, boot_toks, os⟩
theorem B0n (w : World) (os : OsState) : (B0o w os).abs = A4l w os := by kernel_rfl
theorem B5b (w : World) (os : OsState) : ((A4l w os).heap.isNs mainGlobals && (A4l w os).gens.size == 0) = true := by kernel_rfl
theorem B84 {p q : Program} {loose : List Str} {Xt : Shared -> Bool} {α : Type} {Yf : Shared -> α} {Ya : World -> α} {N : Nat} (ho : opening p = plainProg p.main.scope.names) (hN : Nat.ble 600 N = true) (hf : ∀ s, fenceModules? p s = some s)
  (run : ∀ (w : World) (os : OsState), (Q0 treeTable p w (boot_heap w.params).objs.size ((boot_heap w.params).nsMap mainGlobals "__annotations__") N (B0o w os) (topStub p)).map
   (fun x => (staticsOk (importedModules p.main.body) (boot_heap w.params) x.abs.heap && namesBound p x.abs.heap && gensDone x.abs && laidKept (boot_heap w.params) x.abs.heap, openSeen q loose (importedModules p.main.body) Xt true x.abs, Yf x.abs)) = some (true, openGood q loose, Ya w)) :
  LeftO p q loose Xt Yf Ya N := fun w => by
 obtain ⟨⟨h, gs, d, k, os⟩, e, z⟩ := Option.map_eq_some_iff.mp (boot_open ho hN hf w)
 obtain ⟨rfl, rfl, rfl, rfl⟩ : h = boot_heap w.params /\ gs = Array.mk [] /\ d = boot_drawn /\ k = boot_toks := by simpa using z
 obtain ⟨x, r, v⟩ := Option.map_eq_some_iff.mp (run w os)
 have r := U8 _ _ _ _ r
 rw [B0n] at r
 obtain ⟨v1, v2⟩ := Prod.mk.inj v
 obtain ⟨v2, v3⟩ := Prod.mk.inj v2
 show ((fencedOpening treeTable p w N).bind (topFrom treeTable p w N)).map _ = _
 rw [e]
 show (topFrom treeTable p w N (A4l w os)).map _ = _
 have t : topFrom treeTable p w N (A4l w os) = some x.abs := by
  unfold topFrom
  rw [B5b]
  show (topRun treeTable p w (boot_heap w.params).objs.size ((boot_heap w.params).nsMap mainGlobals "__annotations__") N (A4l w os) (topStub p)).bind _ = _
  rw [r]
  show (match staticsOk (importedModules p.main.body) (boot_heap w.params) x.abs.heap && namesBound p x.abs.heap && gensDone x.abs && laidKept (boot_heap w.params) x.abs.heap with | true => some x.abs | false => none) = _
  rw [v1]
 rw [t]
 show some (openSeen q loose (importedModules p.main.body) Xt true x.abs, Yf x.abs) = _
 rw [v2, v3]
noncomputable abbrev ranT (p : Program) (N : Nat) (w : World) (os : OsState) : Option SharedT := Q0 treeTable p w (boot_heap w.params).objs.size ((boot_heap w.params).nsMap mainGlobals "__annotations__") N (B0o w os) (topStub p)
theorem B7m {p q : Program} {loose : List Str} {Xt : Shared -> Bool} {α : Type} {Yf : Shared -> α} {Ya : World -> α} {N : Nat} (ho : opening p = plainProg p.main.scope.names) (hN : Nat.ble 600 N = true) (hf : ∀ s, fenceModules? p s = some s)
  (a : ∀ (w : World) (os : OsState), (ranT p N w os).map (fun x => staticsOk (importedModules p.main.body) (boot_heap w.params) x.abs.heap && namesBound p x.abs.heap && gensDone x.abs && laidKept (boot_heap w.params) x.abs.heap) = some true)
  (b : ∀ (w : World) (os : OsState), (ranT p N w os).map (fun x => openSeen q loose (importedModules p.main.body) Xt true x.abs) = some (openGood q loose))
  (c : ∀ (w : World) (os : OsState), (ranT p N w os).map (fun x => Yf x.abs) = some (Ya w)) : LeftO p q loose Xt Yf Ya N :=
 B84 ho hN hf fun w os => by
  obtain ⟨x, r, e⟩ := Option.map_eq_some_iff.mp (a w os)
  have r' : Q0 treeTable p w (boot_heap w.params).objs.size ((boot_heap w.params).nsMap mainGlobals "__annotations__") N (B0o w os) (topStub p) = some x := r
  have f : openSeen q loose (importedModules p.main.body) Xt true x.abs = openGood q loose := by have z := b w os; rw [r] at z; exact Option.some.inj z
  have g : Yf x.abs = Ya w := by have z := c w os; rw [r] at z; exact Option.some.inj z
  rw [r']
  show some (_, _, _) = _
  rw [e, f, g]
theorem B7l {p q : Program} {loose : List Str} {Xt : Shared -> Bool} {α : Type} {Yf : Shared -> α} {Ya : World -> α} {N : Nat} (ho : opening p = plainProg p.main.scope.names) (hN : Nat.ble 600 N = true) (hf : ∀ s, fenceModules? p s = some s)
  (a : ∀ (w : World) (os : OsState), (ranT p N w os).map (fun x => staticsOk (importedModules p.main.body) (boot_heap w.params) x.abs.heap && namesBound p x.abs.heap && gensDone x.abs && laidKept (boot_heap w.params) x.abs.heap) = some true)
  (b : ∀ (w : World) (os : OsState), (ranT p N w os).map (fun x => (openSeen q loose (importedModules p.main.body) Xt true x.abs).1) = some (openGood q loose).1)
  (b' : ∀ (w : World) (os : OsState), (ranT p N w os).map (fun x => (openSeen q loose (importedModules p.main.body) Xt true x.abs).2) = some (openGood q loose).2)
  (c : ∀ (w : World) (os : OsState), (ranT p N w os).map (fun x => Yf x.abs) = some (Ya w)) : LeftO p q loose Xt Yf Ya N :=
 B7m ho hN hf a (fun w os => by
  obtain ⟨x, r, e⟩ := Option.map_eq_some_iff.mp (b w os)
  have z := b' w os
  rw [r] at z ⊢
  exact congrArg some (Prod.ext e (Option.some.inj z))) c
end L2
namespace Prf
open PySem L2
def top (i : Nat) : Stmt := PySem.Challenge.pw_hurryprice_k28_slips_told.main.body.getD i (.Pass ⟨0, 0, 0, 0⟩)
abbrev s_commonpart : Stmt := top 1
abbrev s_plus : Stmt := top 4
abbrev s_minus : Stmt := top 5
abbrev s_isless : Stmt := top 6
abbrev s_smaller : Stmt := top 7
abbrev s_endof : Stmt := top 9
abbrev s_waitslack : Stmt := top 10
abbrev s_holdslack : Stmt := top 11
abbrev s_holdway : Stmt := top 14
abbrev s_waysof : Stmt := top 15
abbrev s_stretch : Stmt := top 16
abbrev s_ringpaper : Stmt := top 17
abbrev s_farthest : Stmt := top 18
abbrev s_earliest : Stmt := top 19
abbrev s_latest : Stmt := top 20
abbrev s_slipalone : Stmt := top 22
abbrev s_slipsof : Stmt := top 23
abbrev s_Lbegun : Stmt := top 25
abbrev s_Ltake : Stmt := top 26
abbrev s_Llow : Stmt := top 27
abbrev s_Lplus : Stmt := top 28
abbrev s_Lminus : Stmt := top 29
abbrev s_Ltimes : Stmt := top 30
abbrev s_Lunder : Stmt := top 31
abbrev s_Lamount : Stmt := top 32
abbrev s_Loffer : Stmt := top 33
abbrev s_Lshape : Stmt := top 34
abbrev s_Lwalk : Stmt := top 35
abbrev s_Lrate : Stmt := top 36
abbrev s_Lpaper : Stmt := top 37
abbrev s_Lflows : Stmt := top 38
abbrev s_Lleast : Stmt := top 39
abbrev s_Ltime : Stmt := top 40
abbrev s_Lplanned : Stmt := top 41
abbrev s_Lslack : Stmt := top 42
abbrev s_Llatestend : Stmt := top 43
abbrev s_Lfraction : Stmt := top 44
abbrev s_Lcopy : Stmt := top 45
abbrev s_Ldrawn : Stmt := top 46
abbrev s_Lalone : Stmt := top 47
abbrev s_Lright : Stmt := top 48
abbrev s_law : Stmt := top 49
abbrev nE (P : Params) (x : Str) (t : Tok) (v : Value) : DictEntry := ⟨PyData.keyHash P x, .str x t, v⟩
noncomputable def kk : Params -> PySem.W.Frag := fun P =>
 (nat_lit 3, ⟨(.type "dict"), none, (.dict #[nE P "__name__" 165 (.str "law_hurryprice_k28_slips_told" 369), nE P "__doc__" 166 .none, nE P "__package__" 167 .none, nE P "__loader__" 168 (.builtin "__main__.__loader__#opaque"), nE P "__spec__" 169 .none, nE P "__annotations__" 170 (.ref 6), nE P "__builtins__" 171 (.ref 4), nE P "__file__" 173 (.str "/claim/cut.py" 172), nE P "__cached__" 174 .none, nE P "common_part" 196 (.ref 21), nE P "NOUGHT" 201 (.ref 22), nE P "plus" 214 (.ref 29), nE P "minus" 222 (.ref 36), nE P "is_less" 230 (.ref 43), nE P "smaller" 238 (.ref 50), nE P "end_of" 247 (.ref 57), nE P "wait_slack" 258 (.ref 64), nE P "hold_slack" 269 (.ref 71), nE P "ONE" 274 (.ref 72), nE P "hold_way" 287 (.ref 79), nE P "ways_of" 293 (.ref 84), nE P "stretch" 309 (.ref 91), nE P "ring_paper" 325 (.ref 98), nE P "farthest" 331 (.ref 103), nE P "earliest" 341 (.ref 110), nE P "latest" 347 (.ref 115), nE P "slip_alone" 362 (.ref 122), nE P "slips_of" 368 (.ref 127), nE P "_law_begun" 379 (.ref 134), nE P "_law_take" 390 (.ref 141), nE P "_law_low" 400 (.ref 148), nE P "_law_plus" 408 (.ref 155), nE P "_law_minus" 416 (.ref 162), nE P "_law_times" 424 (.ref 169), nE P "_law_under" 432 (.ref 176), nE P "_law_amount" 443 (.ref 183), nE P "_law_offer" 449 (.ref 188), nE P "_law_shape" 469 (.ref 195), nE P "_law_walk" 475 (.ref 200), nE P "_law_rate" 489 (.ref 207), nE P "_law_paper" 495 (.ref 212), nE P "_law_flows" 501 (.ref 217), nE P "_law_least" 513 (.ref 224), nE P "_law_time" 519 (.ref 229), nE P "_law_planned" 525 (.ref 234), nE P "_law_slack" 535 (.ref 241), nE P "_law_latest_end" 546 (.ref 248), nE P "_law_fraction" 554 (.ref 255), nE P "_law_copy" 560 (.ref 260), nE P "_law_drawn" 574 (.ref 267), nE P "_law_alone" 596 (.ref 274), nE P "_law_right" 609 (.ref 281), nE P "law" 615 (.ref 286)] 53), #[]⟩) ::
 (nat_lit 20, ⟨(.type "code"), none, (.fields #[(.str "common_part" 189), (.str "common_part" 190), (.str "/claim/cut.py" 191), (.int 2 0), (.int 2 0), (.int 0 0), (.int 0 0), (.int 3 0), (.ref 15), (.bool true), (.int 181 0), (.ref 16), .none, (.ref 17), (.ref 18), (.ref 19), (.int 194 0), (.int 2 0), (.str "/claim/cut.py" 195)]), #[]⟩) ::
 (nat_lit 21, ⟨(.type "function"), none, (.func (PySem.W.fnOf "common_part" "common_part" (B1 s_commonpart) (B0 s_commonpart) (A4 s_commonpart) .none .none .none (.str "hurryprice.names" 187) none (.ref 20) .none)), #[]⟩) ::
 (nat_lit 22, ⟨(.type "tuple"), none, (.seq #[(.int 0 199), (.int 1 200)] 0), #[]⟩) ::
 (nat_lit 28, ⟨(.type "code"), none, (.fields #[(.str "plus" 202), (.str "plus" 203), (.str "/claim/cut.py" 204), (.int 9 0), (.int 2 0), (.int 0 0), (.int 0 0), (.int 3 0), (.ref 23), (.bool true), (.int 181 0), (.ref 24), .none, (.ref 25), (.ref 26), (.ref 27), (.int 212 0), (.int 9 0), (.str "/claim/cut.py" 213)]), #[]⟩) ::
 (nat_lit 29, ⟨(.type "function"), none, (.func (PySem.W.fnOf "plus" "plus" (B1 s_plus) (B0 s_plus) (A4 s_plus) .none .none .none (.str "hurryprice.ratios" 197) none (.ref 28) .none)), #[]⟩) ::
 (nat_lit 35, ⟨(.type "code"), none, (.fields #[(.str "minus" 215), (.str "minus" 216), (.str "/claim/cut.py" 217), (.int 15 0), (.int 2 0), (.int 0 0), (.int 0 0), (.int 3 0), (.ref 30), (.bool true), (.int 181 0), (.ref 31), .none, (.ref 32), (.ref 33), (.ref 34), (.int 220 0), (.int 15 0), (.str "/claim/cut.py" 221)]), #[]⟩) ::
 (nat_lit 36, ⟨(.type "function"), none, (.func (PySem.W.fnOf "minus" "minus" (B1 s_minus) (B0 s_minus) (A4 s_minus) .none .none .none (.str "hurryprice.ratios" 197) none (.ref 35) .none)), #[]⟩) ::
 (nat_lit 42, ⟨(.type "code"), none, (.fields #[(.str "is_less" 223), (.str "is_less" 224), (.str "/claim/cut.py" 225), (.int 17 0), (.int 2 0), (.int 0 0), (.int 0 0), (.int 3 0), (.ref 37), (.bool true), (.int 181 0), (.ref 38), .none, (.ref 39), (.ref 40), (.ref 41), (.int 228 0), (.int 17 0), (.str "/claim/cut.py" 229)]), #[]⟩) ::
 (nat_lit 43, ⟨(.type "function"), none, (.func (PySem.W.fnOf "is_less" "is_less" (B1 s_isless) (B0 s_isless) (A4 s_isless) .none .none .none (.str "hurryprice.ratios" 197) none (.ref 42) .none)), #[]⟩) ::
 (nat_lit 49, ⟨(.type "code"), none, (.fields #[(.str "smaller" 231), (.str "smaller" 232), (.str "/claim/cut.py" 233), (.int 19 0), (.int 2 0), (.int 0 0), (.int 0 0), (.int 3 0), (.ref 44), (.bool true), (.int 181 0), (.ref 45), .none, (.ref 46), (.ref 47), (.ref 48), (.int 236 0), (.int 19 0), (.str "/claim/cut.py" 237)]), #[]⟩) ::
 (nat_lit 50, ⟨(.type "function"), none, (.func (PySem.W.fnOf "smaller" "smaller" (B1 s_smaller) (B0 s_smaller) (A4 s_smaller) .none .none .none (.str "hurryprice.ratios" 197) none (.ref 49) .none)), #[]⟩) ::
 (nat_lit 56, ⟨(.type "code"), none, (.fields #[(.str "end_of" 241), (.str "end_of" 242), (.str "/claim/cut.py" 243), (.int 22 0), (.int 1 0), (.int 0 0), (.int 0 0), (.int 3 0), (.ref 51), (.bool true), (.int 181 0), (.ref 52), .none, (.ref 53), (.ref 54), (.ref 55), (.int 245 0), (.int 22 0), (.str "/claim/cut.py" 246)]), #[]⟩) ::
 (nat_lit 57, ⟨(.type "function"), none, (.func (PySem.W.fnOf "end_of" "end_of" (B1 s_endof) (B0 s_endof) (A4 s_endof) .none .none .none (.str "hurryprice.plans" 239) none (.ref 56) .none)), #[]⟩) ::
 (nat_lit 63, ⟨(.type "code"), none, (.fields #[(.str "wait_slack" 248), (.str "wait_slack" 249), (.str "/claim/cut.py" 250), (.int 24 0), (.int 2 0), (.int 0 0), (.int 0 0), (.int 3 0), (.ref 58), (.bool true), (.int 181 0), (.ref 59), .none, (.ref 60), (.ref 61), (.ref 62), (.int 256 0), (.int 24 0), (.str "/claim/cut.py" 257)]), #[]⟩) ::
 (nat_lit 64, ⟨(.type "function"), none, (.func (PySem.W.fnOf "wait_slack" "wait_slack" (B1 s_waitslack) (B0 s_waitslack) (A4 s_waitslack) .none .none .none (.str "hurryprice.plans" 239) none (.ref 63) .none)), #[]⟩) ::
 (nat_lit 70, ⟨(.type "code"), none, (.fields #[(.str "hold_slack" 259), (.str "hold_slack" 260), (.str "/claim/cut.py" 261), (.int 27 0), (.int 2 0), (.int 0 0), (.int 0 0), (.int 3 0), (.ref 65), (.bool true), (.int 181 0), (.ref 66), .none, (.ref 67), (.ref 68), (.ref 69), (.int 267 0), (.int 27 0), (.str "/claim/cut.py" 268)]), #[]⟩) ::
 (nat_lit 71, ⟨(.type "function"), none, (.func (PySem.W.fnOf "hold_slack" "hold_slack" (B1 s_holdslack) (B0 s_holdslack) (A4 s_holdslack) .none .none .none (.str "hurryprice.plans" 239) none (.ref 70) .none)), #[]⟩) ::
 (nat_lit 72, ⟨(.type "tuple"), none, (.seq #[(.int 1 272), (.int 1 273)] 0), #[]⟩) ::
 (nat_lit 78, ⟨(.type "code"), none, (.fields #[(.str "hold_way" 275), (.str "hold_way" 276), (.str "/claim/cut.py" 277), (.int 36 0), (.int 3 0), (.int 0 0), (.int 0 0), (.int 3 0), (.ref 73), (.bool true), (.int 181 0), (.ref 74), .none, (.ref 75), (.ref 76), (.ref 77), (.int 285 0), (.int 36 0), (.str "/claim/cut.py" 286)]), #[]⟩) ::
 (nat_lit 79, ⟨(.type "function"), none, (.func (PySem.W.fnOf "hold_way" "hold_way" (B1 s_holdway) (B0 s_holdway) (A4 s_holdway) .none .none .none (.str "hurryprice.starts" 270) none (.ref 78) .none)), #[]⟩) ::
 (nat_lit 83, ⟨(.type "code"), none, (.fields #[(.str "ways_of" 288), (.str "ways_of" 289), (.str "/claim/cut.py" 290), (.int 44 0), (.int 3 0), (.int 0 0), (.int 0 0), (.int 3 0), (.ref 80), (.bool true), (.int 181 0), (.ref 81), .none, .none, .none, (.ref 82), (.int 291 0), (.int 44 0), (.str "/claim/cut.py" 292)]), #[]⟩) ::
 (nat_lit 84, ⟨(.type "function"), none, (.func (PySem.W.fnOf "ways_of" "ways_of" (B1 s_waysof) (B0 s_waysof) (A4 s_waysof) .none .none .none (.str "hurryprice.starts" 270) none (.ref 83) .none)), #[]⟩) ::
 (nat_lit 90, ⟨(.type "code"), none, (.fields #[(.str "stretch" 294), (.str "stretch" 295), (.str "/claim/cut.py" 296), (.int 55 0), (.int 3 0), (.int 0 0), (.int 0 0), (.int 3 0), (.ref 85), (.bool true), (.int 181 0), (.ref 86), .none, (.ref 87), (.ref 88), (.ref 89), (.int 307 0), (.int 55 0), (.str "/claim/cut.py" 308)]), #[]⟩) ::
 (nat_lit 91, ⟨(.type "function"), none, (.func (PySem.W.fnOf "stretch" "stretch" (B1 s_stretch) (B0 s_stretch) (A4 s_stretch) .none .none .none (.str "hurryprice.starts" 270) none (.ref 90) .none)), #[]⟩) ::
 (nat_lit 97, ⟨(.type "code"), none, (.fields #[(.str "ring_paper" 310), (.str "ring_paper" 311), (.str "/claim/cut.py" 312), (.int 66 0), (.int 2 0), (.int 0 0), (.int 0 0), (.int 3 0), (.ref 92), (.bool true), (.int 181 0), (.ref 93), .none, (.ref 94), (.ref 95), (.ref 96), (.int 323 0), (.int 66 0), (.str "/claim/cut.py" 324)]), #[]⟩) ::
 (nat_lit 98, ⟨(.type "function"), none, (.func (PySem.W.fnOf "ring_paper" "ring_paper" (B1 s_ringpaper) (B0 s_ringpaper) (A4 s_ringpaper) .none .none .none (.str "hurryprice.starts" 270) none (.ref 97) .none)), #[]⟩) ::
 (nat_lit 102, ⟨(.type "code"), none, (.fields #[(.str "farthest" 326), (.str "farthest" 327), (.str "/claim/cut.py" 328), (.int 77 0), (.int 2 0), (.int 0 0), (.int 0 0), (.int 3 0), (.ref 99), (.bool true), (.int 181 0), (.ref 100), .none, .none, .none, (.ref 101), (.int 329 0), (.int 77 0), (.str "/claim/cut.py" 330)]), #[]⟩) ::
 (nat_lit 103, ⟨(.type "function"), none, (.func (PySem.W.fnOf "farthest" "farthest" (B1 s_farthest) (B0 s_farthest) (A4 s_farthest) .none .none .none (.str "hurryprice.starts" 270) none (.ref 102) .none)), #[]⟩) ::
 (nat_lit 109, ⟨(.type "code"), none, (.fields #[(.str "earliest" 332), (.str "earliest" 333), (.str "/claim/cut.py" 334), (.int 86 0), (.int 2 0), (.int 0 0), (.int 0 0), (.int 3 0), (.ref 104), (.bool true), (.int 181 0), (.ref 105), .none, (.ref 106), (.ref 107), (.ref 108), (.int 339 0), (.int 86 0), (.str "/claim/cut.py" 340)]), #[]⟩) ::
 (nat_lit 110, ⟨(.type "function"), none, (.func (PySem.W.fnOf "earliest" "earliest" (B1 s_earliest) (B0 s_earliest) (A4 s_earliest) .none .none .none (.str "hurryprice.starts" 270) none (.ref 109) .none)), #[]⟩) ::
 (nat_lit 114, ⟨(.type "code"), none, (.fields #[(.str "latest" 342), (.str "latest" 343), (.str "/claim/cut.py" 344), (.int 91 0), (.int 3 0), (.int 0 0), (.int 0 0), (.int 3 0), (.ref 111), (.bool true), (.int 181 0), (.ref 112), .none, .none, .none, (.ref 113), (.int 345 0), (.int 91 0), (.str "/claim/cut.py" 346)]), #[]⟩) ::
 (nat_lit 115, ⟨(.type "function"), none, (.func (PySem.W.fnOf "latest" "latest" (B1 s_latest) (B0 s_latest) (A4 s_latest) .none .none .none (.str "hurryprice.starts" 270) none (.ref 114) .none)), #[]⟩) ::
 (nat_lit 121, ⟨(.type "code"), none, (.fields #[(.str "slip_alone" 350), (.str "slip_alone" 351), (.str "/claim/cut.py" 352), (.int 101 0), (.int 4 0), (.int 0 0), (.int 0 0), (.int 3 0), (.ref 116), (.bool true), (.int 181 0), (.ref 117), .none, (.ref 118), (.ref 119), (.ref 120), (.int 360 0), (.int 101 0), (.str "/claim/cut.py" 361)]), #[]⟩) ::
 (nat_lit 122, ⟨(.type "function"), none, (.func (PySem.W.fnOf "slip_alone" "slip_alone" (B1 s_slipalone) (B0 s_slipalone) (A4 s_slipalone) .none .none .none (.str "hurryprice.slips" 348) none (.ref 121) .none)), #[]⟩) ::
 (nat_lit 126, ⟨(.type "code"), none, (.fields #[(.str "slips_of" 363), (.str "slips_of" 364), (.str "/claim/cut.py" 365), (.int 110 0), (.int 3 0), (.int 0 0), (.int 0 0), (.int 3 0), (.ref 123), (.bool true), (.int 181 0), (.ref 124), .none, .none, .none, (.ref 125), (.int 366 0), (.int 110 0), (.str "/claim/cut.py" 367)]), #[]⟩) ::
 (nat_lit 127, ⟨(.type "function"), none, (.func (PySem.W.fnOf "slips_of" "slips_of" (B1 s_slipsof) (B0 s_slipsof) (A4 s_slipsof) .none .none .none (.str "hurryprice.slips" 348) none (.ref 126) .none)), #[]⟩) ::
 (nat_lit 133, ⟨(.type "code"), none, (.fields #[(.str "_law_begun" 371), (.str "_law_begun" 372), (.str "/claim/cut.py" 373), (.int 117 0), (.int 2 0), (.int 0 0), (.int 0 0), (.int 3 0), (.ref 128), (.bool true), (.int 181 0), (.ref 129), .none, (.ref 130), (.ref 131), (.ref 132), (.int 377 0), (.int 117 0), (.str "/claim/cut.py" 378)]), #[]⟩) ::
 (nat_lit 134, ⟨(.type "function"), none, (.func (PySem.W.fnOf "_law_begun" "_law_begun" (B1 s_Lbegun) (B0 s_Lbegun) (A4 s_Lbegun) .none .none .none (.str "law_hurryprice_k28_slips_told" 369) none (.ref 133) .none)), #[]⟩) ::
 (nat_lit 140, ⟨(.type "code"), none, (.fields #[(.str "_law_take" 380), (.str "_law_take" 381), (.str "/claim/cut.py" 382), (.int 122 0), (.int 2 0), (.int 0 0), (.int 0 0), (.int 3 0), (.ref 135), (.bool true), (.int 181 0), (.ref 136), .none, (.ref 137), (.ref 138), (.ref 139), (.int 388 0), (.int 122 0), (.str "/claim/cut.py" 389)]), #[]⟩) ::
 (nat_lit 141, ⟨(.type "function"), none, (.func (PySem.W.fnOf "_law_take" "_law_take" (B1 s_Ltake) (B0 s_Ltake) (A4 s_Ltake) .none .none .none (.str "law_hurryprice_k28_slips_told" 369) none (.ref 140) .none)), #[]⟩) ::
 (nat_lit 147, ⟨(.type "code"), none, (.fields #[(.str "_law_low" 391), (.str "_law_low" 392), (.str "/claim/cut.py" 393), (.int 133 0), (.int 2 0), (.int 0 0), (.int 0 0), (.int 3 0), (.ref 142), (.bool true), (.int 181 0), (.ref 143), .none, (.ref 144), (.ref 145), (.ref 146), (.int 398 0), (.int 133 0), (.str "/claim/cut.py" 399)]), #[]⟩) ::
 (nat_lit 148, ⟨(.type "function"), none, (.func (PySem.W.fnOf "_law_low" "_law_low" (B1 s_Llow) (B0 s_Llow) (A4 s_Llow) .none .none .none (.str "law_hurryprice_k28_slips_told" 369) none (.ref 147) .none)), #[]⟩) ::
 (nat_lit 154, ⟨(.type "code"), none, (.fields #[(.str "_law_plus" 401), (.str "_law_plus" 402), (.str "/claim/cut.py" 403), (.int 139 0), (.int 2 0), (.int 0 0), (.int 0 0), (.int 3 0), (.ref 149), (.bool true), (.int 181 0), (.ref 150), .none, (.ref 151), (.ref 152), (.ref 153), (.int 406 0), (.int 139 0), (.str "/claim/cut.py" 407)]), #[]⟩) ::
 (nat_lit 155, ⟨(.type "function"), none, (.func (PySem.W.fnOf "_law_plus" "_law_plus" (B1 s_Lplus) (B0 s_Lplus) (A4 s_Lplus) .none .none .none (.str "law_hurryprice_k28_slips_told" 369) none (.ref 154) .none)), #[]⟩) ::
 (nat_lit 161, ⟨(.type "code"), none, (.fields #[(.str "_law_minus" 409), (.str "_law_minus" 410), (.str "/claim/cut.py" 411), (.int 141 0), (.int 2 0), (.int 0 0), (.int 0 0), (.int 3 0), (.ref 156), (.bool true), (.int 181 0), (.ref 157), .none, (.ref 158), (.ref 159), (.ref 160), (.int 414 0), (.int 141 0), (.str "/claim/cut.py" 415)]), #[]⟩) ::
 (nat_lit 162, ⟨(.type "function"), none, (.func (PySem.W.fnOf "_law_minus" "_law_minus" (B1 s_Lminus) (B0 s_Lminus) (A4 s_Lminus) .none .none .none (.str "law_hurryprice_k28_slips_told" 369) none (.ref 161) .none)), #[]⟩) ::
 (nat_lit 168, ⟨(.type "code"), none, (.fields #[(.str "_law_times" 417), (.str "_law_times" 418), (.str "/claim/cut.py" 419), (.int 143 0), (.int 2 0), (.int 0 0), (.int 0 0), (.int 3 0), (.ref 163), (.bool true), (.int 181 0), (.ref 164), .none, (.ref 165), (.ref 166), (.ref 167), (.int 422 0), (.int 143 0), (.str "/claim/cut.py" 423)]), #[]⟩) ::
 (nat_lit 169, ⟨(.type "function"), none, (.func (PySem.W.fnOf "_law_times" "_law_times" (B1 s_Ltimes) (B0 s_Ltimes) (A4 s_Ltimes) .none .none .none (.str "law_hurryprice_k28_slips_told" 369) none (.ref 168) .none)), #[]⟩) ::
 (nat_lit 175, ⟨(.type "code"), none, (.fields #[(.str "_law_under" 425), (.str "_law_under" 426), (.str "/claim/cut.py" 427), (.int 145 0), (.int 2 0), (.int 0 0), (.int 0 0), (.int 3 0), (.ref 170), (.bool true), (.int 181 0), (.ref 171), .none, (.ref 172), (.ref 173), (.ref 174), (.int 430 0), (.int 145 0), (.str "/claim/cut.py" 431)]), #[]⟩) ::
 (nat_lit 176, ⟨(.type "function"), none, (.func (PySem.W.fnOf "_law_under" "_law_under" (B1 s_Lunder) (B0 s_Lunder) (A4 s_Lunder) .none .none .none (.str "law_hurryprice_k28_slips_told" 369) none (.ref 175) .none)), #[]⟩) ::
 (nat_lit 182, ⟨(.type "code"), none, (.fields #[(.str "_law_amount" 433), (.str "_law_amount" 434), (.str "/claim/cut.py" 435), (.int 147 0), (.int 3 0), (.int 0 0), (.int 0 0), (.int 3 0), (.ref 177), (.bool true), (.int 181 0), (.ref 178), .none, (.ref 179), (.ref 180), (.ref 181), (.int 441 0), (.int 147 0), (.str "/claim/cut.py" 442)]), #[]⟩) ::
 (nat_lit 183, ⟨(.type "function"), none, (.func (PySem.W.fnOf "_law_amount" "_law_amount" (B1 s_Lamount) (B0 s_Lamount) (A4 s_Lamount) .none .none .none (.str "law_hurryprice_k28_slips_told" 369) none (.ref 182) .none)), #[]⟩) ::
 (nat_lit 187, ⟨(.type "code"), none, (.fields #[(.str "_law_offer" 444), (.str "_law_offer" 445), (.str "/claim/cut.py" 446), (.int 153 0), (.int 4 0), (.int 0 0), (.int 0 0), (.int 3 0), (.ref 184), (.bool true), (.int 181 0), (.ref 185), .none, .none, .none, (.ref 186), (.int 447 0), (.int 153 0), (.str "/claim/cut.py" 448)]), #[]⟩) ::
 (nat_lit 188, ⟨(.type "function"), none, (.func (PySem.W.fnOf "_law_offer" "_law_offer" (B1 s_Loffer) (B0 s_Loffer) (A4 s_Loffer) .none .none .none (.str "law_hurryprice_k28_slips_told" 369) none (.ref 187) .none)), #[]⟩) ::
 (nat_lit 194, ⟨(.type "code"), none, (.fields #[(.str "_law_shape" 450), (.str "_law_shape" 451), (.str "/claim/cut.py" 452), (.int 171 0), (.int 2 0), (.int 0 0), (.int 0 0), (.int 3 0), (.ref 189), (.bool true), (.int 181 0), (.ref 190), .none, (.ref 191), (.ref 192), (.ref 193), (.int 467 0), (.int 171 0), (.str "/claim/cut.py" 468)]), #[]⟩) ::
 (nat_lit 195, ⟨(.type "function"), none, (.func (PySem.W.fnOf "_law_shape" "_law_shape" (B1 s_Lshape) (B0 s_Lshape) (A4 s_Lshape) .none .none .none (.str "law_hurryprice_k28_slips_told" 369) none (.ref 194) .none)), #[]⟩) ::
 (nat_lit 199, ⟨(.type "code"), none, (.fields #[(.str "_law_walk" 470), (.str "_law_walk" 471), (.str "/claim/cut.py" 472), (.int 192 0), (.int 2 0), (.int 0 0), (.int 0 0), (.int 3 0), (.ref 196), (.bool true), (.int 181 0), (.ref 197), .none, .none, .none, (.ref 198), (.int 473 0), (.int 192 0), (.str "/claim/cut.py" 474)]), #[]⟩) ::
 (nat_lit 200, ⟨(.type "function"), none, (.func (PySem.W.fnOf "_law_walk" "_law_walk" (B1 s_Lwalk) (B0 s_Lwalk) (A4 s_Lwalk) .none .none .none (.str "law_hurryprice_k28_slips_told" 369) none (.ref 199) .none)), #[]⟩) ::
 (nat_lit 206, ⟨(.type "code"), none, (.fields #[(.str "_law_rate" 476), (.str "_law_rate" 477), (.str "/claim/cut.py" 478), (.int 210 0), (.int 2 0), (.int 0 0), (.int 0 0), (.int 3 0), (.ref 201), (.bool true), (.int 181 0), (.ref 202), .none, (.ref 203), (.ref 204), (.ref 205), (.int 487 0), (.int 210 0), (.str "/claim/cut.py" 488)]), #[]⟩) ::
 (nat_lit 207, ⟨(.type "function"), none, (.func (PySem.W.fnOf "_law_rate" "_law_rate" (B1 s_Lrate) (B0 s_Lrate) (A4 s_Lrate) .none .none .none (.str "law_hurryprice_k28_slips_told" 369) none (.ref 206) .none)), #[]⟩) ::
 (nat_lit 211, ⟨(.type "code"), none, (.fields #[(.str "_law_paper" 490), (.str "_law_paper" 491), (.str "/claim/cut.py" 492), (.int 219 0), (.int 3 0), (.int 0 0), (.int 0 0), (.int 3 0), (.ref 208), (.bool true), (.int 181 0), (.ref 209), .none, .none, .none, (.ref 210), (.int 493 0), (.int 219 0), (.str "/claim/cut.py" 494)]), #[]⟩) ::
 (nat_lit 212, ⟨(.type "function"), none, (.func (PySem.W.fnOf "_law_paper" "_law_paper" (B1 s_Lpaper) (B0 s_Lpaper) (A4 s_Lpaper) .none .none .none (.str "law_hurryprice_k28_slips_told" 369) none (.ref 211) .none)), #[]⟩) ::
 (nat_lit 216, ⟨(.type "code"), none, (.fields #[(.str "_law_flows" 496), (.str "_law_flows" 497), (.str "/claim/cut.py" 498), (.int 235 0), (.int 2 0), (.int 0 0), (.int 0 0), (.int 3 0), (.ref 213), (.bool true), (.int 181 0), (.ref 214), .none, .none, .none, (.ref 215), (.int 499 0), (.int 235 0), (.str "/claim/cut.py" 500)]), #[]⟩) ::
 (nat_lit 217, ⟨(.type "function"), none, (.func (PySem.W.fnOf "_law_flows" "_law_flows" (B1 s_Lflows) (B0 s_Lflows) (A4 s_Lflows) .none .none .none (.str "law_hurryprice_k28_slips_told" 369) none (.ref 216) .none)), #[]⟩) ::
 (nat_lit 223, ⟨(.type "code"), none, (.fields #[(.str "_law_least" 502), (.str "_law_least" 503), (.str "/claim/cut.py" 504), (.int 254 0), (.int 2 0), (.int 0 0), (.int 0 0), (.int 3 0), (.ref 218), (.bool true), (.int 181 0), (.ref 219), .none, (.ref 220), (.ref 221), (.ref 222), (.int 511 0), (.int 254 0), (.str "/claim/cut.py" 512)]), #[]⟩) ::
 (nat_lit 224, ⟨(.type "function"), none, (.func (PySem.W.fnOf "_law_least" "_law_least" (B1 s_Lleast) (B0 s_Lleast) (A4 s_Lleast) .none .none .none (.str "law_hurryprice_k28_slips_told" 369) none (.ref 223) .none)), #[]⟩) ::
 (nat_lit 228, ⟨(.type "code"), none, (.fields #[(.str "_law_time" 514), (.str "_law_time" 515), (.str "/claim/cut.py" 516), (.int 261 0), (.int 3 0), (.int 0 0), (.int 0 0), (.int 3 0), (.ref 225), (.bool true), (.int 181 0), (.ref 226), .none, .none, .none, (.ref 227), (.int 517 0), (.int 261 0), (.str "/claim/cut.py" 518)]), #[]⟩) ::
 (nat_lit 229, ⟨(.type "function"), none, (.func (PySem.W.fnOf "_law_time" "_law_time" (B1 s_Ltime) (B0 s_Ltime) (A4 s_Ltime) .none .none .none (.str "law_hurryprice_k28_slips_told" 369) none (.ref 228) .none)), #[]⟩) ::
 (nat_lit 233, ⟨(.type "code"), none, (.fields #[(.str "_law_planned" 520), (.str "_law_planned" 521), (.str "/claim/cut.py" 522), (.int 273 0), (.int 3 0), (.int 0 0), (.int 0 0), (.int 3 0), (.ref 230), (.bool true), (.int 181 0), (.ref 231), .none, .none, .none, (.ref 232), (.int 523 0), (.int 273 0), (.str "/claim/cut.py" 524)]), #[]⟩) ::
 (nat_lit 234, ⟨(.type "function"), none, (.func (PySem.W.fnOf "_law_planned" "_law_planned" (B1 s_Lplanned) (B0 s_Lplanned) (A4 s_Lplanned) .none .none .none (.str "law_hurryprice_k28_slips_told" 369) none (.ref 233) .none)), #[]⟩) ::
 (nat_lit 240, ⟨(.type "code"), none, (.fields #[(.str "_law_slack" 526), (.str "_law_slack" 527), (.str "/claim/cut.py" 528), (.int 299 0), (.int 2 0), (.int 0 0), (.int 0 0), (.int 3 0), (.ref 235), (.bool true), (.int 181 0), (.ref 236), .none, (.ref 237), (.ref 238), (.ref 239), (.int 533 0), (.int 299 0), (.str "/claim/cut.py" 534)]), #[]⟩) ::
 (nat_lit 241, ⟨(.type "function"), none, (.func (PySem.W.fnOf "_law_slack" "_law_slack" (B1 s_Lslack) (B0 s_Lslack) (A4 s_Lslack) .none .none .none (.str "law_hurryprice_k28_slips_told" 369) none (.ref 240) .none)), #[]⟩) ::
 (nat_lit 247, ⟨(.type "code"), none, (.fields #[(.str "_law_latest_end" 536), (.str "_law_latest_end" 537), (.str "/claim/cut.py" 538), (.int 306 0), (.int 1 0), (.int 0 0), (.int 0 0), (.int 3 0), (.ref 242), (.bool true), (.int 181 0), (.ref 243), .none, (.ref 244), (.ref 245), (.ref 246), (.int 544 0), (.int 306 0), (.str "/claim/cut.py" 545)]), #[]⟩) ::
 (nat_lit 248, ⟨(.type "function"), none, (.func (PySem.W.fnOf "_law_latest_end" "_law_latest_end" (B1 s_Llatestend) (B0 s_Llatestend) (A4 s_Llatestend) .none .none .none (.str "law_hurryprice_k28_slips_told" 369) none (.ref 247) .none)), #[]⟩) ::
 (nat_lit 254, ⟨(.type "code"), none, (.fields #[(.str "_law_fraction" 547), (.str "_law_fraction" 548), (.str "/claim/cut.py" 549), (.int 313 0), (.int 1 0), (.int 0 0), (.int 0 0), (.int 3 0), (.ref 249), (.bool true), (.int 181 0), (.ref 250), .none, (.ref 251), (.ref 252), (.ref 253), (.int 552 0), (.int 313 0), (.str "/claim/cut.py" 553)]), #[]⟩) ::
 (nat_lit 255, ⟨(.type "function"), none, (.func (PySem.W.fnOf "_law_fraction" "_law_fraction" (B1 s_Lfraction) (B0 s_Lfraction) (A4 s_Lfraction) .none .none .none (.str "law_hurryprice_k28_slips_told" 369) none (.ref 254) .none)), #[]⟩) ::
 (nat_lit 259, ⟨(.type "code"), none, (.fields #[(.str "_law_copy" 555), (.str "_law_copy" 556), (.str "/claim/cut.py" 557), (.int 320 0), (.int 1 0), (.int 0 0), (.int 0 0), (.int 3 0), (.ref 256), (.bool true), (.int 181 0), (.ref 257), .none, .none, .none, (.ref 258), (.int 558 0), (.int 320 0), (.str "/claim/cut.py" 559)]), #[]⟩) ::
 (nat_lit 260, ⟨(.type "function"), none, (.func (PySem.W.fnOf "_law_copy" "_law_copy" (B1 s_Lcopy) (B0 s_Lcopy) (A4 s_Lcopy) .none .none .none (.str "law_hurryprice_k28_slips_told" 369) none (.ref 259) .none)), #[]⟩) ::
 (nat_lit 266, ⟨(.type "code"), none, (.fields #[(.str "_law_drawn" 561), (.str "_law_drawn" 562), (.str "/claim/cut.py" 563), (.int 326 0), (.int 2 0), (.int 0 0), (.int 0 0), (.int 3 0), (.ref 261), (.bool true), (.int 181 0), (.ref 262), .none, (.ref 263), (.ref 264), (.ref 265), (.int 572 0), (.int 326 0), (.str "/claim/cut.py" 573)]), #[]⟩) ::
 (nat_lit 267, ⟨(.type "function"), none, (.func (PySem.W.fnOf "_law_drawn" "_law_drawn" (B1 s_Ldrawn) (B0 s_Ldrawn) (A4 s_Ldrawn) .none .none .none (.str "law_hurryprice_k28_slips_told" 369) none (.ref 266) .none)), #[]⟩) ::
 (nat_lit 273, ⟨(.type "code"), none, (.fields #[(.str "_law_alone" 575), (.str "_law_alone" 576), (.str "/claim/cut.py" 577), (.int 336 0), (.int 4 0), (.int 0 0), (.int 0 0), (.int 3 0), (.ref 268), (.bool true), (.int 181 0), (.ref 269), .none, (.ref 270), (.ref 271), (.ref 272), (.int 594 0), (.int 336 0), (.str "/claim/cut.py" 595)]), #[]⟩) ::
 (nat_lit 274, ⟨(.type "function"), none, (.func (PySem.W.fnOf "_law_alone" "_law_alone" (B1 s_Lalone) (B0 s_Lalone) (A4 s_Lalone) .none .none .none (.str "law_hurryprice_k28_slips_told" 369) none (.ref 273) .none)), #[]⟩) ::
 (nat_lit 280, ⟨(.type "code"), none, (.fields #[(.str "_law_right" 597), (.str "_law_right" 598), (.str "/claim/cut.py" 599), (.int 353 0), (.int 5 0), (.int 0 0), (.int 0 0), (.int 3 0), (.ref 275), (.bool true), (.int 181 0), (.ref 276), .none, (.ref 277), (.ref 278), (.ref 279), (.int 607 0), (.int 353 0), (.str "/claim/cut.py" 608)]), #[]⟩) ::
 (nat_lit 281, ⟨(.type "function"), none, (.func (PySem.W.fnOf "_law_right" "_law_right" (B1 s_Lright) (B0 s_Lright) (A4 s_Lright) .none .none .none (.str "law_hurryprice_k28_slips_told" 369) none (.ref 280) .none)), #[]⟩) ::
 (nat_lit 285, ⟨(.type "code"), none, (.fields #[(.str "law" 610), (.str "law" 611), (.str "/claim/cut.py" 612), (.int 365 0), (.int 1 0), (.int 0 0), (.int 0 0), (.int 3 0), (.ref 282), (.bool true), (.int 181 0), (.ref 283), .none, .none, .none, (.ref 284), (.int 613 0), (.int 365 0), (.str "/claim/cut.py" 614)]), #[]⟩) ::
 (nat_lit 286, ⟨(.type "function"), none, (.func (PySem.W.fnOf "law" "law" (B1 s_law) (B0 s_law) (A4 s_law) .none .none .none (.str "law_hurryprice_k28_slips_told" 369) none (.ref 285) .none)), #[]⟩) :: []
def qq : Program := PySem.W.view PySem.Challenge.pw_hurryprice_k28_slips_told [1, 3, 4, 5, 6, 7, 9, 10, 11, 13, 14, 15, 16, 17, 18, 19, 20, 22, 23, 25, 26, 27, 28, 29, 30, 31, 32, 33, 34, 35, 36, 37, 38, 39, 40, 41, 42, 43, 44, 45, 46, 47, 48, 49]
def aa : List Nat := [3, 20, 21, 22, 28, 29, 35, 36, 42, 43, 49, 50, 56, 57, 63, 64, 70, 71, 72, 78, 79, 83, 84, 90, 91, 97, 98, 102, 103, 109, 110, 114, 115, 121, 122, 126, 127, 133, 134, 140, 141, 147, 148, 154, 155, 161, 162, 168, 169, 175, 176, 182, 183, 187, 188, 194, 195, 199, 200, 206, 207, 211, 212, 216, 217, 223, 224, 228, 229, 233, 234, 240, 241, 247, 248, 254, 255, 259, 260, 266, 267, 273, 274, 280, 281, 285, 286]
theorem B9c : ∀ P : Params, aa = (kk P).map (·.1) := fun P => by kernel_rfl
noncomputable abbrev hh : PySem.W.Hook := PySem.W.kHook kk aa B9c
abbrev xt (s : Shared) : Bool := PySem.W.xlAt qq [] s && PySem.W.recOk (PySem.W.RowW.records PySem.Challenge.rw_hurryprice_k28_slips_told.row.toRowW) s
theorem run1 (w : World) (os : OsState) : (L2.ranT PySem.Challenge.pw_hurryprice_k28_slips_told 2904 w os).map (fun x => PySem.W.staticsOk (importedModules PySem.Challenge.pw_hurryprice_k28_slips_told.main.body) (PySem.W.boot_heap w.params) x.abs.heap && PySem.W.namesBound PySem.Challenge.pw_hurryprice_k28_slips_told x.abs.heap && PySem.W.gensDone x.abs && PySem.W.laidKept (PySem.W.boot_heap w.params) x.abs.heap) = some true := by kernel_rfl
theorem run2 (w : World) (os : OsState) : (L2.ranT PySem.Challenge.pw_hurryprice_k28_slips_told 2904 w os).map (fun x => (PySem.W.openSeen qq [] (importedModules PySem.Challenge.pw_hurryprice_k28_slips_told.main.body) xt true x.abs).1) = some (PySem.W.openGood qq []).1 := by kernel_rfl
theorem run4 (w : World) (os : OsState) : (L2.ranT PySem.Challenge.pw_hurryprice_k28_slips_told 2904 w os).map (fun x => (PySem.W.openSeen qq [] (importedModules PySem.Challenge.pw_hurryprice_k28_slips_told.main.body) xt true x.abs).2) = some (PySem.W.openGood qq []).2 := by kernel_rfl
theorem run3 (w : World) (os : OsState) : (L2.ranT PySem.Challenge.pw_hurryprice_k28_slips_told 2904 w os).map (fun x => hh.obs x.abs) = some (hh.val w) := by kernel_rfl
theorem left : PySem.W.LeftO PySem.Challenge.pw_hurryprice_k28_slips_told qq [] xt hh.obs hh.val 2904 := L2.B7l (by kernel_rfl) (by decide) (fun s => by kernel_rfl) run1 run2 run4 run3
theorem said : PySem.Challenge.rw_hurryprice_k28_slips_told.wellSaid = true := by decide +kernel
end Prf
namespace L2
open PySem PySem.Spec PyProof.Rows
abbrev Key := Sum Int Str
def B7t : Key -> Value -> Bool
 | .inl k, v => Value.isInt k v
 | .inr x, v => Value.isStrOf x v
def keyH (w : World) : Key -> Int
 | .inl k => hashInt k
 | .inr x => hashStr w x
theorem G1 : ∀ {k : Key} {v : Value}, B7t k v = true -> (∃ i t, k = Sum.inl i /\ v = Value.int i t) \/ (∃ x t, k = Sum.inr x /\ v = Value.str x t)
 | .inl i, v, h => by
  obtain ⟨t, e⟩ := Value.isInt_shape (k := i) (v := v) h
  exact .inl ⟨i, t, rfl, e⟩
 | .inr x, v, h => by
  obtain ⟨t, e⟩ := Value.isStrOf_shape (x := x) (v := v) h
  exact .inr ⟨x, t, rfl, e⟩
theorem B7s (a b : Int) : decide ((Sum.inl a : Key) = Sum.inl b) = (a == b) := by
 by_cases e : a = b
 ·subst e; simp
 ·have h : ¬ (Sum.inl a : Key) = Sum.inl b := fun q => e (Sum.inl.inj q)
  rw [decide_eq_false h]
  exact (beq_eq_false_iff_ne.mpr e).symm
theorem B7p (a b : Str) : decide ((Sum.inr a : Key) = Sum.inr b) = decide (a = b) := by
 by_cases e : a = b
 ·subst e; simp
 ·have h : ¬ (Sum.inr a : Key) = Sum.inr b := fun q => e (Sum.inr.inj q)
  rw [decide_eq_false h, decide_eq_false e]
theorem B7r (a : Int) (b : Str) : decide ((Sum.inl a : Key) = Sum.inr b) = false := decide_eq_false (fun q => nomatch q)
theorem B7q (a : Str) (b : Int) : decide ((Sum.inr a : Key) = Sum.inl b) = false := decide_eq_false (fun q => nomatch q)
def A7n (prog : Program) (w : World) : PySem.KeyKind prog w Key where
 is := B7t
 hash := keyH w
 inj := fun v a b ha hb => by
  rcases G1 ha with ⟨i, t, rfl, rfl⟩ | ⟨x, t, rfl, rfl⟩
  ·rcases G1 hb with ⟨j, u, rfl, e⟩ | ⟨y, u, rfl, e⟩
   ·injection e with e1 _; rw [e1]
   ·exact nomatch e
  ·rcases G1 hb with ⟨j, u, rfl, e⟩ | ⟨y, u, rfl, e⟩
   ·exact nomatch e
   ·injection e with e1 _; rw [e1]
 byValue := fun k v h => by
  rcases G1 h with ⟨i, t, rfl, rfl⟩ | ⟨x, t, rfl, rfl⟩ <;> rfl
 pyHash := fun hv h => by
  rcases G1 hv with ⟨i, t, rfl, rfl⟩ | ⟨x, t, rfl, rfl⟩
  ·exact wpAny_pyHash_int h
  ·exact wpAny_pyHash_str h
 eqBool := fun hu hv h => by
  rcases G1 hu with ⟨i, t, rfl, rfl⟩ | ⟨x, t, rfl, rfl⟩
  ·rcases G1 hv with ⟨j, u, rfl, rfl⟩ | ⟨y, u, rfl, rfl⟩
   ·rw [B7s] at h; exact wpAny_eqBool_int h
   ·rw [B7r] at h; exact SeqAt.EqAt.int_str i t y u _ _ _ _ h
  ·rcases G1 hv with ⟨j, u, rfl, rfl⟩ | ⟨y, u, rfl, rfl⟩
   ·rw [B7q] at h; exact SeqAt.EqAt.str_int x t j u _ _ _ _ h
   ·rw [B7p] at h; exact wpAny_eqBool_str h
 «strs» := fun k x t v h => by
  rcases G1 h with ⟨i, u, rfl, e⟩ | ⟨y, u, rfl, e⟩
  ·exact nomatch e
  ·injection e with e1 _
   subst e1
   cases v <;> rfl
end L2
namespace L2
open PySem PySem.Spec PyProof.Rows
inductive V where
 | non | bl (b : Bool) | int (i : Int) | str (x : Str) | byt (b : Array UInt8) | flt (b : UInt64) | ref (a : Addr) | ty (n : String)
 deriving DecidableEq
def RelV : V -> Value -> Prop
 | .non, u => u = Value.none
 | .bl b, u => u = Value.bool b
 | .int i, u => ∃ t, u = Value.int i t
 | .str x, u => ∃ t, u = Value.str x t
 | .byt b, u => ∃ t, u = Value.bytes b t
 | .flt b, u => ∃ t, u = Value.float b t
 | .ref a, u => u = Value.ref a
 | .ty n, u => u = Value.type n
abbrev Vals : List V -> List Value -> Prop := Paired RelV
theorem Vals.length {xs : List V} {us : List Value} (r : Vals xs us) : xs.length = us.length := Paired.length r
theorem Vals.get : ∀ {xs : List V} {us : List Value} {i : Nat} {x : V}, Vals xs us -> xs[i]? = some x -> ∃ u, us[i]? = some u /\ RelV x u
 | _, _, _, _, .nil, e => by simp at e
 | _, _, 0, _, .cons r _, e => by simp at e; subst e; exact ⟨_, rfl, r⟩
 | _, _, i + 1, x, .cons _ t, e => by
  obtain ⟨u, h1, h2⟩ := Vals.get (i := i) (x := x) t (by simpa using e)
  exact ⟨u, by simpa using h1, h2⟩
theorem Vals.set {x : V} {u : Value} (r : RelV x u) : ∀ {xs : List V} {us : List Value} (i : Nat), Vals xs us -> Vals (xs.set i x) (us.set i u)
 | _, _, _, .nil => .nil
 | _, _, 0, .cons _ t => .cons r t
 | _, _, i + 1, .cons q t => .cons q (Vals.set r i t)
theorem Vals.append : ∀ {xs ys : List V} {us ws : List Value}, Vals xs us -> Vals ys ws -> Vals (xs ++ ys) (us ++ ws)
 | _, _, _, _, .nil, s => s
 | _, _, _, _, .cons r t, s => .cons r (Vals.append t s)
theorem Vals.take : ∀ {xs : List V} {us : List Value} (n : Nat), Vals xs us -> Vals (xs.take n) (us.take n)
 | _, _, 0, _ => .nil
 | _, _, _ + 1, .nil => .nil
 | _, _, n + 1, .cons r t => .cons r (Vals.take n t)
theorem Vals.drop : ∀ {xs : List V} {us : List Value} (n : Nat), Vals xs us -> Vals (xs.drop n) (us.drop n)
 | _, _, 0, r => r
 | _, _, _ + 1, .nil => .nil
 | _, _, n + 1, .cons _ t => Vals.drop n t
theorem Vals.none_of : ∀ {xs : List V} {us : List Value} {i : Nat}, Vals xs us -> xs[i]? = none -> us[i]? = none := fun {xs us i} r e => by
 have h1 := r.length
 have h2 : xs.length <= i := List.getElem?_eq_none_iff.mp e
 exact List.getElem?_eq_none_iff.mpr (by omega)
def RelO : Option V -> Option Value -> Prop
 | some v, some u => RelV v u
 | none, none => True
 | _, _ => False
def KV {κ : Type} : List (κ × V) -> List (κ × Value) -> Prop := Paired fun (p : κ × V) (q : κ × Value) => p.1 = q.1 /\ RelV p.2 q.2
def kV : Key -> V
 | .inl i => .int i
 | .inr x => .str x
inductive HO where
  | lst (xs : List V)
  | tup (xs : List V)
  | dK (kvs : List (Key × V)) | dT (kvs : List (List Key × V))
  | set (S : Int -> Bool) (n : Nat)
  | ins (C dx : Addr) (fs : List (Str × V))
  | own (x : Addr)
  | xd (fs : List (Str × V))
  | met (f x : Addr)
  | rng (lo hi : Int)
  | frz (o : Obj) (u : HO)
  | tbl (ps : Array Value)
  | ext (φ : Heap -> Prop)
abbrev Hp := Addr -> Option HO
def upd (H : Hp) (a : Addr) (o : HO) : Hp := fun b => if b = a then some o else H b
theorem D6 {H : Hp} {a : Addr} {o : HO} : upd H a o a = some o := by unfold upd; rw [if_pos rfl]
theorem D8 {H : Hp} {a b : Addr} {o : HO} (h : b ≠ a) : upd H a o b = H b := by unfold upd; rw [if_neg h]
theorem F4 {H : Hp} {a b : Addr} {o : HO} (h : H a = some o) (h' : H b = none) : a ≠ b := by
 intro e; subst e; rw [h] at h'; cases h'
section
variable (P : Program) (w : World)
def ObjOk (H : Hp) (h : Heap) (a : Addr) : HO -> Prop
 | .lst xs => xs.length <= sizeLine /\ ∃ (its : List Value) (n : Nat), Vals xs its /\ h.get? a = some { cls := .type "list", data := .seq its.toArray n }
 | .tup xs => xs.length <= sizeLine /\ ∃ its : List Value, Vals xs its /\ IsTup h a its.toArray
 | .dK kvs => kvs.length <= sizeLine /\ (a == sysModules) = false /\ ∃ vs, KV kvs vs /\ h.DictOf (A7n P w) a vs
 | .dT kvs => kvs.length <= sizeLine /\ (a == sysModules) = false /\ ∃ xs : List (List Key × Addr × Value),
   Paired (fun (p : List Key × V) (q : List Key × Addr × Value) => p.1 = q.1 /\ H q.2.1 = some (.tup (p.1.map kV)) /\ RelV p.2 q.2.2) kvs xs /\
   ∃ o es ep, h.get? a = some o /\ o.ExactDict /\ o.data = .dict es ep /\ es.toList = xs.map (entryOfKey (tupleKind (A7n P w))) /\ (xs.map (·.1)).Nodup
 | .set S n => h.SetOf (intKind P w) a S n
 | .ins C dx fs => H dx = some (.own a) /\ fs.length <= 1000 /\ dx ≠ a /\ h.get? a = some (PySem.W.instObj C dx) /\
   ∃ mA, h.Ns1 dx mA /\ (∀ f, RelO (fs.lookup f) (mA f)) /\ PySem.Within mA (fs.map (·.1))
 | .own _ => ∃ o, h.get? a = some o
 | .xd fs => ∃ mA, h.Ns1 a mA /\ ∀ f, RelO (fs.lookup f) (mA f)
 | .rng lo hi => ∃ t u v, h.get? a = some { cls := .type "range", data := .fields #[.int lo t, .int hi u, .int 1 v] }
 | .frz o u => h.get? a = some o /\ ObjOk H h a u
 | .tbl ps => h.get? a = some { cls := .none, data := .fields ps }
 | .met f x => h.get? a = some (PySem.W.methodObj (.ref f) (.ref x))
 | .ext φ => φ h /\ (∃ o, h.get? a = some o) /\ ∀ h1 h2 : Heap, φ h1 -> (∀ o, h1.get? a = some o -> h2.get? a = some o) -> φ h2
def HOk (H : Hp) (h : Heap) : Prop := ∀ a o, H a = some o -> ObjOk P w H h a o
end
section
variable {P : Program} {w : World} {H H' : Hp} {h h' : Heap} {a : Addr} {o : HO}
theorem ObjOk.lt (x : ObjOk P w H h a o) : a < h.objs.size := by
 cases o with
 | lst xs => obtain ⟨_, _, _, _, e⟩ := x; exact Heap.lt_size e
 | tup xs => obtain ⟨_, _, _, p⟩ := x; exact p.lt
 | dK kvs => obtain ⟨_, _, _, _, o, _, _, e, _⟩ := x; exact Heap.lt_size e
 | dT kvs => obtain ⟨_, _, _, _, o, _, _, e, _⟩ := x; exact Heap.lt_size e
 | set S n => obtain ⟨o, _, _, _, e, _⟩ := x; exact Heap.lt_size e
 | ins C dx fs => obtain ⟨_, _, _, e, _⟩ := x; exact Heap.lt_size e
 | own y => obtain ⟨_, e⟩ := x; exact Heap.lt_size e
 | xd fs => obtain ⟨_, ⟨_, _, _, e, _⟩, _⟩ := x; exact Heap.lt_size e
 | rng lo hi => obtain ⟨_, _, _, e⟩ := x; exact Heap.lt_size e
 | frz ob u => obtain ⟨e, _⟩ := x; exact Heap.lt_size e
 | tbl ps => exact Heap.lt_size (show h.get? a = some _ from x)
 | met f y => exact Heap.lt_size (show h.get? a = some _ from x)
 | ext φ => obtain ⟨_, ⟨_, e⟩, _⟩ := x; exact Heap.lt_size e
theorem Paired.mapP {α β : Type} {F G : α -> β -> Prop} : ∀ {l₁ : List α} {l₂ : List β}, Paired F l₁ l₂ -> (∀ a b, F a b -> G a b) -> Paired G l₁ l₂
 | _, _, .nil, _ => .nil
 | _, _, .cons r t, f => .cons (f _ _ r) (Paired.mapP t f)
theorem ObjOk.stay (x : ObjOk P w H h a o) (k : ∀ b u, (b = a \/ H b = some (.own a)) -> h.get? b = some u -> h'.get? b = some u)
  (ho : ∀ b, H b = some (.own a) -> H' b = some (.own a)) (ht : ∀ b xs, H b = some (.tup xs) -> H' b = some (.tup xs)) : ObjOk P w H' h' a o := by
 induction o with
 | lst xs => obtain ⟨z, its, n, r, e⟩ := x; exact ⟨z, its, n, r, k _ _ (.inl rfl) e⟩
 | tup xs => obtain ⟨z, its, r, ob, e, c⟩ := x; exact ⟨z, its, r, ob, k _ _ (.inl rfl) e, c⟩
 | dK kvs => obtain ⟨z, y, vs, r, ob, es, ep, e, c⟩ := x; exact ⟨z, y, vs, r, ob, es, ep, k _ _ (.inl rfl) e, c⟩
 | dT kvs =>
  obtain ⟨z, y, xs, r, ob, es, ep, e, c⟩ := x
  exact ⟨z, y, xs, Paired.mapP r fun p q z => ⟨z.1, ht _ _ z.2.1, z.2.2⟩, ob, es, ep, k _ _ (.inl rfl) e, c⟩
 | set S n => obtain ⟨ob, es, ep, t, e, c⟩ := x; exact ⟨ob, es, ep, t, k _ _ (.inl rfl) e, c⟩
 | ins C dx fs =>
  obtain ⟨d, z, ne, e, mA, ⟨od, es, ep, e2, c⟩, r⟩ := x
  exact ⟨ho _ d, z, ne, k _ _ (.inl rfl) e, mA, ⟨od, es, ep, k _ _ (.inr d) e2, c⟩, r⟩
 | own y => obtain ⟨ob, e⟩ := x; exact ⟨ob, k _ _ (.inl rfl) e⟩
 | xd fs => obtain ⟨mA, ⟨od, es, ep, e, c⟩, r⟩ := x; exact ⟨mA, ⟨od, es, ep, k _ _ (.inl rfl) e, c⟩, r⟩
 | rng lo hi => obtain ⟨t, u, v, e⟩ := x; exact ⟨t, u, v, k _ _ (.inl rfl) e⟩
 | frz ob u ih => obtain ⟨e, q⟩ := x; exact ⟨k _ _ (.inl rfl) e, ih q⟩
 | tbl ps =>
  have e : h.get? a = some { cls := .none, data := .fields ps } := x
  show h'.get? a = some { cls := .none, data := .fields ps }
  exact k a _ (.inl rfl) e
 | met f y =>
  have e : h.get? a = some (PySem.W.methodObj (.ref f) (.ref y)) := x
  show h'.get? a = some (PySem.W.methodObj (.ref f) (.ref y))
  exact k a _ (.inl rfl) e
 | ext φ => obtain ⟨p, ⟨o, e⟩, st⟩ := x; exact ⟨st _ _ p fun o q => k _ _ (.inl rfl) q, ⟨o, k _ _ (.inl rfl) e⟩, st⟩
theorem HOk.lt (x : HOk P w H h) (e : H a = some o) : a < h.objs.size := (x a o e).lt
theorem HOk.fresh (x : HOk P w H h) (e : h.objs.size <= a) : H a = none := by
 cases q : H a with
 | none => rfl
 | some u => exact absurd (Nat.lt_of_lt_of_le (x.lt q) e) (Nat.lt_irrefl _)
theorem HOk.kept (x : HOk P w H h) (k : ∀ b u, h.get? b = some u -> h'.get? b = some u) : HOk P w H h' := fun a o e =>
 (x a o e).stay (fun b u _ q => k b u q) (fun _ q => q) fun _ _ q => q
theorem HOk.laid (x : HOk P w H h) (k : ∀ b u, h.get? b = some u -> h'.get? b = some u) (hp : h.objs.size <= a) (new : ObjOk P w (upd H a o) h' a o) : HOk P w (upd H a o) h' := fun b u e => by
 have hn := x.fresh hp
 by_cases hb : b = a
 ·subst hb; rw [D6] at e; cases e; exact new
 ·rw [D8 hb] at e
  exact (x b u e).stay (fun c v _ q => k c v q) (fun c q => by rw [D8 (F4 q hn)]; exact q) fun c xs q => by rw [D8 (F4 q hn)]; exact q
end
def Rd (H : Hp) (a : Addr) (u : HO) : Prop := H a = some u \/ ∃ o, H a = some (.frz o u)
theorem Rd.ok {P : Program} {w : World} {H : Hp} {h : Heap} {a : Addr} {u : HO} (r : Rd H a u) (x : HOk P w H h) : ObjOk P w H h a u := by
 rcases r with r | ⟨o, r⟩
 ·exact x a u r
 ·obtain ⟨_, q⟩ := x a _ r
  exact q
def Mut : Option HO -> Prop
 | some (.lst _) => True
 | some (.dK _) => True
 | some (.dT _) => True
 | some (.set _ _) => True
 | some (.ins _ _ _) => True
 | some (.ext _) => True
 | _ => False
section
variable {P : Program} {w : World} {H : Hp} {h h' : Heap} {x e : Addr} {o' : HO}
theorem HOk.write (ok : HOk P w H h) (mu : Mut (H x)) (he : e = x \/ H e = some (.own x)) (k : ∀ b u, b ≠ e -> h.get? b = some u -> h'.get? b = some u) (heo : ∃ u, h'.get? e = some u)
  (new : ObjOk P w (upd H x o') h' x o') : HOk P w (upd H x o') h' := fun b u q => by
 have nown : ∀ c y, H c = some (.own y) -> c ≠ x := fun c y r z => by subst z; rw [r] at mu; exact mu
 have ntup : ∀ c xs, H c = some (.tup xs) -> c ≠ x := fun c xs r z => by subst z; rw [r] at mu; exact mu
 by_cases hb : b = x
 ·subst hb; rw [D6] at q; cases q; exact new
 ·rw [D8 hb] at q
  by_cases hbe : b = e
  ·have q' : H b = some (.own x) := by
    rcases he with z | z
    ·exact absurd (hbe.trans z) hb
    ·rw [hbe]; exact z
   rw [q] at q'; cases q'
   obtain ⟨v, hv⟩ := heo
   exact ⟨v, by rw [hbe]; exact hv⟩
  ·refine (ok b u q).stay (fun c v hc r => k c v ?_ r) (fun c r => by rw [D8 (nown c b r)]; exact r) fun c xs r => by rw [D8 (ntup c xs r)]; exact r
   rcases hc with rfl | hc
   ·exact hbe
   ·rintro rfl
    rcases he with z | z
    ·exact nown c b hc z
    ·rw [hc] at z; cases z; exact hb rfl
end
structure Un (fs ex : List Addr) (H H' : Hp) (h h' : Heap) : Prop where
 keep : ∀ b o, h.get? b = some o -> H b = none -> b ∉ fs -> b ∉ ex -> h'.get? b = some o
 slot : ∀ b o, h.get? b = some o -> H b = none -> b ∈ fs -> b ∉ ex -> ∃ sl, h'.get? b = some { o with slots := sl }
 free : ∀ b o, h.get? b = some o -> H b = none -> b ∉ ex -> H' b = none
 there : ∀ b o, h.get? b = some o -> b ∉ ex -> ∃ o', h'.get? b = some o'
 tups : ∀ b xs, H b = some (.tup xs) -> H' b = some (.tup xs)
 frzs : ∀ b o u, H b = some (.frz o u) -> H' b = some (.frz o u)
 tbls : ∀ b ps, H b = some (.tbl ps) -> ∃ more, H' b = some (.tbl (ps ++ more))
section
variable {fs fs' ex ex' : List Addr} {H H1 H2 : Hp} {h h1 h2 h' : Heap} {a x e : Addr} {o : HO}
theorem Un.any (u : Un fs ex H H1 h h1) {b : Addr} {ob : Obj} (q : h.get? b = some ob) (n : H b = none) (hx : b ∉ ex) : ∃ sl, h1.get? b = some { ob with slots := sl } := by
 by_cases hb : b ∈ fs
 ·exact u.slot b ob q n hb hx
 ·exact ⟨ob.slots, u.keep b ob q n hb hx⟩
theorem Un.kept (k : ∀ b u, h.get? b = some u -> h'.get? b = some u) : Un fs ex H H h h' :=
 ⟨fun b ob q _ _ _ => k b ob q, fun b ob q _ _ _ => ⟨ob.slots, k b ob q⟩, fun _ _ _ n _ => n, fun b ob q _ => ⟨ob, k b ob q⟩, fun _ _ q => q, fun _ _ _ q => q, fun _ ps q => ⟨#[], by rw [q]; simp⟩⟩
theorem Un.refl : Un fs ex H H h h := Un.kept fun _ _ q => q
theorem Un.laid (k : ∀ b u, h.get? b = some u -> h'.get? b = some u) (hp : h.objs.size <= a) (hn : H a = none) : Un fs ex H (upd H a o) h h' where
 keep := fun b u q _ _ _ => k b u q
 slot := fun b u q _ _ _ => ⟨u.slots, k b u q⟩
 free := fun b u q n _ => by rw [D8 (Nat.ne_of_lt (Nat.lt_of_lt_of_le (Heap.lt_size q) hp))]; exact n
 there := fun b u q _ => ⟨u, k b u q⟩
 tups := fun b xs q => by rw [D8 (F4 q hn)]; exact q
 frzs := fun b u xs q => by rw [D8 (F4 q hn)]; exact q
 tbls := fun b ps q => ⟨#[], by rw [D8 (F4 q hn), q]; simp⟩
theorem Un.write (mu : Mut (H x)) (he : e = x \/ H e = some (.own x)) (k : ∀ b u, b ≠ e -> h.get? b = some u -> h'.get? b = some u) (heo : ∃ u, h'.get? e = some u) : Un fs ex H (upd H x o) h h' := by
 have hx : ∀ b, H b = none -> b ≠ x := fun b n z => by subst z; rw [n] at mu; exact mu
 have hb : ∀ b, H b = none -> b ≠ e := fun b n z => by
  subst z
  rcases he with r | r
  ·exact hx b n r
  ·rw [n] at r; cases r
 have hm : ∀ b u, H b = some u -> ¬ Mut (some u) -> b ≠ x := fun b u q nm z => by subst z; rw [q] at mu; exact nm mu
 refine ⟨fun b u q n _ _ => k b u (hb b n) q, fun b u q n _ _ => ⟨u.slots, k b u (hb b n) q⟩, fun b u q n _ => by rw [D8 (hx b n)]; exact n, fun b u q _ => ?_,
  fun b xs q => by rw [D8 (hm b _ q fun z => z)]; exact q, fun b u xs q => by rw [D8 (hm b _ q fun z => z)]; exact q, fun b ps q => ⟨#[], by rw [D8 (hm b _ q fun z => z), q]; simp⟩⟩
 by_cases hbe : b = e
 ·subst hbe; exact heo
 ·exact ⟨u, k b u hbe q⟩
end
def trk (h : Heap) (H : Hp) : List Addr := (List.range h.objs.size).filter fun a => (H a).isSome
def hidT (h : Heap) (H : Hp) : Heap := PySem.W.hideAll h (trk h H)
theorem A78 (h : Heap) (H : Hp) : (hidT h H).objs.size = h.objs.size := PySem.W.hideAll_size _ _
theorem B0f {h : Heap} {H : Hp} {b : Addr} {o : Obj} (e : h.get? b = some o) (n : H b = none) : (hidT h H).get? b = some o :=
 PySem.W.hideAll_get _ e fun hm => by
  have q : (H b).isSome = true := (List.mem_filter.mp hm).2
  rw [n] at q; simp at q
theorem B4h {h : Heap} {H : Hp} {b : Addr} {o : Obj} (e : (hidT h H).get? b = some o) : h.get? b = some o /\ H b = none := by
 have e' : h.get? b = some o := PySem.W.of_hideAll (trk h H) e
 refine ⟨e', ?_⟩
 cases q : H b with
 | none => rfl
 | some x =>
  have hm : b ∈ trk h H := List.mem_filter.mpr ⟨List.mem_range.mpr (Heap.lt_size e'), by simp [q]⟩
  have z : (hidT h H).get? b = none := PySem.W.hideAll_none (trk h H) hm
  rw [z] at e; cases e
def B5g (g h : Heap) (L : Addr) : List (Addr × Obj) := (List.range h.objs.size).filterMap fun a => if a = L \/ (g.get? a).isSome = true then none else (h.get? a).map fun o => (a, o)
def rest (g h : Heap) (L d : Addr) : List (Addr × Obj) := (B5g g h L).filter fun p => decide (p.1 ≠ d)
end L2
namespace L2
open PySem PySem.Spec PyProof.Rows
structure Mod (K : PySem.W.Frag) (mg : Str -> Option Value) (base : Heap) : Prop where
 kin : K.In base
 glob : base.Ns mainGlobals mg
 blt : ∃ mb, base.Ns builtinsNs mb /\ ∀ x : Str, x ≠ "__name__" -> mb x = bootBuiltins x
 nolimit : base.NoLimit
structure Cx where
 prog : Program
 w : World
 K : PySem.W.Frag
 mg : Str -> Option Value
 base : Heap
 A : Around
 N : List Str
 s₀ : Shared
 H₀ : Hp
 env : Env
 outer : List Env
 stack : List Env
 ex : List Addr
 fn : Str -> Bool
 calm : Bool
 pn : List (Addr × Obj)
 xe : Value -> Shared -> Prop
def frs (l : List Env) : List Addr := l.filterMap (·.frame)
abbrev Cx.fs (X : Cx) : List Addr := frs X.outer
def Vis (sc : Scope) (x : Str) : Prop := sc.names.lookup x = some .local \/ sc.names.lookup x = some .cell \/ sc.names.lookup x = some .free
def Loc (sc : Scope) (x : Str) : Prop := sc.names.lookup x = some .local \/ sc.names.lookup x = some .cell
def Look (env : Env) (h : Heap) (m : Str -> Option Value) (x : Str) (u : Value) : Prop :=
 (env.kindOf x = some .local /\ m x = some u) \/ ((env.kindOf x = some .cell \/ env.kindOf x = some .free) /\ ∃ c, env.cells.lookup x = some c /\ h.IsCell c (some u))
structure Cx.Ok (X : Cx) : Prop where
 mod : Mod X.K X.mg X.base
 kind : X.env.scope.kind = .function
 glob : X.env.globals = mainGlobals
 blt : X.env.builtins = builtinsNs
 above : X.s₀.heap.objs.size <= X.env.locals
 inj : ∀ x y c, X.env.cells.lookup x = some c -> X.env.cells.lookup y = some c -> x = y
 has : ∀ x, (X.env.kindOf x = some .cell \/ X.env.kindOf x = some .free) -> ∃ c, X.env.cells.lookup x = some c
 cab : ∀ x c, X.fn x = true -> X.env.cells.lookup x = some c -> X.s₀.heap.objs.size <= c
 hd : X.calm = true -> X.A.handled = none
 frames : X.A.frames = some X.stack
 stk : X.stack = X.outer \/ (X.stack = X.env :: X.outer /\ X.env.frame = some X.env.locals)
 exf : ∀ b ∈ X.ex, b ≠ X.env.locals /\ ∀ x c, X.env.cells.lookup x = some c -> c ≠ b
 bs : ∀ b o, X.base.get? b = some o -> X.s₀.heap.get? b = some o /\ X.H₀ b = none
 bsz : X.base.objs.size <= X.s₀.heap.objs.size
 noex : ∀ b o, X.base.get? b = some o -> b ∉ X.ex
 exfs : ∀ b ∈ X.ex, b ∉ X.fs
 funs : X.s₀.heap.FunFrames X.base X.outer
 frf : ∀ b ∈ X.fs, X.H₀ b = none
structure Inv (X : Cx) (pins : List (Addr × Obj)) (σ : List (Option V)) (H : Hp) (s : Shared) : Prop where
 ok : X.Ok
 os : s.os = X.s₀.os
 bare : AllBare s.gens
 base : Un X.fs X.ex X.H₀ H X.s₀.heap s.heap
 loc : ∃ m, s.heap.Ns X.env.locals m /\ ∀ (i : Nat) (x : Str) (v : V), X.N[i]? = some x -> σ[i]? = some (some v) -> Vis X.env.scope x -> ∃ u, RelV v u /\ Look X.env s.heap m x u
 cell : ∀ x c, X.env.cells.lookup x = some c -> ∃ v, s.heap.IsCell c v
 free : H X.env.locals = none
 freeC : ∀ x c, X.env.cells.lookup x = some c -> H c = none
 pin : ∀ p ∈ X.pn ++ pins, s.heap.get? p.1 = some p.2 /\ H p.1 = none /\ p.1 ≠ X.env.locals /\ p.1 ∉ X.fs /\ ∀ v, p.2.data ≠ .cell v
 hok : HOk X.prog X.w H s.heap
 len : σ.length = X.N.length
section
variable {X : Cx} {pins : List (Addr × Obj)} {σ : List (Option V)} {H H' : Hp} {s : Shared} {h' : Heap}
theorem Cx.Ok.nofr (ok : X.Ok) {b : Addr} {o : Obj} (e : X.base.get? b = some o) : b ∉ X.fs := fun hb => by
 have := (ok.funs.mem hb).1
 rw [e] at this; cases this
theorem Inv.bs (I : Inv X pins σ H s) : ∀ b o, X.base.get? b = some o -> s.heap.get? b = some o /\ H b = none := fun b o e =>
 ⟨I.base.keep b o (I.ok.bs b o e).1 (I.ok.bs b o e).2 (I.ok.nofr e) (I.ok.noex b o e), I.base.free b o (I.ok.bs b o e).1 (I.ok.bs b o e).2 (I.ok.noex b o e)⟩
theorem Inv.bk (I : Inv X pins σ H s) : ∀ b o, X.base.get? b = some o -> s.heap.get? b = some o := fun b o e => (I.bs b o e).1
theorem Inv.mod (I : Inv X pins σ H s) : Mod X.K X.mg X.base := I.ok.mod
theorem Inv.kIn (I : Inv X pins σ H s) : X.K.In s.heap := I.ok.mod.kin.keeps I.bk
theorem Inv.lt (I : Inv X pins σ H s) : X.env.locals < s.heap.objs.size := let ⟨_, hn, _⟩ := I.loc; hn.lt
theorem Inv.sz (I : Inv X pins σ H s) : X.s₀.heap.objs.size <= s.heap.objs.size := Nat.le_trans I.ok.above (Nat.le_of_lt I.lt)
theorem Inv.nofs (I : Inv X pins σ H s) {a : Addr} (h : s.heap.objs.size <= a) : a ∉ X.fs := fun hb => by
 obtain ⟨_, o, ho, _⟩ := I.ok.funs.mem hb
 exact absurd (Nat.lt_of_lt_of_le (Heap.lt_size ho) (Nat.le_trans I.sz h)) (Nat.lt_irrefl _)
theorem Inv.cne (I : Inv X pins σ H s) : ∀ x c, X.env.cells.lookup x = some c -> c ≠ X.env.locals := fun x c e z => by
 obtain ⟨v, o, ho, hd⟩ := I.cell x c e
 obtain ⟨m, ⟨o', es, ep, ho', hd', _⟩, _⟩ := I.loc
 rw [z, ho'] at ho; cases ho; rw [hd'] at hd; cases hd
theorem Inv.funs (I : Inv X pins σ H s) : s.heap.FunFrames X.base X.outer := by
 have all : ∀ (l : List Env), (∀ b ∈ frs l, b ∈ X.fs) -> X.s₀.heap.FunFrames X.base l -> s.heap.FunFrames X.base l := by
  intro l
  induction l with
  | nil => intro _ _; trivial
  | cons env r ih =>
   intro hs hl
   obtain ⟨hk, ⟨L, o, hf, hn, ho, hd⟩, hr⟩ := hl
   have hL : L ∈ X.fs := hs L (by unfold frs; rw [List.filterMap_cons, hf]; exact List.mem_cons_self)
   obtain ⟨sl, e⟩ := I.base.slot L o ho (I.ok.frf L hL) hL fun z => I.ok.exfs L z hL
   exact ⟨hk, ⟨L, _, hf, hn, e, hd⟩, ih (fun b hb => hs b (by unfold frs; rw [List.filterMap_cons, hf]; exact List.mem_cons_of_mem _ hb)) hr⟩
 exact all X.outer (fun _ hb => hb) I.ok.funs
theorem Inv.stack (I : Inv X pins σ H s) : s.heap.FunFrames X.base X.stack := by
 rcases I.ok.stk with e | ⟨e, hf⟩
 ·rw [e]; exact I.funs
 ·rw [e]
  obtain ⟨m, hn, _⟩ := I.loc
  refine .cons (by rw [I.ok.kind]; decide) hf hn ?_ I.funs
  exact Heap.get?_none_of_le (Nat.le_trans I.ok.bsz I.ok.above)
theorem Inv.stkSub (I : Inv X pins σ H s) : ∀ b ∈ frs X.stack, b ∈ X.env.locals :: X.fs := fun b hb => by
 rcases I.ok.stk with e | ⟨e, hf⟩
 ·rw [e] at hb; exact List.mem_cons_of_mem _ hb
 ·rw [e] at hb
  unfold frs at hb
  rw [List.filterMap_cons, hf] at hb
  exact hb
theorem Inv.stkFree (I : Inv X pins σ H s) : ∀ b ∈ frs X.stack, H b = none := fun b hb => by
 rcases List.mem_cons.mp (I.stkSub b hb) with e | hb
 ·rw [e]; exact I.free
 ·obtain ⟨_, o, ho, _⟩ := I.ok.funs.mem hb
  exact I.base.free b o ho (I.ok.frf b hb) fun z => I.ok.exfs b z hb
theorem Inv.step {g' : Array GenState} {t' : Nat} {d' : Drawn} {ch : List Addr} (I : Inv X pins σ H s)
  (hch : ∀ b ∈ ch, (b ∈ X.ex \/ X.s₀.heap.objs.size <= b) /\ b ≠ X.env.locals /\ (∀ x c, X.env.cells.lookup x = some c -> c ≠ b) /\ ∀ p ∈ X.pn ++ pins, p.1 ≠ b)
  (keep : ∀ b o, b ≠ X.env.locals -> b ∉ X.fs -> b ∉ ch -> s.heap.get? b = some o -> H b = none -> h'.get? b = some o)
  (slot : ∀ b o, b ≠ X.env.locals -> b ∈ X.fs -> b ∉ ch -> s.heap.get? b = some o -> H b = none -> ∃ sl, h'.get? b = some { o with slots := sl }) (free : ∀ b o, b ∉ ch -> s.heap.get? b = some o -> H b = none -> H' b = none)
  (there : ∀ b o, b ∉ ch -> s.heap.get? b = some o -> ∃ o', h'.get? b = some o')
  (tups : ∀ b xs, H b = some (.tup xs) -> H' b = some (.tup xs)) (frzs : ∀ b o u, H b = some (.frz o u) -> H' b = some (.frz o u)) (tbls : ∀ b ps, H b = some (.tbl ps) -> ∃ more, H' b = some (.tbl (ps ++ more)))
  (ns : ∀ m, s.heap.Ns X.env.locals m -> h'.Ns X.env.locals m) (hok : HOk X.prog X.w H' h') (hg : AllBare g') :
  Inv X pins σ H' { s with heap := h', gens := g', drawn := d', toks := t' } := by
 have neL : ∀ b o, X.s₀.heap.get? b = some o -> b ≠ X.env.locals := fun b o e => Nat.ne_of_lt (Nat.lt_of_lt_of_le (Heap.lt_size e) I.ok.above)
 have neC : ∀ b o, X.s₀.heap.get? b = some o -> b ∉ X.ex -> b ∉ ch := fun b o e hx hb => by
  rcases (hch b hb).1 with z | z
  ·exact hx z
  ·exact absurd (Nat.lt_of_lt_of_le (Heap.lt_size e) z) (Nat.lt_irrefl _)
 have cellK : ∀ x c, X.env.cells.lookup x = some c -> ∀ v, s.heap.IsCell c v -> h'.IsCell c v := fun x c e v ⟨o, ho, hd⟩ => by
  have nch : c ∉ ch := fun z => (hch c z).2.2.1 x c e rfl
  by_cases hc : c ∈ X.fs
  ·obtain ⟨sl, q⟩ := slot c o (I.cne x c e) hc nch ho (I.freeC x c e)
   exact ⟨_, q, hd⟩
  ·exact ⟨o, keep c o (I.cne x c e) hc nch ho (I.freeC x c e), hd⟩
 refine ⟨I.ok, I.os, hg, ⟨fun b o e n hb hx => ?_, fun b o e n hb hx => ?_, fun b o e n hx => ?_, fun b o e hx => ?_, fun b xs e => tups b xs (I.base.tups b xs e), fun b o xs e => frzs b o xs (I.base.frzs b o xs e), fun b ps e => ?_⟩, ?_, fun x c e => ?_, ?_, fun x c e => ?_, fun p hp => ?_, hok, I.len⟩
 ·exact keep b o (neL b o e) hb (neC b o e hx) (I.base.keep b o e n hb hx) (I.base.free b o e n hx)
 ·obtain ⟨sl, e1⟩ := I.base.slot b o e n hb hx
  obtain ⟨sl', e2⟩ := slot b _ (neL b o e) hb (neC b o e hx) e1 (I.base.free b o e n hx)
  exact ⟨sl', e2⟩
 ·obtain ⟨o', e1⟩ := I.base.there b o e hx
  exact free b o' (neC b o e hx) e1 (I.base.free b o e n hx)
 ·obtain ⟨o', e1⟩ := I.base.there b o e hx
  exact there b o' (neC b o e hx) e1
 ·obtain ⟨m1, e1⟩ := I.base.tbls b ps e
  obtain ⟨m2, e2⟩ := tbls b _ e1
  exact ⟨m1 ++ m2, by rw [e2, Array.append_assoc]⟩
 ·obtain ⟨m, hn, hl⟩ := I.loc
  refine ⟨m, ns m hn, fun i x v e1 e2 e3 => ?_⟩
  obtain ⟨u, r, l⟩ := hl i x v e1 e2 e3
  refine ⟨u, r, ?_⟩
  rcases l with l | ⟨k, c, e, z⟩
  ·exact .inl l
  ·exact .inr ⟨k, c, e, cellK x c e _ z⟩
 ·obtain ⟨v, z⟩ := I.cell x c e
  exact ⟨v, cellK x c e v z⟩
 ·obtain ⟨m, ⟨o, _, _, ho, _⟩, _⟩ := I.loc
  exact free _ o (fun z => (hch _ z).2.1 rfl) ho I.free
 ·obtain ⟨v, o, ho, hd⟩ := I.cell x c e
  exact free c o (fun z => (hch c z).2.2.1 x c e rfl) ho (I.freeC x c e)
 ·obtain ⟨e, n, ne, nf, d⟩ := I.pin p hp
  have nch : p.1 ∉ ch := fun z => (hch p.1 z).2.2.2 p hp rfl
  exact ⟨keep p.1 p.2 ne nf nch e n, free p.1 p.2 nch e n, ne, nf, d⟩
theorem Inv.un {t' : Nat} (I : Inv X pins σ H s) (u : Un X.fs [] H H' s.heap h') (hok : HOk X.prog X.w H' h') : Inv X pins σ H' { s with heap := h', toks := t' } := by
 obtain ⟨m, ⟨o, es, ep, ho, r⟩, _⟩ := id I.loc
 obtain ⟨sl, hL⟩ := u.any ho I.free (by simp)
 exact I.step (g' := s.gens) (d' := s.drawn) (ch := []) (fun _ z => nomatch z) (fun b o _ hb _ e n => u.keep b o e n hb (by simp)) (fun b o _ hb _ e n => u.slot b o e n hb (by simp)) (fun b o _ e n => u.free b o e n (by simp)) (fun b o _ e => u.there b o e (by simp)) u.tups u.frzs u.tbls (fun m' hm => by
  obtain ⟨o', es', ep', ho', r'⟩ := hm
  rw [ho] at ho'; cases ho'
  exact ⟨_, es', ep', hL, r'⟩) hok I.bare
theorem Inv.call {g' : Array GenState} {t' : Nat} {d' : Drawn} {ch : List Addr} (I : Inv X pins σ H s) (u : Un (frs X.stack) ch H H' s.heap h') (hok : HOk X.prog X.w H' h') (hg : AllBare g')
  (hch : ∀ b ∈ ch, (b ∈ X.ex \/ X.s₀.heap.objs.size <= b) /\ b ≠ X.env.locals /\ (∀ x c, X.env.cells.lookup x = some c -> c ≠ b) /\ ∀ p ∈ X.pn ++ pins, p.1 ≠ b) :
  Inv X pins σ H' { s with heap := h', gens := g', drawn := d', toks := t' } := by
 obtain ⟨m, ⟨o, es, ep, ho, r⟩, _⟩ := id I.loc
 obtain ⟨sl, hL⟩ := u.any ho I.free fun z => (hch _ z).2.1 rfl
 exact I.step (ch := ch) hch (fun b o hL hb hc e n => u.keep b o e n (fun z => (List.mem_cons.mp (I.stkSub b z)).elim hL hb) hc) (fun b o _ _ hc e n => u.any e n hc) (fun b o hc e n => u.free b o e n hc) (fun b o hc e => u.there b o e hc) u.tups u.frzs u.tbls (fun m' hm => by
  obtain ⟨o', es', ep', ho', r'⟩ := hm
  rw [ho] at ho'; cases ho'
  exact ⟨_, es', ep', hL, r'⟩) hok hg
theorem Inv.turned {t' : Nat} {it : Addr} (I : Inv X pins σ H s) (k : ∀ b o, b ≠ it -> s.heap.get? b = some o -> h'.get? b = some o) (hn : H it = none) (hL : it ≠ X.env.locals)
  (h1 : it ∈ X.ex \/ X.s₀.heap.objs.size <= it) (h2 : ∀ x c, X.env.cells.lookup x = some c -> c ≠ it) (h3 : ∀ p ∈ X.pn ++ pins, p.1 ≠ it) : Inv X pins σ H { s with heap := h', toks := t' } := by
 have nit : ∀ b u, H b = some u -> b ≠ it := fun b u e z => by rw [z, hn] at e; cases e
 refine I.step (g' := s.gens) (d' := s.drawn) (ch := [it]) (fun b hb => ?_) (fun b o _ _ hc e _ => k b o (fun z => hc (by simp [z])) e) (fun b o _ _ hc e _ => ⟨o.slots, k b o (fun z => hc (by simp [z])) e⟩) (fun _ _ _ _ n => n)
  (fun b o hc e => ⟨o, k b o (fun z => hc (by simp [z])) e⟩) (fun _ _ e => e) (fun _ _ _ e => e) (fun b ps e => ⟨#[], by rw [e]; simp⟩) (fun m hm => ?_) (fun b u e => ?_) I.bare
 ·have e : b = it := by simpa using hb
  subst e
  exact ⟨h1, hL, h2, h3⟩
 ·obtain ⟨o, es, ep, ho, r⟩ := hm
  exact ⟨o, es, ep, k _ o (Ne.symm hL) ho, r⟩
 ·refine (I.hok b u e).stay (fun c v hc q => k c v ?_ q) (fun _ q => q) fun _ _ q => q
  rcases hc with z | z
  ·rw [z]; exact nit b u e
  ·exact nit c _ z
theorem Inv.tok (I : Inv X pins σ H s) (t : Nat) : Inv X pins σ H { s with toks := t } := I.un (h' := s.heap) (t' := t) Un.refl I.hok
theorem Inv.kept {t' : Nat} (I : Inv X pins σ H s) (k : ∀ b u, s.heap.get? b = some u -> h'.get? b = some u) : Inv X pins σ H { s with heap := h', toks := t' } := I.un (Un.kept k) (I.hok.kept k)
theorem Inv.laid {a : Addr} {o : HO} {t' : Nat} (I : Inv X pins σ H s) (k : ∀ b u, s.heap.get? b = some u -> h'.get? b = some u) (hp : s.heap.objs.size <= a) (new : ObjOk X.prog X.w (upd H a o) h' a o) :
  Inv X pins σ (upd H a o) { s with heap := h', toks := t' } := I.un (Un.laid k hp (I.hok.fresh hp)) (I.hok.laid k hp new)
theorem Inv.write {x e : Addr} {o : HO} {t' : Nat} (I : Inv X pins σ H s) (mu : Mut (H x)) (he : e = x \/ H e = some (.own x)) (k : ∀ b u, b ≠ e -> s.heap.get? b = some u -> h'.get? b = some u) (heo : ∃ u, h'.get? e = some u)
  (new : ObjOk X.prog X.w (upd H x o) h' x o) : Inv X pins σ (upd H x o) { s with heap := h', toks := t' } := I.un (Un.write mu he k heo) (I.hok.write mu he k heo new)
theorem Inv.pins_of {pins' : List (Addr × Obj)} (I : Inv X pins σ H s) (h : ∀ p ∈ pins', s.heap.get? p.1 = some p.2 /\ H p.1 = none /\ p.1 ≠ X.env.locals /\ p.1 ∉ X.fs /\ ∀ v, p.2.data ≠ .cell v) : Inv X pins' σ H s :=
 ⟨I.ok, I.os, I.bare, I.base, I.loc, I.cell, I.free, I.freeC, fun p hp => (List.mem_append.mp hp).elim (fun z => I.pin p (List.mem_append_left _ z)) (h p), I.hok, I.len⟩
theorem A3e {N : List Str} (hN : N.Nodup) {i j : Nat} {x : Str} (a : N[i]? = some x) (b : N[j]? = some x) : i = j := by
 obtain ⟨h1, e1⟩ := List.getElem?_eq_some_iff.mp a
 obtain ⟨h2, e2⟩ := List.getElem?_eq_some_iff.mp b
 exact (List.getElem_inj hN).mp (e1.trans e2.symm)
theorem Z6 {M : Model} {A : Around} {E : Value -> Shared -> Prop} {i : Nat} {x : Str} {v : V} {u : Value} {Q : Unit -> Shared -> Prop} (I : Inv X pins σ H s) (hN : X.N.Nodup) (hi : X.N[i]? = some x) (hx : Loc X.env.scope x) (r : RelV v u)
  (h : ∀ s', Inv X pins (σ.set i (some v)) H s' -> (∃ a, Heap.SameBut a s.heap s'.heap /\ (a = X.env.locals \/ X.env.cells.lookup x = some a)) -> Q () s') (hf : X.fn x = true \/ X.env.scope.names.lookup x = some .local := by first | exact .inl rfl | exact .inr rfl | assumption) : wpAny M A (storeName X.env x u) Q E s := by
 obtain ⟨m, hn, hl⟩ := id I.loc
 have hcls : (X.env.scope.kind == .class || (X.env.scope.kind == .module && X.env.locals != X.env.globals)) = false := by rw [I.ok.kind]; rfl
 have hiσ : i < σ.length := by rw [I.len]; exact (List.getElem?_eq_some_iff.mp hi).1
 have cne := I.cne
 have tracked : ∀ {a : Addr} {h' : Heap}, (∃ o, s.heap.get? a = some o /\ H a = none) -> Heap.SameBut a s.heap h' -> HOk X.prog X.w H h' := fun {a h'} ha hs b ob e => by
  obtain ⟨_, _, hfree⟩ := ha
  refine (I.hok b ob e).stay (fun c w' hc q => (hs.2 c ?_).trans q) (fun _ q => q) fun _ _ q => q
  rintro rfl
  rcases hc with rfl | hc
  ·rw [hfree] at e; cases e
  ·rw [hfree] at hc; cases hc
 rcases hx with hk | hk
 ·refine wpAny_storeName_local hk hn (fun h' hn' hs => ?_) hcls
  obtain ⟨oL, _, _, hoL, _⟩ := id hn
  refine h _ ⟨I.ok, I.os, I.bare, ⟨fun b o e n hb hx => ?_, fun b o e n hb hx => ?_, I.base.free, fun b o e hx => ?_, I.base.tups, I.base.frzs, I.base.tbls⟩, ⟨_, hn', fun j y v' e1 e2 e3 => ?_⟩, fun y c e => ?_, I.free, I.freeC, fun p hp => ?_, tracked ⟨oL, hoL, I.free⟩ hs, by simpa using I.len⟩ ⟨_, hs, .inl rfl⟩
  ·exact (hs.2 b (Nat.ne_of_lt (Nat.lt_of_lt_of_le (Heap.lt_size e) I.ok.above))).trans (I.base.keep b o e n hb hx)
  ·obtain ⟨sl, e1⟩ := I.base.slot b o e n hb hx
   exact ⟨sl, (hs.2 b (Nat.ne_of_lt (Nat.lt_of_lt_of_le (Heap.lt_size e) I.ok.above))).trans e1⟩
  ·obtain ⟨o', e1⟩ := I.base.there b o e hx
   exact ⟨o', (hs.2 b (Nat.ne_of_lt (Nat.lt_of_lt_of_le (Heap.lt_size e) I.ok.above))).trans e1⟩
  ·by_cases hj : j = i
   ·subst hj
    rw [hi] at e1; cases e1
    rw [List.getElem?_set_self hiσ] at e2
    cases e2
    exact ⟨u, r, .inl ⟨hk, by simp⟩⟩
   ·rw [List.getElem?_set_ne (Ne.symm hj)] at e2
    obtain ⟨u', r', q⟩ := hl j y v' e1 e2 e3
    refine ⟨u', r', ?_⟩
    rcases q with ⟨k, e⟩ | ⟨k, c, e, z⟩
    ·refine .inl ⟨k, ?_⟩
     have : y ≠ x := fun e => hj (A3e hN e1 (e ▸ hi))
     simp [this, e]
    ·exact .inr ⟨k, c, e, z.sameBut hs (cne y c e)⟩
  ·obtain ⟨w', z⟩ := I.cell y c e
   exact ⟨w', z.sameBut hs (cne y c e)⟩
  ·obtain ⟨e, n, ne, nf, d⟩ := I.pin p hp
   exact ⟨(hs.2 p.1 ne).trans e, n, ne, nf, d⟩
 ·have hfn : X.fn x = true := by
   rcases hf with z | z
   ·exact z
   ·rw [z] at hk; cases hk
  obtain ⟨c, hc⟩ := I.ok.has x (.inl hk)
  obtain ⟨w', z⟩ := I.cell x c hc
  refine wpAny_storeName_cell I.ok.kind hk hc z (fun h' hc' hs => ?_)
  obtain ⟨oc, hoc, hocd⟩ := id z
  refine h { s with heap := h' } ⟨I.ok, I.os, I.bare, ⟨fun b o e n hb hx => ?_, fun b o e n hb hx => ?_, I.base.free, fun b o e hx => ?_, I.base.tups, I.base.frzs, I.base.tbls⟩, ⟨m, hn.sameBut hs (Ne.symm (cne x c hc)), fun j y v' e1 e2 e3 => ?_⟩, fun y c' e => ?_, I.free, I.freeC, fun p hp => ?_, tracked ⟨oc, hoc, I.freeC x c hc⟩ hs, by simpa using I.len⟩ ⟨c, hs, .inr hc⟩
  ·exact (hs.2 b (Nat.ne_of_lt (Nat.lt_of_lt_of_le (Heap.lt_size e) (I.ok.cab x c hfn hc)))).trans (I.base.keep b o e n hb hx)
  ·obtain ⟨sl, e1⟩ := I.base.slot b o e n hb hx
   exact ⟨sl, (hs.2 b (Nat.ne_of_lt (Nat.lt_of_lt_of_le (Heap.lt_size e) (I.ok.cab x c hfn hc)))).trans e1⟩
  ·obtain ⟨o', e1⟩ := I.base.there b o e hx
   exact ⟨o', (hs.2 b (Nat.ne_of_lt (Nat.lt_of_lt_of_le (Heap.lt_size e) (I.ok.cab x c hfn hc)))).trans e1⟩
  ·by_cases hj : j = i
   ·subst hj
    rw [hi] at e1; cases e1
    rw [List.getElem?_set_self hiσ] at e2
    cases e2
    exact ⟨u, r, .inr ⟨.inl hk, c, hc, hc'⟩⟩
   ·rw [List.getElem?_set_ne (Ne.symm hj)] at e2
    obtain ⟨u', r', q⟩ := hl j y v' e1 e2 e3
    refine ⟨u', r', ?_⟩
    rcases q with q | ⟨k, c', e, z'⟩
    ·exact .inl q
    ·refine .inr ⟨k, c', e, z'.sameBut hs ?_⟩
     rintro rfl
     exact hj (A3e hN e1 (I.ok.inj _ _ _ e hc ▸ hi))
  ·by_cases hcc : c' = c
   ·subst hcc; exact ⟨_, hc'⟩
   ·obtain ⟨w2, z2⟩ := I.cell y c' e
    exact ⟨w2, z2.sameBut hs hcc⟩
  ·obtain ⟨e, n, ne, nf, d⟩ := I.pin p hp
   refine ⟨(hs.2 p.1 ?_).trans e, n, ne, nf, d⟩
   intro q
   rw [q, hoc] at e
   have q' : oc = p.2 := Option.some.inj e
   exact d w' (by rw [<- q']; exact hocd)
theorem R8 {M : Model} {A : Around} {E : Value -> Shared -> Prop} {i : Nat} {x : Str} {v : V} {u : Value} {Q : Unit -> Shared -> Prop} (I : Inv X pins σ H s) (hN : X.N.Nodup) (hi : X.N[i]? = some x) (hx : Loc X.env.scope x) (r : RelV v u)
  (h : ∀ s', Inv X pins (σ.set i (some v)) H s' -> Q () s') (hf : X.fn x = true \/ X.env.scope.names.lookup x = some .local := by first | exact .inl rfl | exact .inr rfl | assumption) : wpAny M A (storeName X.env x u) Q E s :=
 Z6 I hN hi hx r (fun s' I' _ => h s' I') hf
theorem Inv.call' {s' : Shared} {ch : List Addr} (I : Inv X pins σ H s) (ho : s'.os = s.os) (u : Un (frs X.stack) ch H H' s.heap s'.heap) (hok : HOk X.prog X.w H' s'.heap) (hg : AllBare s'.gens)
  (hch : ∀ b ∈ ch, (b ∈ X.ex \/ X.s₀.heap.objs.size <= b) /\ b ≠ X.env.locals /\ (∀ x c, X.env.cells.lookup x = some c -> c ≠ b) /\ ∀ p ∈ X.pn ++ pins, p.1 ≠ b) : Inv X pins σ H' s' := by
 obtain ⟨h', g', d', t', o'⟩ := s'
 have e : o' = s.os := ho
 subst e
 exact I.call (g' := g') (t' := t') (d' := d') u hok hg hch
end
abbrev XK := Value -> Option Addr -> Hp -> Prop
abbrev St := List (Option V)
abbrev VK := V -> Hp -> Prop
abbrev TE := St -> Hp -> VK -> Prop
abbrev TT := St -> Hp -> (Bool -> Hp -> Prop) -> Prop
abbrev TA := St -> Hp -> (List V -> Hp -> Prop) -> Prop
structure Ends where
 nx : St -> Hp -> Prop
 rt : VK
 bk : St -> Hp -> Prop := fun _ _ => False
 ct : St -> Hp -> Prop := fun _ _ => False
abbrev TS := Ends -> St -> Hp -> Prop
def EP (X : Cx) (pins : List (Addr × Obj)) (σ : St) (Q : VK) (u : Value) (s' : Shared) : Prop := ∃ v H', Inv X pins σ H' s' /\ RelV v u /\ Q v H'
def TP (X : Cx) (pins : List (Addr × Obj)) (σ : St) (Q : Bool -> Hp -> Prop) (b : Bool) (s' : Shared) : Prop := ∃ H', Inv X pins σ H' s' /\ Q b H'
def AP (X : Cx) (pins : List (Addr × Obj)) (σ : St) (Q : List V -> Hp -> Prop) (us : List Value) (s' : Shared) : Prop := ∃ vs H', Inv X pins σ H' s' /\ Vals vs us /\ Q vs H'
def SP (X : Cx) (pins : List (Addr × Obj)) (D : Ends) (f : Flow) (s' : Shared) : Prop :=
 match f with
 | .next => ∃ σ' H', Inv X pins σ' H' s' /\ D.nx σ' H'
 | .brk => ∃ σ' H', Inv X pins σ' H' s' /\ D.bk σ' H'
 | .cont => ∃ σ' H', Inv X pins σ' H' s' /\ D.ct σ' H'
 | .ret u => ∃ v σ' H', Inv X pins σ' H' s' /\ RelV v u /\ D.rt v H'
def PE (X : Cx) (e : Expr) (t : TE) : Prop :=
 ∀ (pins : List (Addr × Obj)) (s : Shared) (σ : St) (H : Hp) (Q : VK), Inv X pins σ H s -> t σ H Q -> wpAny (model X.prog X.w) X.A (eval e X.env) (EP X pins σ Q) X.xe s
def PT (X : Cx) (e : Expr) (t : TT) : Prop :=
 ∀ (pins : List (Addr × Obj)) (s : Shared) (σ : St) (H : Hp) (Q : Bool -> Hp -> Prop), Inv X pins σ H s -> t σ H Q -> wpAny (model X.prog X.w) X.A (isTrue e X.env (eval e X.env)) (TP X pins σ Q) X.xe s
def PW (X : Cx) (e : Expr) (t : TT) : Prop :=
 ∀ (whole : Sem Value) (pins : List (Addr × Obj)) (s : Shared) (σ : St) (H : Hp) (Q : Bool -> Hp -> Prop), Inv X pins σ H s -> t σ H Q -> wpAny (model X.prog X.w) X.A (isTrue e X.env whole) (TP X pins σ Q) X.xe s
theorem PW.pt {X : Cx} {e : Expr} {t : TT} (h : PW X e t) : PT X e t := h _
def PA (X : Cx) (es : List Expr) (t : TA) : Prop :=
 ∀ (pos : Pos) (pins : List (Addr × Obj)) (s : Shared) (σ : St) (H : Hp) (Q : List V -> Hp -> Prop), Inv X pins σ H s -> t σ H Q -> wpAny (model X.prog X.w) X.A (spliced (backTo pos (starEach es X.env))) (AP X pins σ Q) X.xe s
def PS (X : Cx) (st : Stmt) (t : TS) : Prop :=
 ∀ (pins : List (Addr × Obj)) (s : Shared) (σ : St) (H : Hp) (D : Ends), Inv X pins σ H s -> t D σ H -> wpAny (model X.prog X.w) X.A (exec st X.env) (SP X pins D) X.xe s
def PSs (X : Cx) (st : List Stmt) (t : TS) : Prop :=
 ∀ (pins : List (Addr × Obj)) (s : Shared) (σ : St) (H : Hp) (D : Ends), Inv X pins σ H s -> t D σ H -> wpAny (model X.prog X.w) X.A (execs st X.env) (SP X pins D) X.xe s
theorem thn {α : Type} {t : Sem α} {Q Q' : α -> Shared -> Prop} {M : Model} {A : Around} {E : Value -> Shared -> Prop} {s : Shared} (h : wpAny M A t Q E s) (hQ : ∀ a s, Q a s -> Q' a s) : wpAny M A t Q' E s := wpAny_mono h hQ fun _ _ x => x
end L2
namespace L2
open PySem PySem.Spec PyProof.Rows
section
variable {X : Cx}
theorem bin {a b : Expr} {ta tb : TE} (ha : PE X a ta) (hb : PE X b tb) {pins : List (Addr × Obj)} {s : Shared} {σ : St} {H : Hp} {R : V -> V -> Hp -> Prop} (I : Inv X pins σ H s) (h : ta σ H fun x H1 => tb σ H1 fun y H2 => R x y H2)
  {α : Type} {Q : α -> Shared -> Prop} {f : Value -> Value -> Sem α}
  (hf : ∀ v u s2 x y H2, Inv X pins σ H2 s2 -> RelV x v -> RelV y u -> R x y H2 -> wpAny (model X.prog X.w) X.A (f v u) Q X.xe s2) :
  wpAny (model X.prog X.w) X.A (eval a X.env) (fun v s₁ => wpAny (model X.prog X.w) X.A (eval b X.env) (fun u s₂ => wpAny (model X.prog X.w) X.A (f v u) Q X.xe s₂) X.xe s₁) X.xe s := by
 refine thn (ha pins s σ H _ I h) fun v s1 ⟨x, H1, I1, r1, q1⟩ => ?_
 refine thn (hb pins s1 σ H1 _ I1 q1) fun u s2 ⟨y, H2, I2, r2, q2⟩ => ?_
 exact hf v u s2 x y H2 I2 r1 r2 q2
def tVar (i : Nat) : TE := fun σ H Q => ∃ v, σ[i]? = some (some v) /\ Q v H
def tC (v : V) : TE := fun _ H Q => Q v H
theorem B6j {i : Nat} {x : Str} {pos : Pos} (hN : X.N[i]? = some x) (hv : Vis X.env.scope x) (hd : (x == ("__debug__" : Str)) = false := by decide) (hcd : (x == ("__classdict__" : Str)) = false := by decide) : PE X (.Name x pos) (tVar i) := by
 intro pins s σ H Q I h
 obtain ⟨v, e, h⟩ := h
 obtain ⟨m, hn, hl⟩ := I.loc
 obtain ⟨u, r, l⟩ := hl i x v hN e hv
 have fin : EP X pins σ Q u s := ⟨v, H, I, r, h⟩
 rcases l with ⟨hk, hm⟩ | ⟨hk, c, hc, hcell⟩
 ·exact wpAny_Name (wpAny_loadName_local I.ok.kind hk hn hm fin) hd
 ·rcases hk with hk | hk
  ·exact wpAny_Name (wpAny_loadName_cell I.ok.kind hk hc hcell fin) hd
  ·exact wpAny_Name (wpAny_loadName_free I.ok.kind hk hc hcell fin hcd) hd
theorem F6 {i j pos} : PE X (.Constant (.int i) j pos) (tC (.int i)) := fun _ _ _ H _ I h => wpAny_Constant_int ⟨.int i, H, I.tok _, ⟨_, rfl⟩, h⟩
theorem B81 {b j pos} : PE X (.Constant (.bool b) j pos) (tC (.bl b)) := fun _ _ _ H _ I h => Constant_bool ⟨.bl b, H, I, rfl, h⟩
theorem B6n {j pos} : PE X (.Constant .none j pos) (tC .non) := fun _ _ _ H _ I h => Constant_none ⟨.non, H, I, rfl, h⟩
theorem B6l {x j pos} : PE X (.Constant (.str x) j pos) (tC (.str x)) := fun _ _ _ H _ I h => Calls.Constant_str ⟨.str x, H, I.tok _, ⟨_, rfl⟩, h⟩
def Gl (X : Cx) (x : Str) : Prop := X.env.kindOf x = some .globalImplicit
theorem A7s {E : Value -> Shared -> Prop} {pins : List (Addr × Obj)} {s : Shared} {σ : St} {H : Hp} {x : Str} {u : Value} {pos : Pos} {Q : Value -> Shared -> Prop} (I : Inv X pins σ H s) (hg : Gl X x) (hm : X.mg x = some u) (h : Q u s)
  (hd : (x == ("__debug__" : Str)) = false := by decide) : wpAny (model X.prog X.w) X.A (eval (.Name x pos) X.env) Q E s :=
 Calls.Name_function_global I.ok.kind hg (Calls.loadGlobal_global (by rw [I.ok.glob]; exact I.mod.glob.keeps I.bk) hm h) hd
theorem V8 {E : Value -> Shared -> Prop} {pins : List (Addr × Obj)} {s : Shared} {σ : St} {H : Hp} {x : Str} {u : Value} {pos : Pos} {Q : Value -> Shared -> Prop} (I : Inv X pins σ H s) (hg : Gl X x) (hm : X.mg x = none) (hv : bootBuiltins x = some u) (h : Q u s)
  (hn : x ≠ "__name__" := by decide) (hd : (x == ("__debug__" : Str)) = false := by decide) : wpAny (model X.prog X.w) X.A (eval (.Name x pos) X.env) Q E s := by
 obtain ⟨mb, h1, h2⟩ := I.mod.blt
 exact Calls.Name_function_global I.ok.kind hg (Calls.loadGlobal_builtin (by rw [I.ok.glob]; exact I.mod.glob.keeps I.bk) hm (by rw [I.ok.blt]; exact h1.keeps I.bk) ((h2 x hn).trans hv) h) hd
theorem B3m {x : Str} {v : V} {u : Value} {pos : Pos} (hg : Gl X x) (hm : X.mg x = some u) (r : RelV v u) (hd : (x == ("__debug__" : Str)) = false := by decide) : PE X (.Name x pos) (tC v) :=
 fun _ _ _ H _ I h => A7s I hg hm ⟨v, H, I, r, h⟩ hd
theorem B3p {x : Str} {v : V} {u : Value} {pos : Pos} (hg : Gl X x) (hm : X.mg x = none) (hv : bootBuiltins x = some u) (r : RelV v u) (hn : x ≠ "__name__" := by decide) (hd : (x == ("__debug__" : Str)) = false := by decide) : PE X (.Name x pos) (tC v) :=
 fun _ _ _ H _ I h => V8 I hg hm hv ⟨v, H, I, r, h⟩ hn hd
variable {a b : Expr} {ta tb : TE} {pos : Pos}
def PC (X : Cx) (op : CmpOp) (a b : Expr) (t : TE) : Prop :=
 ∀ (pins : List (Addr × Obj)) (s : Shared) (σ : St) (H : Hp) (Q : VK), Inv X pins σ H s -> t σ H Q ->
  wpAny (model X.prog X.w) X.A (eval a X.env) (fun v s₁ => wpAny (model X.prog X.w) X.A (eval b X.env) (fun u s₂ => wpAny (model X.prog X.w) X.A (compareOp op v u) (EP X pins σ Q) X.xe s₂) X.xe s₁) X.xe s
theorem A94 (b : Expr) {op : CmpOp} (h : op ≠ .In) (h2 : op ≠ .NotIn) : behindInMarks op b = false := by
 have e1 : (op == CmpOp.In) = false := by cases op <;> first | rfl | exact absurd rfl h
 have e2 : (op == CmpOp.NotIn) = false := by cases op <;> first | rfl | exact absurd rfl h2
 cases b <;> simp [behindInMarks, e1, e2]
def tB (t : TE) : TT := fun σ H Q => t σ H fun x H1 => ∃ c, x = .bl c /\ Q c H1
theorem B9e {op : CmpOp} {t : TE} (h : PC X op a b t) (h1 : behindInMarks op b = false := by first | exact A94 _ (by decide) (by decide) | rfl) : PT X (.Compare a [op] [b] pos) (tB t) := by
 intro pins s σ H Q I hw
 refine wpAny_isTrue_Compare1 (thn (h pins s σ H _ I hw) fun v s1 h1 => thn h1 fun u s2 h2 => thn h2 fun c s3 ⟨x, H1, I1, r1, q1⟩ => ?_) h1
 obtain ⟨d, rfl, q⟩ := q1
 cases r1
 exact wpAny_truthy_bool ⟨H1, I1, q⟩
theorem B09 {e : Expr} {t : TE} (h : PE X e t) (he : ∀ whole, isTrue e X.env whole = (do let v <- whole; standAt e.pos; holding [v] (truthy v)) := by intro _; rfl) : PT X e (tB t) := by
 intro pins s σ H Q I hw
 refine isTrue_plain (thn (h pins s σ H _ I hw) fun v s1 ⟨x, H1, I1, r1, q1⟩ => ?_) (he _)
 obtain ⟨d, rfl, q⟩ := q1
 cases r1
 exact wpAny_truthy_bool ⟨H1, I1, q⟩
variable {tA tB' : TT} {rest : List Expr}
def tAnd (t u : TT) : TT := fun σ H Q => t σ H fun c H1 => if c = true then u σ H1 Q else Q false H1
def tOr (t u : TT) : TT := fun σ H Q => t σ H fun c H1 => if c = true then Q true H1 else u σ H1 Q
def tNot (t : TT) : TT := fun σ H Q => t σ H fun c H1 => Q (!c) H1
theorem B28 (ha : PT X a tA) : PW X (.BoolOp .And [a] pos) tA := by
 intro wh pins s σ H Q I h
 refine isTrue_and (thn (ha pins s σ H Q I h) fun c s1 e => ?_)
 cases c with
 | true => exact isTrue_and_nil e
 | false => exact e
theorem B6c (ha : PT X a tA) : PW X (.BoolOp .Or [a] pos) tA := by
 intro wh pins s σ H Q I h
 refine isTrue_or (thn (ha pins s σ H Q I h) fun c s1 e => ?_)
 cases c with
 | false => exact isTrue_or_nil e
 | true => exact e
theorem B6d (ha : PT X a tA) (hb : PW X (.BoolOp .And (b :: rest) pos) tB') : PW X (.BoolOp .And (a :: b :: rest) pos) (tAnd tA tB') := by
 intro wh pins s σ H Q I h
 refine isTrue_and (thn (ha pins s σ H _ I h) fun c s1 ⟨H1, I1, q1⟩ => ?_)
 cases c with
 | true => exact hb wh pins s1 σ H1 Q I1 q1
 | false => exact ⟨H1, I1, q1⟩
theorem B8x (ha : PT X a tA) (hb : PW X (.BoolOp .Or (b :: rest) pos) tB') : PW X (.BoolOp .Or (a :: b :: rest) pos) (tOr tA tB') := by
 intro wh pins s σ H Q I h
 refine isTrue_or (thn (ha pins s σ H _ I h) fun c s1 ⟨H1, I1, q1⟩ => ?_)
 cases c with
 | true => exact ⟨H1, I1, q1⟩
 | false => exact hb wh pins s1 σ H1 Q I1 q1
theorem B6e (ha : PT X a tA) : PT X (.UnaryOp .Not a pos) (tNot tA) := by
 intro pins s σ H Q I h
 exact isTrue_not (ha pins s σ H (fun c H1 => Q (!c) H1) I h)
def B2v (ta tb : TE) : TE := fun σ H Q => ta σ H fun x H1 => ∃ c, x = .bl c /\ if c = true then tb σ H1 Q else Q (.bl false) H1
theorem B6m {op} {t : TE} (h : PE X a t) : PE X (.BoolOp op [a] pos) t := fun pins s σ H Q I hw => BoolOp_one (h pins s σ H Q I hw)
theorem B6o (ha : PE X a ta) (hb : PE X (.BoolOp .And (b :: rest) pos) tb) : PE X (.BoolOp .And (a :: b :: rest) pos) (B2v ta tb) := by
 intro pins s σ H Q I h
 refine BoolOp_and (thn (ha pins s σ H _ I h) fun v s1 ⟨x, H1, I1, r1, q1⟩ => ?_)
 obtain ⟨c, rfl, q1⟩ := q1
 cases r1
 refine wpAny_truthy_bool ?_
 cases c with
 | true => exact hb pins s1 σ H1 Q I1 q1
 | false => exact ⟨.bl false, H1, I1, rfl, q1⟩
def tIf (t : TT) (ta tb : TE) : TE := fun σ H Q => t σ H fun c H1 => if c = true then ta σ H1 Q else tb σ H1 Q
theorem A9p {c : Expr} (hc : PT X c tA) (ha : PE X a ta) (hb : PE X b tb) : PE X (.IfExp c a b pos) (tIf tA ta tb) := by
 intro pins s σ H Q I h
 refine wpAny_IfExp (thn (hc pins s σ H _ I h) fun d s1 ⟨H1, I1, q1⟩ => ?_)
 cases d with
 | true => exact ha pins s1 σ H1 Q I1 q1
 | false => exact hb pins s1 σ H1 Q I1 q1
end
end L2
namespace L2
open PySem PySem.Spec PyProof.Rows
def SqL (K : PySem.W.Frag) (H : Hp) (a : Addr) (xs : List V) : Prop :=
 Rd H a (.lst xs) \/
  ∃ (o : Obj) (its : Array Value) (n : Nat), K.lookup a = some o /\ o.cls = .type "list" /\ o.dict = none /\ o.data = .seq its n /\ its.size <= sizeLine /\ Vals xs its.toList
def SqT (K : PySem.W.Frag) (H : Hp) (a : Addr) (xs : List V) : Prop :=
 Rd H a (.tup xs) \/
  ∃ (o : Obj) (its : Array Value) (n : Nat), K.lookup a = some o /\ o.cls = .type "tuple" /\ o.data = .seq its n /\ its.size <= sizeLine /\ Vals xs its.toList
def absV : Value -> Option V
 | .none => some .non
 | .bool b => some (.bl b)
 | .int i _ => some (.int i)
 | .str x _ => some (.str x)
 | .bytes b _ => some (.byt b)
 | .float b _ => some (.flt b)
 | .ref a => some (.ref a)
 | .type n => some (.ty n)
 | _ => none
theorem RelV.abs {x : V} {u : Value} (r : RelV x u) : absV u = some x := by
 cases x with
 | non => cases r; rfl
 | bl _ => cases r; rfl
 | int _ => obtain ⟨t, rfl⟩ := r; rfl
 | str _ => obtain ⟨t, rfl⟩ := r; rfl
 | byt _ => obtain ⟨t, rfl⟩ := r; rfl
 | flt _ => obtain ⟨t, rfl⟩ := r; rfl
 | ref _ => cases r; rfl
 | ty _ => cases r; rfl
theorem RelV.inj {x y : V} {u : Value} (r : RelV x u) (q : RelV y u) : x = y := Option.some.inj (r.abs.symm.trans q.abs)
theorem Vals.inj : ∀ {xs ys : List V} {us : List Value}, Vals xs us -> Vals ys us -> xs = ys
 | _, _, _, .nil, .nil => rfl
 | _, _, _, .cons r t, .cons r' t' => by rw [r.inj r', Vals.inj t t']
section
variable {X : Cx} {pins : List (Addr × Obj)} {σ : St} {H : Hp} {s : Shared} {a : Addr} {xs ys : List V}
theorem SqL.of {K : PySem.W.Frag} (h : H a = some (.lst xs)) : SqL K H a xs := .inl (.inl h)
theorem SqT.of {K : PySem.W.Frag} (h : H a = some (.tup xs)) : SqT K H a xs := .inl (.inl h)
theorem Inv.list (I : Inv X pins σ H s) (h : SqL X.K H a xs) : ∃ its : List Value, Vals xs its /\ PlainL s.heap a its.toArray /\ xs.length <= sizeLine := by
 rcases h with h | ⟨o, its, n, hk, hc, hd, hs, hz, r⟩
 ·obtain ⟨z, its, n, r, e⟩ := h.ok I.hok
  exact ⟨its, r, ⟨_, n, e, rfl, rfl, rfl⟩, z⟩
 ·refine ⟨its.toList, r, ⟨o, n, I.kIn a o hk, hc, hd, by simpa using hs⟩, ?_⟩
  have e := r.length
  simp only [Array.length_toList] at e
  omega
theorem Inv.tuple (I : Inv X pins σ H s) (h : SqT X.K H a xs) : ∃ its : List Value, Vals xs its /\ IsTup s.heap a its.toArray /\ xs.length <= sizeLine := by
 rcases h with h | ⟨o, its, n, hk, hc, hs, hz, r⟩
 ·obtain ⟨z, its, r, p⟩ := h.ok I.hok
  exact ⟨its, r, p, z⟩
 ·refine ⟨its.toList, r, ⟨o, I.kIn a o hk, hc, n, by simpa using hs⟩, ?_⟩
  have e := r.length
  simp only [Array.length_toList] at e
  omega
theorem Inv.list_inj (I : Inv X pins σ H s) (h : SqL X.K H a xs) (h' : SqL X.K H a ys) : xs = ys := by
 obtain ⟨its, r, ⟨o, n, e, _, _, d⟩, _⟩ := I.list h
 obtain ⟨its', r', ⟨o', n', e', _, _, d'⟩, _⟩ := I.list h'
 rw [e] at e'; cases e'
 rw [d] at d'
 injection d' with d1 _
 have : its = its' := by simpa using congrArg Array.toList d1
 subst this
 exact r.inj r'
theorem Inv.tuple_inj (I : Inv X pins σ H s) (h : SqT X.K H a xs) (h' : SqT X.K H a ys) : xs = ys := by
 obtain ⟨its, r, ⟨o, e, _, n, d⟩, _⟩ := I.tuple h
 obtain ⟨its', r', ⟨o', e', _, n', d'⟩, _⟩ := I.tuple h'
 rw [e] at e'; cases e'
 rw [d] at d'
 injection d' with d1 _
 have : its = its' := by simpa using congrArg Array.toList d1
 subst this
 exact r.inj r'
end
abbrev Cx.wish (X : Cx) (E : Value -> Shared -> Prop) : Cx := { X with xe := E }
abbrev Cx.nox (X : Cx) : Cx := X.wish fun _ _ => False
theorem Cx.Ok.wish {X : Cx} (ok : X.Ok) (E : Value -> Shared -> Prop) : (X.wish E).Ok :=
 ⟨ok.mod, ok.kind, ok.glob, ok.blt, ok.above, ok.inj, ok.has, ok.cab, ok.hd, ok.frames, ok.stk, ok.exf, ok.bs, ok.bsz, ok.noex, ok.exfs, ok.funs, ok.frf⟩
theorem Cx.Ok.unwish {X : Cx} {E : Value -> Shared -> Prop} (ok : (X.wish E).Ok) : X.Ok :=
 ⟨ok.mod, ok.kind, ok.glob, ok.blt, ok.above, ok.inj, ok.has, ok.cab, ok.hd, ok.frames, ok.stk, ok.exf, ok.bs, ok.bsz, ok.noex, ok.exfs, ok.funs, ok.frf⟩
section
variable {X : Cx} {pins : List (Addr × Obj)} {σ : St} {H : Hp} {s : Shared} {E : Value -> Shared -> Prop}
theorem Inv.wish (I : Inv X pins σ H s) (E : Value -> Shared -> Prop) : Inv (X.wish E) pins σ H s := ⟨I.ok.wish E, I.os, I.bare, I.base, I.loc, I.cell, I.free, I.freeC, I.pin, I.hok, I.len⟩
theorem Inv.unwish (I : Inv (X.wish E) pins σ H s) : Inv X pins σ H s := ⟨I.ok.unwish, I.os, I.bare, I.base, I.loc, I.cell, I.free, I.freeC, I.pin, I.hok, I.len⟩
theorem SP.unwish {D : Ends} {f : Flow} {s' : Shared} (h : SP (X.wish E) pins D f s') : SP X pins D f s' := by
 cases f with
 | next => obtain ⟨σ', H', I, q⟩ := h; exact ⟨σ', H', I.unwish, q⟩
 | brk => obtain ⟨σ', H', I, q⟩ := h; exact ⟨σ', H', I.unwish, q⟩
 | cont => obtain ⟨σ', H', I, q⟩ := h; exact ⟨σ', H', I.unwish, q⟩
 | ret u => obtain ⟨v, σ', H', I, r, q⟩ := h; exact ⟨v, σ', H', I.unwish, r, q⟩
theorem PSs.nox {st : List Stmt} {t : TS} (h : PSs X.nox st t) : PSs X st t := fun pins s σ H D I hw =>
 wpAny_mono (h pins s σ H D (I.wish _) hw) (fun _ _ q => q.unwish) fun _ _ z => False.elim z
end
section
variable {X : Cx} {st : Stmt} {rest : List Stmt} {t u : TS} {e : Expr} {te : TE} {pos : Pos}
def B2u : TS := fun D σ H => D.nx σ H
def tSeq (t u : TS) : TS := fun D σ H => t { D with nx := u D } σ H
theorem A1t : PSs X [] B2u := fun _ _ σ H _ I h => wpAny_execs_nil ⟨σ, H, I, h⟩
theorem J4 (h1 : PS X st t) (h2 : PSs X rest u) : PSs X (st :: rest) (tSeq t u) := by
 intro pins s σ H D I h
 refine wpAny_execs_cons (thn (h1 pins s σ H { D with nx := u D } I h) fun f s1 q => ?_)
 cases f with
 | next =>
  obtain ⟨σ', H', I', q⟩ := q
  exact h2 pins s1 σ' H' D I' q
 | ret v => exact q
 | brk => exact q
 | cont => exact q
theorem Q3 (h1 : PS X st t) : PSs X [st] t := by
 intro pins s σ H D I h
 refine wpAny_execs_cons (thn (h1 pins s σ H D I h) fun f s1 q => ?_)
 cases f with
 | next => exact wpAny_execs_nil q
 | ret v => exact q
 | brk => exact q
 | cont => exact q
theorem Inv.quiet {pins : List (Addr × Obj)} {σ : St} {H : Hp} {s : Shared} (I : Inv X pins σ H s) : interactive X.env = false := by simp [interactive, I.ok.kind]
def A86 (te : TE) : TS := fun D σ H => te σ H fun _ H1 => D.nx σ H1
theorem B3e (he : PE X e te) (hs : swapsWith e none pos.line X.env = pure false := by rfl) : PS X (.Expr e pos) (A86 te) := by
 intro pins s σ H D I h
 exact wpAny_Expr_any (thn (he pins s σ H _ I h) fun v s1 ⟨x, H1, I1, r1, q1⟩ => ⟨σ, H1, I1, q1⟩) I.quiet hs
def tRet (te : TE) : TS := fun D σ H => te σ H D.rt
theorem A2y (he : PE X e te) : PS X (.Return (some e) pos) (tRet te) := by
 intro pins s σ H D I h
 exact wpAny_Return_some (thn (he pins s σ H _ I h) fun v s1 ⟨x, H1, I1, r1, q1⟩ => ⟨x, σ, H1, I1, r1, q1⟩)
def tIfS (c : TT) (t u : TS) : TS := fun D σ H => c σ H fun b H1 => if b = true then t D σ H1 else u D σ H1
theorem B3d {c : Expr} {a b : List Stmt} {tc : TT} (hc : PT X c tc) (ha : PSs X a t) (hb : PSs X b u) : PS X (.If c a b pos) (tIfS tc t u) := by
 intro pins s σ H D I h
 refine wpAny_If (thn (hc pins s σ H _ I h) fun d s1 ⟨H1, I1, q1⟩ => ?_)
 cases d with
 | true => exact ha pins s1 σ H1 D I1 q1
 | false => exact hb pins s1 σ H1 D I1 q1
def A40 : TS := fun _ _ _ => False
theorem A9g : PS X st A40 := fun _ _ _ _ _ _ h => h.elim
end
abbrev TG := V -> St -> Hp -> (St -> Hp -> Prop) -> Prop
abbrev TGs := List V -> St -> Hp -> (St -> Hp -> Prop) -> Prop
def PG (X : Cx) (target : Expr) (t : TG) : Prop :=
 ∀ (pins : List (Addr × Obj)) (s : Shared) (σ : St) (H : Hp) (v : V) (u : Value) (Q : St -> Hp -> Prop), Inv X pins σ H s -> RelV v u -> t v σ H Q ->
  wpAny (model X.prog X.w) X.A (assign target X.env u) (fun _ s' => ∃ σ' H', Inv X pins σ' H' s' /\ Q σ' H') X.xe s
def PGs (X : Cx) (ts : List Expr) (t : TGs) : Prop :=
 ∀ (pins : List (Addr × Obj)) (s : Shared) (σ : St) (H : Hp) (vs : List V) (us : List Value) (Q : St -> Hp -> Prop), Inv X pins σ H s -> Vals vs us -> t vs σ H Q ->
  wpAny (model X.prog X.w) X.A (assignInOrder ((assignEach ts X.env).map (·.2)) us) (fun _ s' => ∃ σ' H', Inv X pins σ' H' s' /\ Q σ' H') X.xe s
abbrev TSet := V -> V -> V -> Hp -> (Hp -> Prop) -> Prop
def PSet (X : Cx) (t : TSet) : Prop :=
 ∀ (pins : List (Addr × Obj)) (s : Shared) (σ : St) (H : Hp) (o i v : V) (ov iv u : Value) (Q : Hp -> Prop), Inv X pins σ H s -> RelV o ov -> RelV i iv -> RelV v u -> t o i v H Q ->
  wpAny (model X.prog X.w) X.A (setItem ov iv u) (fun _ s' => ∃ H', Inv X pins σ H' s' /\ Q H') X.xe s
section
variable {X : Cx} {pos : Pos}
def R5 (i : Nat) : TG := fun v σ H Q => Q (σ.set i (some v)) H
theorem A5x {i : Nat} {x : Str} (hN : X.N.Nodup) (hi : X.N[i]? = some x) (hx : Loc X.env.scope x) (hf : X.fn x = true \/ X.env.scope.names.lookup x = some .local := by first | exact .inl rfl | exact .inr rfl | assumption) : PG X (.Name x pos) (R5 i) := by
 intro pins s σ H v u Q I r h
 exact wpAny_assign_Name (R8 I hN hi hx r (fun s' I' => ⟨_, H, I', h⟩) hf)
def gNil : TGs := fun vs σ H Q => vs = [] /\ Q σ H
def A16 (t : TG) (u : TGs) : TGs := fun vs σ H Q => ∃ v r, vs = v :: r /\ t v σ H fun σ' H' => u r σ' H' Q
theorem B3k : PGs X [] gNil := by
 intro pins s σ H vs us Q I r h
 obtain ⟨e, h⟩ := h
 subst e
 cases r
 exact assignInOrder_nil ⟨σ, H, I, h⟩
theorem A9n {e : Expr} {es : List Expr} {t : TG} {u : TGs} (h1 : PG X e t) (h2 : PGs X es u)
  (hs : (assignEach (e :: es) X.env).map (·.2) = assign e X.env :: (assignEach es X.env).map (·.2) := by rfl) : PGs X (e :: es) (A16 t u) := by
 intro pins s σ H vs us Q I r h
 obtain ⟨v, vr, e1, h⟩ := h
 subst e1
 cases r with
 | cons r rr =>
  rw [hs]
  refine assignInOrder_cons (thn (h1 pins s σ H _ _ _ I r h) fun _ s1 ⟨σ1, H1, I1, q1⟩ => ?_)
  exact h2 pins s1 σ1 H1 _ _ Q I1 rr q1
def gTup (K : PySem.W.Frag) (n : Nat) (t : TGs) : TG := fun v σ H Q => ∃ a xs, v = .ref a /\ SqT K H a xs /\ xs.length = n /\ t xs σ H Q
theorem B6i {es : List Expr} {k : Nat} {t : TGs} {n : Nat} (hc : X.calm = true) (h : PGs X es t)
  (hn : (assignEach es X.env).length = n := by rfl) (hst : (assignEach es X.env).findIdx? (·.1) = none := by rfl) : PG X (.Tuple es k pos) (gTup X.K n t) := by
 intro pins s σ H v u Q I r hw
 obtain ⟨a, xs, e1, hq, hl, hw⟩ := hw
 subst e1
 cases r
 obtain ⟨its, rv, ht, hz⟩ := I.tuple hq
 refine assign_Tuple_tuple (I.ok.hd hc) ht (by simp [hn, <- hl, rv.length]) hst fun h' hx => ?_
 have I1 : Inv X pins σ H { s with heap := h' } := I.kept (t' := s.toks) fun b o e => hx b o (Nat.ne_of_lt (Heap.lt_size e)) e
 exact h pins _ σ H xs _ Q I1 (by simpa using rv) hw
def gSub (to ti : TE) (t : TSet) : TG := fun v σ H Q => to σ H fun o H1 => ti σ H1 fun i H2 => t o i v H2 fun H3 => Q σ H3
theorem A20 {o i : Expr} {to ti : TE} {t : TSet} (ho : PE X o to) (hi : PE X i ti) (hs : PSet X t)
  (ha : ∀ v, assign (.Subscript o i pos) X.env v = (do
   let ov <- holding [v] (eval o X.env)
   let iv <- holding [v, ov] (eval i X.env)
   standAt pos
   holding [v, ov, iv] (setItem ov iv v)
   release [v, ov, iv] []) := by intro _; rfl) : PG X (.Subscript o i pos) (gSub to ti t) := by
 intro pins s σ H v u Q I r h
 rw [ha]
 refine wpAny_bind (wpAny_holding (thn (ho pins s σ H _ I h) fun ov s1 ⟨x, H1, I1, r1, q1⟩ => ?_))
 refine wpAny_bind (wpAny_holding (thn (hi pins s1 σ H1 _ I1 q1) fun iv s2 ⟨y, H2, I2, r2, q2⟩ => ?_))
 refine wpAny_bind (wpAny_standAt (wpAny_bind (wpAny_holding (thn (hs pins s2 σ H2 x y v ov iv u _ I2 r1 r2 r q2) fun _ s3 ⟨H3, I3, q3⟩ => ?_))))
 exact wpAny_release ⟨σ, H3, I3, q3⟩
def tAsg (te : TE) (g : TG) : TS := fun D σ H => te σ H fun x H1 => g x σ H1 D.nx
theorem A2z {tg e : Expr} {te : TE} {g : TG} (he : PE X e te) (hg : PG X tg g) (hs : swapsWithSole [tg] e pos.line X.env = pure false := by rfl) (hw : swappedStores [tg] e X.env = pure none := by rfl)
  (h1 : (assignEach [tg] X.env).map (·.2) = [assign tg X.env] := by rfl) : PS X (.Assign [tg] e pos) (tAsg te g) := by
 intro pins s σ H D I h
 refine wpAny_Assign_stores (thn (he pins s σ H _ I h) fun v s1 ⟨x, H1, I1, r1, q1⟩ => ?_) hs hw
 rw [h1]
 exact thn (hg pins s1 σ H1 x v _ I1 r1 q1) fun _ s2 q => q
theorem V2 {i : Nat} {x : Str} {e : Expr} {te : TE} {pos' : Pos} (hN : X.N.Nodup) (hi : X.N[i]? = some x) (hx : Loc X.env.scope x) (he : PE X e te) (hs : swapsWith e (some (.Name x pos')) pos.line X.env = pure false := by rfl) (hf : X.fn x = true \/ X.env.scope.names.lookup x = some .local := by first | exact .inl rfl | exact .inr rfl | assumption) :
  PS X (.Assign [.Name x pos'] e pos) (tAsg te (R5 i)) := by
 intro pins s σ H D I h
 refine wpAny_Assign_Name (thn (he pins s σ H _ I h) fun v s1 ⟨y, H1, I1, r1, q1⟩ => ?_) hs
 exact R8 I1 hN hi hx r1 (fun s2 I2 => ⟨_, H1, I2, q1⟩) hf
def tPar (i j : Nat) (ta : TA) : TS := fun D σ H => ta σ H fun vs H1 => ∃ v w, vs = [v, w] /\ D.nx ((σ.set i (some v)).set j (some w)) H1
theorem B6f {i j : Nat} {x y : Str} {a b : Expr} {ta : TA} {px py pt : Pos} {kt k2 pt2} (hc : X.calm = true) (hN : X.N.Nodup) (hi : X.N[i]? = some x) (hj : X.N[j]? = some y) (hij : i ≠ j)
  (hx : X.env.scope.names.lookup x = some .local) (hy : X.env.scope.names.lookup y = some .local) (ha : PA X [a, b] ta)
  (hw : swappedStores [.Tuple [.Name x px, .Name y py] kt pt] (.Tuple [a, b] k2 pt2) X.env = pure (some [x, y]))
  (hs : swapsWithSole [.Tuple [.Name x px, .Name y py] kt pt] (.Tuple [a, b] k2 pt2) pos.line X.env = pure false := by rfl) :
  PS X (.Assign [.Tuple [.Name x px, .Name y py] kt pt] (.Tuple [a, b] k2 pt2) pos) (tPar i j ta) := by
 intro pins s σ H D I h
 rw [exec_Assign_arm]
 refine wpAny_bind (wpAny_standAt ?_)
 rw [hs]
 refine wpAny_bind (wpAny_pure ?_)
 rw [if_neg (by decide)]
 refine wpAny_bind (Tuple_ (thn (ha _ pins s σ H _ I h) fun us s1 ⟨vs, H1, I1, r1, q1⟩ => ?_))
 obtain ⟨v, w, e1, q1⟩ := q1
 subst e1
 obtain ⟨u1, u2, rfl, rv, rw'⟩ : ∃ u1 u2, us = [u1, u2] /\ RelV v u1 /\ RelV w u2 := by
  cases r1 with
  | cons p q =>
   cases q with
   | cons p' q' =>
    cases q'
    exact ⟨_, _, rfl, p, p'⟩
 refine wpAny_newObj_type ?_ (by show 2 <= sizeLine; decide)
 have I2 : Inv X pins σ H1 { s1 with heap := s1.heap.push { cls := .type "tuple", data := .seq [u1, u2].toArray } } := I1.kept (t' := s1.toks) fun b o e => Heap.get?_push_of_some _ e
 rw [hw]
 refine wpAny_bind (wpAny_pure ?_)
 show wpAny (model X.prog X.w) X.A (do rule "assign.swapped-stores"; let items <- unpackItems (.ref s1.heap.objs.size) 2 none; assignInOrder [fun v => bindName X.env y v, fun v => bindName X.env x v] items.reverse; pure Flow.next) _ _ _
 refine wpAny_bind (wpAny_rule (wpAny_bind (unpackItems_tuple (items := #[u1, u2]) (I.ok.hd hc) (IsTup.new s1.heap _) fun h' hx' => ?_)))
 have I3 := I2.kept (h' := h') (t' := s1.toks) fun b o e => hx' b o (Nat.ne_of_lt (Heap.lt_size e)) e
 show wpAny _ _ (assignInOrder [fun v => bindName X.env y v, fun v => bindName X.env x v] [u2, u1] >>= fun _ => pure Flow.next) _ _ _
 refine wpAny_bind (assignInOrder_cons (wpAny_bindName (R8 I3 hN hj (.inl hy) rw' (fun s2 I4 => ?_) (.inr hy))))
 refine assignInOrder_cons (wpAny_bindName (R8 I4 hN hi (.inl hx) rv (fun s3 I5 => assignInOrder_nil (wpAny_pure ?_)) (.inr hx)))
 rw [List.set_comm _ _ (Ne.symm hij)] at I5
 exact ⟨_, H1, I5, q1⟩
end
section
variable {X : Cx} {pos : Pos}
def A4z (c : TT) (tb : TS) : TS := fun D σ H => ∃ W : Nat -> St -> Hp -> Prop, (∃ m, W m σ H) /\ ∀ m σ H, W m σ H ->
 c σ H fun b H1 => if b = true then ∃ N : St -> Hp -> Prop, (∀ σ' H', N σ' H' -> ∃ m', m' < m /\ W m' σ' H') /\ tb { D with nx := N, ct := N, bk := D.nx } σ H1 else D.nx σ H1
theorem A9f {c : Expr} {body : List Stmt} {tc : TT} {tb : TS} (hp : PassesOwn (model X.prog X.w) X.A X.env X.xe) (hc : PT X c tc) (hb : PSs X body tb) : PS X (.While c body [] pos) (A4z tc tb) := by
 intro pins s σ H D I h
 obtain ⟨W, ⟨m0, w0⟩, turn⟩ := h
 refine wpAny_While (codeAny_whileLoop (fun n s' => ∃ σ' H', Inv X pins σ' H' s' /\ W n σ' H') ?_ m0 ⟨σ, H, I, w0⟩)
 rintro n s1 ⟨σ1, H1, I1, w1⟩
 refine wpAny_passesOwn hp (thn (hc pins s1 σ1 H1 _ I1 (turn n σ1 H1 w1)) fun b s2 ⟨H2, I2, q2⟩ => ?_)
 cases b with
 | true =>
  obtain ⟨N, hN, q2⟩ := q2
  rw [if_pos rfl]
  refine wpAny_passesOwn hp (thn (hb pins s2 σ1 H2 _ I2 q2) fun f s3 q3 => ?_)
  cases f with
  | next =>
   obtain ⟨σ3, H3, I3, n3⟩ := q3
   obtain ⟨m', hm, w3⟩ := hN σ3 H3 n3
   exact ⟨m', hm, σ3, H3, I3, w3⟩
  | cont =>
   obtain ⟨σ3, H3, I3, n3⟩ := q3
   obtain ⟨m', hm, w3⟩ := hN σ3 H3 n3
   exact ⟨m', hm, σ3, H3, I3, w3⟩
  | brk => exact q3
  | ret v => exact q3
 | false =>
  rw [if_neg Bool.false_ne_true]
  exact wpAny_execs_nil ⟨σ1, H2, I2, q2⟩
end
structure It where
 go : Nat -> Hp -> Prop
 yld : Nat -> Hp -> V -> Hp -> Prop
 stop : Nat -> Hp -> Prop
def FpOk (X : Cx) (pins : List (Addr × Obj)) (H : Hp) (b : Addr) : Prop :=
 H b = none /\ b ≠ X.env.locals /\ b ∉ X.fs /\ (b ∈ X.ex \/ X.s₀.heap.objs.size <= b) /\ (∀ x c, X.env.cells.lookup x = some c -> c ≠ b) /\ ∀ p ∈ X.pn ++ pins, p.1 ≠ b
theorem Inv.fpOk {X : Cx} {pins : List (Addr × Obj)} {σ : St} {H H' : Hp} {s : Shared} {b : Addr} (I : Inv X pins σ H s) (hb : s.heap.objs.size <= b) (hn : H' b = none) : FpOk X pins H' b := by
 refine ⟨hn, Nat.ne_of_gt (Nat.lt_of_lt_of_le I.lt hb), I.nofs hb, .inr (Nat.le_trans I.sz hb), fun x c e z => ?_, fun p hp z => ?_⟩
 ·obtain ⟨v, q⟩ := I.cell x c e
  exact absurd (Nat.lt_of_lt_of_le q.lt (by rw [z]; exact hb)) (Nat.lt_irrefl _)
 ·exact absurd (Nat.lt_of_lt_of_le (Heap.lt_size (I.pin p hp).1) (by rw [z]; exact hb)) (Nat.lt_irrefl _)
structure Turn (P : Program) (w : World) (K : PySem.W.Frag) (tg : Expr) (J : It) (fp : List Addr) (it : Addr) (tn : Nat -> Heap -> Prop) : Prop where
  mem : it ∈ fp
  obj : ∀ i h, tn i h -> ∀ b ∈ fp, ∃ o, h.get? b = some o /\ ∀ v, o.data ≠ .cell v
  keep : ∀ i h h', tn i h -> (∀ b ∈ fp, ∀ o, h.get? b = some o -> h'.get? b = some o) -> tn i h'
  item : ∀ (X : Cx), X.prog = P -> X.w = w -> X.K = K -> X.calm = true -> ∀ (i : Nat) (pins : List (Addr × Obj)) (s : Shared) (σ : St) (H : Hp) (E : Value -> Shared -> Prop), Inv X pins σ H s -> (∀ b ∈ fp, FpOk X pins H b) -> tn i s.heap -> J.go i H ->
    wpAny (model P w) X.A (pyNext (.ref it)) (fun r s1 => ∃ u, r = some u /\
      wpAny (model P w) X.A (letOwnedTupleGo tg (.ref it) u) (fun _ s2 => ∃ x H', Inv X pins σ H' s2 /\ RelV x u /\ J.yld i H x H' /\ tn (i + 1) s2.heap /\ ∀ b ∈ fp, H' b = none) E s1) E s
  done : ∀ (X : Cx), X.prog = P -> X.w = w -> X.K = K -> X.calm = true -> ∀ (i : Nat) (pins : List (Addr × Obj)) (s : Shared) (σ : St) (H : Hp) (E : Value -> Shared -> Prop), Inv X pins σ H s -> (∀ b ∈ fp, FpOk X pins H b) -> tn i s.heap -> J.stop i H ->
    wpAny (model P w) X.A (pyNext (.ref it)) (fun r s1 => r = none /\ Inv X pins σ H s1) E s
  self : ∀ (A : Around) (i : Nat) (s : Shared) (Q : Value -> Shared -> Prop) (E : Value -> Shared -> Prop), tn i s.heap -> Q (.ref it) s -> wpAny (model P w) A (pyIter (.ref it)) Q E s
abbrev TI := St -> Hp -> (It -> Hp -> Prop) -> Prop
def PIE (X : Cx) (pins : List (Addr × Obj)) (σ : St) (tg : Expr) (R : It -> Hp -> Prop) (itv : Value) (s2 : Shared) : Prop :=
 ∃ (it : Addr) (fp : List Addr) (tn : Nat -> Heap -> Prop) (J : It) (H' : Hp), itv = .ref it /\ Inv X pins σ H' s2 /\ Turn X.prog X.w X.K tg J fp it tn /\ tn 0 s2.heap /\ (∀ b ∈ fp, FpOk X pins H' b) /\ R J H'
def PI (X : Cx) (tg iter : Expr) (wi : TI) : Prop :=
 ∀ (pins : List (Addr × Obj)) (s : Shared) (σ : St) (H : Hp) (R : It -> Hp -> Prop), Inv X pins σ H s -> wi σ H R ->
  wpAny (model X.prog X.w) X.A (eval iter X.env) (fun v s1 => wpAny (model X.prog X.w) X.A (pyIter v) (PIE X pins σ tg R) X.xe s1) X.xe s
theorem B41 {M : Model} {A : Around} {E : Value -> Shared -> Prop} {s : Shared} {tg : Expr} {it : Addr} {u : Value} {o : Obj} {n : String} {vs : Array Value} {Q : Unit -> Shared -> Prop} (ho : s.heap.get? it = some o) (hc : o.cls = .type n) (hd : o.data = .fields vs)
    (hn : ["enumerate", "zip", "dict_itemiterator", "dict_reverseitemiterator", "odict_iterator", "itertools.zip_longest", "itertools.pairwise"].contains n = false) (hQ : Q () s) : wpAny M A (letOwnedTupleGo tg (.ref it) u) Q E s := by
  unfold letOwnedTupleGo
  cases tg <;> first
    | exact wpAny_pure hQ
    | (cases u <;> first
        | exact wpAny_pure hQ
        | (refine wpAny_bind (wpAny_load ho ?_)
           rw [hc, hd]
           show wpAny M A (if (["enumerate", "zip", "dict_itemiterator", "dict_reverseitemiterator", "odict_iterator", "itertools.zip_longest", "itertools.pairwise"].contains n && vs[0]? == some (rawInt _)) = true then _ else _) Q E s
           rw [if_neg (by intro h; rw [hn, Bool.false_and] at h; cases h)]
           exact wpAny_pure hQ))
def Itl (K : PySem.W.Frag) (a : Addr) : It :=
 ⟨fun i H => ∃ xs x, SqL K H a xs /\ xs[i]? = some x, fun i H x H' => H' = H /\ ∀ xs, SqL K H a xs -> xs[i]? = some x, fun i H => ∃ xs, SqL K H a xs /\ xs.length <= i⟩
def Itt (K : PySem.W.Frag) (a : Addr) : It :=
 ⟨fun i H => ∃ xs x, SqT K H a xs /\ xs[i]? = some x, fun i H x H' => H' = H /\ ∀ xs, SqT K H a xs -> xs[i]? = some x, fun i H => ∃ xs, SqT K H a xs /\ xs.length <= i⟩
def Itr (lo : Int) (n : Nat) : It := ⟨fun i _ => i < n, fun i H x H' => H' = H /\ x = .int (lo + i), fun i _ => n <= i⟩
theorem A4w {P : Program} {w : World} {K : PySem.W.Frag} {tg : Expr} (a it : Addr) : Turn P w K tg (Itl K a) [it] it (fun i h => h.IsListIter it a i) where
 mem := by simp
 obj := fun i h st b hb => by
  have e : b = it := by simpa using hb
  subst e
  obtain ⟨o, e, c, d⟩ := st
  exact ⟨o, e, fun v z => by rw [d] at z; cases z⟩
 keep := fun i h h' st k => st.at fun o e => k it (by simp) o e
 item := by
  intro X hP hw hK hc i pins s σ H E I hf st hg
  subst hP hw hK
  obtain ⟨xs, x, hq, hx⟩ := hg
  obtain ⟨its, rv, p, hz⟩ := I.list hq
  obtain ⟨u, hu, ru⟩ := rv.get hx
  obtain ⟨f0, f1, f2, f3, f4, f5⟩ := hf it (by simp)
  refine wpAny_pyNext_list_item st p.isList (x := u) (by simpa using hu) fun h' st' sb => ?_
  have I1 : Inv X pins σ H { s with heap := h' } := I.turned (t' := s.toks) (fun b o hb e => (sb.2 b hb).trans e) f0 f1 f3 f4 f5
  obtain ⟨o, e, c, d⟩ := id st'
  exact ⟨u, rfl, B41 (s := { s with heap := h' }) e c d (by decide) ⟨x, H, I1, ru, ⟨rfl, fun ys hy => by rw [I.list_inj hy hq]; exact hx⟩, st', fun b hb => (hf b hb).1⟩⟩
 done := by
  intro X hP hw hK hc i pins s σ H E I hf st hg
  subst hP hw hK
  obtain ⟨xs, hq, hx⟩ := hg
  obtain ⟨its, rv, p, hz⟩ := I.list hq
  obtain ⟨f0, f1, f2, f3, f4, f5⟩ := hf it (by simp)
  have hl := rv.length
  exact wpAny_pyNext_list_end (I.ok.hd hc) st p.isList (by simp; omega) fun h' eb => ⟨rfl, I.turned (t' := s.toks) (fun b o hb e => eb b o hb e) f0 f1 f3 f4 f5⟩
 self := fun _ _ _ _ _ st h => wpAny_pyIter_listiter st h
theorem A31 {P : Program} {w : World} {K : PySem.W.Frag} {tg : Expr} (a it : Addr) : Turn P w K tg (Itt K a) [it] it (fun i h => h.IsTupleIter it a i) where
 mem := by simp
 obj := fun i h st b hb => by
  have e : b = it := by simpa using hb
  subst e
  obtain ⟨o, e, c, d⟩ := st
  exact ⟨o, e, fun v z => by rw [d] at z; cases z⟩
 keep := fun i h h' st k => st.at fun o e => k it (by simp) o e
 item := by
  intro X hP hw hK hc i pins s σ H E I hf st hg
  subst hP hw hK
  obtain ⟨xs, x, hq, hx⟩ := hg
  obtain ⟨its, rv, p, hz⟩ := I.tuple hq
  obtain ⟨u, hu, ru⟩ := rv.get hx
  obtain ⟨f0, f1, f2, f3, f4, f5⟩ := hf it (by simp)
  refine wpAny_pyNext_tuple_item st (show s.heap.IsTuple a its.toArray from p) (x := u) (by simpa using hu) fun h' st' sb => ?_
  have I1 : Inv X pins σ H { s with heap := h' } := I.turned (t' := s.toks) (fun b o hb e => (sb.2 b hb).trans e) f0 f1 f3 f4 f5
  obtain ⟨o, e, c, d⟩ := id st'
  exact ⟨u, rfl, B41 (s := { s with heap := h' }) e c d (by decide) ⟨x, H, I1, ru, ⟨rfl, fun ys hy => by rw [I.tuple_inj hy hq]; exact hx⟩, st', fun b hb => (hf b hb).1⟩⟩
 done := by
  intro X hP hw hK hc i pins s σ H E I hf st hg
  subst hP hw hK
  obtain ⟨xs, hq, hx⟩ := hg
  obtain ⟨its, rv, p, hz⟩ := I.tuple hq
  obtain ⟨f0, f1, f2, f3, f4, f5⟩ := hf it (by simp)
  have hl := rv.length
  exact wpAny_pyNext_tuple_end (I.ok.hd hc) st (show s.heap.IsTuple a its.toArray from p) (by simp; omega) fun h' eb => ⟨rfl, I.turned (t' := s.toks) (fun b o hb e => eb b o hb e) f0 f1 f3 f4 f5⟩
 self := fun _ _ _ _ _ st h => wpAny_pyIter_tupleiter st h
theorem A32 {P : Program} {w : World} {K : PySem.W.Frag} {tg : Expr} (it : Addr) (lo : Int) (n : Nat) : Turn P w K tg (Itr lo n) [it] it (fun i h => IsRangeIter h it (lo + (i : Nat) * 1) ((n : Int) - (i : Nat)) 1) where
 mem := by simp
 obj := fun i h st b hb => by
  have e : b = it := by simpa using hb
  subst e
  exact ⟨_, st, fun v z => by
   have z' : Data.fields _ = Data.cell v := z
   cases z'⟩
 keep := fun i h h' st k => k it (by simp) _ st
 item := by
  intro X hP hw hK hc i pins s σ H E I hf st hg
  subst hP hw hK
  obtain ⟨f0, f1, f2, f3, f4, f5⟩ := hf it (by simp)
  have W := Walks.range (prog := X.prog) (w := X.w) (I.ok.hd hc) it lo 1 n
  refine W.item i s _ _ hg st fun v h' tk hv st' kk => ?_
  obtain ⟨t, rfl⟩ := hv
  have I1 : Inv X pins σ H { s with heap := h', toks := tk } := I.turned (fun b o hb e => kk b o (by simpa using hb) e) f0 f1 f3 f4 f5
  refine ⟨_, rfl, B41 (s := { s with heap := h', toks := tk }) (n := "range_iterator") st' rfl rfl (by decide) ⟨.int (lo + i), H, I1, ⟨t, ?_⟩, ⟨rfl, rfl⟩, st', fun b hb => (hf b hb).1⟩⟩
  rw [Int.mul_one]
 done := by
  intro X hP hw hK hc i pins s σ H E I hf st hg
  subst hP hw hK
  obtain ⟨f0, f1, f2, f3, f4, f5⟩ := hf it (by simp)
  exact wpAny_pyNext_range_end (I.ok.hd hc) st (by have : n <= i := hg; omega) fun h' eb => ⟨rfl, I.turned (t' := s.toks) (fun b o hb e => eb b o hb e) f0 f1 f3 f4 f5⟩
 self := fun _ _ _ _ _ st h => wpAny_pyIter_rangeiter st h
end L2
namespace L2
open PySem PySem.Spec PyProof.Rows
section
variable {X : Cx} {tg : Expr}
theorem A2u {pins : List (Addr × Obj)} {σ : St} {H : Hp} {s : Shared} {R : It -> Hp -> Prop} {E : Value -> Shared -> Prop} {lo hi : Int} {t u v : Tok} {tk : Nat} (I : Inv X pins σ H s) (h1 : -(2 ^ 62) <= lo) (h2 : lo < 2 ^ 62) (h3 : -(2 ^ 62) <= hi) (h4 : hi < 2 ^ 62)
  (q : R (Itr lo (hi - lo).toNat) H) : wpAny (model X.prog X.w) X.A (pyIter (.ref s.heap.objs.size)) (PIE X pins σ tg R) E { s with heap := s.heap.push { cls := .type "range", data := .fields #[.int lo t, .int hi u, .int 1 v] }, toks := tk } := by
 refine wpAny_pyIter_range (IsRange.new ..) (small_one h1 h2 h3 h4) ?_
 have I1 : Inv X pins σ H { s with heap := s.heap.push { cls := .type "range", data := .fields #[.int lo t, .int hi u, .int 1 v] }, toks := tk } := I.kept fun b o e => Heap.get?_push_of_some _ e
 refine ⟨(s.heap.push { cls := .type "range", data := .fields #[.int lo t, .int hi u, .int 1 v] }).objs.size, [(s.heap.push { cls := .type "range", data := .fields #[.int lo t, .int hi u, .int 1 v] }).objs.size], _, _, H, rfl,
  I1.kept (t' := tk) fun b o e => Heap.get?_push_of_some _ e, A32 _ lo (hi - lo).toNat, ?_, fun b hb => ?_, q⟩
 ·have e1 : lo + ((0 : Nat) : Int) * 1 = lo := by simp
  have e2 : (((hi - lo).toNat : Nat) : Int) - ((0 : Nat) : Int) = Builtin.Range.rangeSize lo hi 1 := by rw [rangeSize_one]; split <;> omega
  show IsRangeIter _ _ (lo + ((0 : Nat) : Int) * 1) ((((hi - lo).toNat : Nat) : Int) - ((0 : Nat) : Int)) 1
  rw [e1, e2]
  exact Heap.get?_push_size _ rfl
 ·have e : b = (s.heap.push { cls := .type "range", data := .fields #[.int lo t, .int hi u, .int 1 v] }).objs.size := by simpa using hb
  subst e
  exact I1.fpOk (Nat.le_refl _) (I1.hok.fresh (Nat.le_refl _))
def B4w (ta : TA) : TI := fun σ H R => ta σ H fun vs H1 => ∃ j : Int, vs = [.int j] /\ -(2 ^ 62) <= j /\ j < 2 ^ 62 /\ R (Itr 0 j.toNat) H1
def B4v (ta : TA) : TI := fun σ H R => ta σ H fun vs H1 => ∃ i j : Int, vs = [.int i, .int j] /\ (-(2 ^ 62) <= i /\ i < 2 ^ 62 /\ -(2 ^ 62) <= j /\ j < 2 ^ 62) /\ R (Itr i (j - i).toNat) H1
theorem A0h {a : Expr} {ta : TA} {p pos : Pos} (hg : Gl X "range") (hm : X.mg "range" = none) (ha : PA X [a] ta) (hs : starEach [a] X.env = [(false, eval a X.env)] := by rfl) : PI X tg (.Call (.Name "range" p) [a] [] pos) (B4w ta) := by
 intro pins s σ H R I h
 refine Call_ (V8 I hg hm boot_range (PyProof.Rows.callWith_type1 (thn (ha pos pins s σ H _ I h) fun us s1 ⟨vs, H1, I1, r1, q1⟩ => ?_) hs rfl))
 obtain ⟨j, e, q1, q2, q⟩ := q1
 subst e
 cases r1 with
 | cons r rr =>
  cases rr
  obtain ⟨t, rfl⟩ := r
  exact call_range_1 (A2u I1 (by omega) (by omega) q1 q2 (by simpa using q))
theorem A5w {a b : Expr} {ta : TA} {p pos : Pos} (hg : Gl X "range") (hm : X.mg "range" = none) (ha : PA X [a, b] ta) (hs : starEach [a, b] X.env = [(false, eval a X.env), (false, eval b X.env)] := by rfl) (hs2 : starEach [b] X.env = [(false, eval b X.env)] := by rfl) :
  PI X tg (.Call (.Name "range" p) [a, b] [] pos) (B4v ta) := by
 intro pins s σ H R I h
 refine Call_ (V8 I hg hm boot_range (PyProof.Rows.callWith_type1 (thn (ha pos pins s σ H _ I h) fun us s1 ⟨vs, H1, I1, r1, q1⟩ => ?_) (by rw [hs, hs2]) (by rw [hs2]; rfl)))
 obtain ⟨i, j, e, ⟨q1, q2, q3, q4⟩, q⟩ := q1
 subst e
 cases r1 with
 | cons r rr =>
  cases rr with
  | cons r' rr =>
   cases rr
   obtain ⟨t, rfl⟩ := r
   obtain ⟨t', rfl⟩ := r'
   exact call_range_2 (A2u I1 q1 q2 q3 q4 q)
def tFor (wi : TI) (g : TG) (tb : TS) : TS := fun D σ H => wi σ H fun J H1 => ∃ W : Nat -> Nat -> St -> Hp -> Prop, (∃ m, W 0 m σ H1) /\ ∀ i m σ H, W i m σ H ->
 (J.stop i H /\ D.nx σ H) \/ (J.go i H /\ ∃ N : St -> Hp -> Prop, (∀ σ' H', N σ' H' -> ∃ m', m' < m /\ W (i + 1) m' σ' H') /\ ∀ x H', J.yld i H x H' -> g x σ H' fun σ2 H2 => tb { D with nx := N, ct := N, bk := D.nx } σ2 H2)
def A0g (fp : List Addr) (h : Heap) : List (Addr × Obj) := fp.filterMap fun b => (h.get? b).map fun o => (b, o)
theorem N7 {fp : List Addr} {h : Heap} {b : Addr} {o : Obj} (hb : b ∈ fp) (e : h.get? b = some o) : (b, o) ∈ A0g fp h := List.mem_filterMap.mpr ⟨b, hb, by rw [e]; rfl⟩
theorem A65 {fp : List Addr} {h : Heap} {p : Addr × Obj} (hp : p ∈ A0g fp h) : p.1 ∈ fp /\ h.get? p.1 = some p.2 := by
 obtain ⟨b, hb, e⟩ := List.mem_filterMap.mp hp
 cases q : h.get? b with
 | none => rw [q] at e; cases e
 | some o =>
  rw [q] at e
  have e' : (b, o) = p := Option.some.inj e
  subst e'
  exact ⟨hb, q⟩
theorem Inv.pinned {pins : List (Addr × Obj)} {σ : St} {H : Hp} {s : Shared} {fp : List Addr} (I : Inv X pins σ H s) (hf : ∀ b ∈ fp, FpOk X pins H b) (ho : ∀ b ∈ fp, ∃ o, s.heap.get? b = some o /\ ∀ v, o.data ≠ .cell v) : Inv X (pins ++ A0g fp s.heap) σ H s :=
 I.pins_of fun p hp => (List.mem_append.mp hp).elim (fun z => I.pin p (List.mem_append_right _ z)) fun z => by
  obtain ⟨hb, e⟩ := A65 z
  obtain ⟨f0, f1, f2, _⟩ := hf p.1 hb
  obtain ⟨o, e', d⟩ := ho p.1 hb
  rw [e] at e'; cases e'
  exact ⟨e, f0, f1, f2, d⟩
theorem Inv.unpinned {pins pl : List (Addr × Obj)} {σ : St} {H : Hp} {s : Shared} (I : Inv X (pins ++ pl) σ H s) : Inv X pins σ H s := I.pins_of fun p hp => I.pin p (List.mem_append_right _ (List.mem_append_left _ hp))
theorem B1a {iter : Expr} {body : List Stmt} {wi : TI} {g : TG} {tb : TS} {pos : Pos} (hp : PassesOwn (model X.prog X.w) X.A X.env X.xe) (hc : X.calm = true) (hi : PI X tg iter wi) (hg : PG X tg g) (hb : PSs X body tb)
  (hs : ∀ x, foldedSetIterable iter X.env x = pure x := by intro _; rfl) : PS X (.For tg iter body [] pos) (tFor wi g tb) := by
 intro pins s σ H D I h
 refine wpAny_For (thn (hi pins s σ H _ I h) fun v s1 h1 => thn h1 fun itv s2 h2 => ?_) hs
 obtain ⟨it, fp, tn, J, H2, e, I2, T, st2, f2, W, ⟨m0, w0⟩, turn⟩ := h2
 subst e
 have stat : ∀ {H' : Hp}, (∀ b ∈ fp, H' b = none) -> ∀ b ∈ fp, FpOk X pins H' b := fun hn b hb => ⟨hn b hb, (f2 b hb).2⟩
 refine codeAny_forLoop_any (fun n s' => ∃ i σ' H', Inv X pins σ' H' s' /\ tn i s'.heap /\ (∀ b ∈ fp, H' b = none) /\ W i n σ' H') ?_ m0 ⟨0, σ, H2, I2, st2, fun b hb => (f2 b hb).1, w0⟩
 rintro n s3 ⟨i, σ3, H3, I3, st3, fr3, w3⟩
 rcases turn i n σ3 H3 w3 with ⟨stop, qn⟩ | ⟨go, N, hN, step⟩
 ·refine wpAny_passesOwn hp (thn (T.done X rfl rfl rfl hc i pins s3 σ3 H3 X.xe I3 (stat fr3) st3 stop) fun r s4 ⟨hr, I4⟩ => ?_)
  subst hr
  exact wpAny_execs_nil ⟨σ3, H3, I4, qn⟩
 ·refine wpAny_passesOwn hp (thn (T.item X rfl rfl rfl hc i pins s3 σ3 H3 X.xe I3 (stat fr3) st3 go) fun r s4 ⟨u, hr, h4⟩ => ?_)
  subst hr
  refine wpAny_passesOwn hp (thn h4 fun _ s5 ⟨x, H5, I5, r5, y5, st5, fr5⟩ => ?_)
  have I5' := I5.pinned (stat fr5) (T.obj _ _ st5)
  refine wpAny_passesOwn hp (thn (hg _ s5 σ3 H5 x u _ I5' r5 (step x H5 y5)) fun _ s6 ⟨σ6, H6, I6, q6⟩ => ?_)
  refine wpAny_passesOwn hp (thn (hb _ s6 σ6 H6 _ I6 q6) fun f s7 q7 => ?_)
  have again : ∀ {σ7 : St} {H7 : Hp}, Inv X (pins ++ A0g fp s5.heap) σ7 H7 s7 -> N σ7 H7 -> ∃ m, m < n /\ ∃ i σ' H', Inv X pins σ' H' s7 /\ tn i s7.heap /\ (∀ b ∈ fp, H' b = none) /\ W i m σ' H' := fun {σ7 H7} I7 n7 => by
   obtain ⟨m', hm, w7⟩ := hN σ7 H7 n7
   refine ⟨m', hm, i + 1, σ7, H7, I7.unpinned, T.keep _ _ _ st5 fun b hb o e => (I7.pin (b, o) (List.mem_append_right _ (List.mem_append_right _ (N7 hb e)))).1, fun b hb => ?_, w7⟩
   obtain ⟨o, e, d⟩ := T.obj _ _ st5 b hb
   exact (I7.pin (b, o) (List.mem_append_right _ (List.mem_append_right _ (N7 hb e)))).2.1
  cases f with
  | next => obtain ⟨σ7, H7, I7, n7⟩ := q7; exact again I7 n7
  | cont => obtain ⟨σ7, H7, I7, n7⟩ := q7; exact again I7 n7
  | brk => obtain ⟨σ7, H7, I7, q7⟩ := q7; exact ⟨σ7, H7, I7.unpinned, q7⟩
  | ret v => obtain ⟨x7, σ7, H7, I7, r7, q7⟩ := q7; exact ⟨x7, σ7, H7, I7.unpinned, r7, q7⟩
end
theorem A8a {lo : Int} {n : Nat} {g : TG} {tb : TS} {D : Ends} {σ : St} {H : Hp} (Pv : Nat -> St -> Hp -> Prop) (h0 : Pv 0 σ H)
  (hs : ∀ i σ H, i < n -> Pv i σ H -> g (.int (lo + i)) σ H fun σ2 H2 => tb { D with nx := Pv (i + 1), ct := Pv (i + 1), bk := D.nx } σ2 H2) (hd : ∀ σ H, Pv n σ H -> D.nx σ H) :
  ∃ W : Nat -> Nat -> St -> Hp -> Prop, (∃ m, W 0 m σ H) /\ ∀ i m σ H, W i m σ H ->
   ((Itr lo n).stop i H /\ D.nx σ H) \/ ((Itr lo n).go i H /\ ∃ N : St -> Hp -> Prop, (∀ σ' H', N σ' H' -> ∃ m', m' < m /\ W (i + 1) m' σ' H') /\ ∀ x H', (Itr lo n).yld i H x H' -> g x σ H' fun σ2 H2 => tb { D with nx := N, ct := N, bk := D.nx } σ2 H2) := by
 refine ⟨fun i m σ H => m = n - i /\ i <= n /\ Pv i σ H, ⟨n, by simp, Nat.zero_le _, h0⟩, ?_⟩
 rintro i m σ H ⟨rfl, hi, p⟩
 by_cases hlt : i < n
 ·refine .inr ⟨hlt, Pv (i + 1), fun σ' H' p' => ⟨n - (i + 1), by omega, rfl, hlt, p'⟩, fun x H' y => ?_⟩
  obtain ⟨e, y⟩ := y
  subst e y
  exact hs i σ _ hlt p
 ·have e : i = n := by omega
  subst e
  exact .inl ⟨Nat.le_refl _, hd σ H p⟩
end L2
namespace L2
open PySem PySem.Spec PyProof.Rows
abbrev R2 := V -> V -> Hp -> VK -> Prop
def OpR (X : Cx) (f : Value -> Value -> Sem Value) (r : R2) : Prop :=
 ∀ (pins : List (Addr × Obj)) (s : Shared) (σ : St) (H : Hp) (x y : V) (v u : Value) (Q : VK), Inv X pins σ H s -> RelV x v -> RelV y u -> r x y H Q ->
  wpAny (model X.prog X.w) X.A (f v u) (EP X pins σ Q) X.xe s
def UnR (X : Cx) (f : Value -> Sem Value) (r : V -> Hp -> VK -> Prop) : Prop :=
 ∀ (pins : List (Addr × Obj)) (s : Shared) (σ : St) (H : Hp) (x : V) (v : Value) (Q : VK), Inv X pins σ H s -> RelV x v -> r x H Q ->
  wpAny (model X.prog X.w) X.A (f v) (EP X pins σ Q) X.xe s
def CallR (X : Cx) (f : Value) (r : List V -> Hp -> VK -> Prop) : Prop :=
 ∀ (pins : List (Addr × Obj)) (s : Shared) (σ : St) (H : Hp) (xs : List V) (us : List Value) (Q : VK), Inv X pins σ H s -> Vals xs us -> r xs H Q ->
  wpAny (model X.prog X.w) X.A (call f us) (EP X pins σ Q) X.xe s
def tOp (r : R2) (ta tb : TE) : TE := fun σ H Q => ta σ H fun x H1 => tb σ H1 fun y H2 => r x y H2 Q
def tUn (r : V -> Hp -> VK -> Prop) (ta : TE) : TE := fun σ H Q => ta σ H fun x H1 => r x H1 Q
def rI (C : Int -> Int -> Prop) (g : Int -> Int -> V) : R2 := fun x y H Q => ∃ i j, x = .int i /\ y = .int j /\ C i j /\ Q (g i j) H
def rI0 (g : Int -> Int -> V) : R2 := fun x y H Q => ∃ i j, x = .int i /\ y = .int j /\ Q (g i j) H
def rU (g : Int -> V) : V -> Hp -> VK -> Prop := fun x H Q => ∃ i, x = .int i /\ Q (g i) H
section
variable {X : Cx} {a b c : Expr} {ta tb tc : TE} {pos : Pos}
theorem binT (ha : PE X a ta) (hb : PE X b tb) {pins : List (Addr × Obj)} {s : Shared} {σ : St} {H : Hp} {R : V -> V -> Hp -> Prop} (I : Inv X pins σ H s)
  (h : ta σ H fun x H1 => tb σ H1 fun y H2 => R x y H2) {Q : Value -> Shared -> Prop} {f : Value -> Value -> Sem Value}
  (hf : ∀ v u s2 x y H2, Inv X pins σ H2 s2 -> RelV x v -> RelV y u -> R x y H2 -> wpAny (model X.prog X.w) X.A (f v u) Q X.xe s2) :
  wpAny (model X.prog X.w) X.A (eval a X.env) (fun v s₁ => wpAny (model X.prog X.w) X.A (eval b X.env) (fun u s₂ => wpAny (model X.prog X.w) X.A (f v u) Q X.xe s₂) X.xe s₁) X.xe s := by
 refine thn (ha pins s σ H _ I h) fun v s1 ⟨x, H1, I1, r1, q1⟩ => ?_
 refine thn (hb pins s1 σ H1 _ I1 q1) fun u s2 ⟨y, H2, I2, r2, q2⟩ => ?_
 exact hf v u s2 x y H2 I2 r1 r2 q2
theorem K8 {op : Operator} {r : R2} (ho : OpR X (binaryOp op) r) (ha : PE X a ta) (hb : PE X b tb) : PE X (.BinOp a op b pos) (tOp r ta tb) := by
 intro pins s σ H Q I h
 exact wpAny_BinOp (binT ha hb I h fun v u s2 x y H2 I2 rx ry q => ho pins s2 σ H2 x y v u Q I2 rx ry q)
theorem B8z {op : UnaryOp} {r : V -> Hp -> VK -> Prop} (ho : UnR X (unaryOp op) r) (ha : PE X a ta) : PE X (.UnaryOp op a pos) (tUn r ta) := by
 intro pins s σ H Q I h
 exact UnaryOp_ (thn (ha pins s σ H _ I h) fun v s1 ⟨x, H1, I1, r1, q1⟩ => ho pins s1 σ H1 x v Q I1 r1 q1)
theorem opI {f : Value -> Value -> Sem Value} {C : Int -> Int -> Prop} {g : Int -> Int -> Int}
  (rule : ∀ (i j : Int) (t u : Tok) (s : Shared) (Q : Value -> Shared -> Prop) (E : Value -> Shared -> Prop), C i j -> Q (.int (g i j) s.toks) { s with toks := s.toks + 1 } -> wpAny (model X.prog X.w) X.A (f (.int i t) (.int j u)) Q E s) :
  OpR X f (rI C fun i j => .int (g i j)) := by
 intro pins s σ H x y v u Q I rx ry h
 obtain ⟨i, j, rfl, rfl, hc, q⟩ := h
 obtain ⟨t, rfl⟩ := rx
 obtain ⟨t', rfl⟩ := ry
 exact rule i j t t' s _ _ hc ⟨.int (g i j), H, I.tok _, ⟨_, rfl⟩, q⟩
theorem opI0 {f : Value -> Value -> Sem Value} {g : Int -> Int -> Int}
  (rule : ∀ (i j : Int) (t u : Tok) (s : Shared) (Q : Value -> Shared -> Prop) (E : Value -> Shared -> Prop), Q (.int (g i j) s.toks) { s with toks := s.toks + 1 } -> wpAny (model X.prog X.w) X.A (f (.int i t) (.int j u)) Q E s) :
  OpR X f (rI0 fun i j => .int (g i j)) := by
 intro pins s σ H x y v u Q I rx ry h
 obtain ⟨i, j, rfl, rfl, q⟩ := h
 obtain ⟨t, rfl⟩ := rx
 obtain ⟨t', rfl⟩ := ry
 exact rule i j t t' s _ _ ⟨.int (g i j), H, I.tok _, ⟨_, rfl⟩, q⟩
theorem opB0 {f : Value -> Value -> Sem Value} {g : Int -> Int -> Bool}
  (rule : ∀ (i j : Int) (t u : Tok) (s : Shared) (Q : Value -> Shared -> Prop) (E : Value -> Shared -> Prop), Q (.bool (g i j)) s -> wpAny (model X.prog X.w) X.A (f (.int i t) (.int j u)) Q E s) :
  OpR X f (rI0 fun i j => .bl (g i j)) := by
 intro pins s σ H x y v u Q I rx ry h
 obtain ⟨i, j, rfl, rfl, q⟩ := h
 obtain ⟨t, rfl⟩ := rx
 obtain ⟨t', rfl⟩ := ry
 exact rule i j t t' s _ _ ⟨.bl (g i j), H, I, rfl, q⟩
def CPow (i j : Int) : Prop := 0 <= j /\ j <= 1000000 /\ i.natAbs < 2 ^ 64
theorem G5 : OpR X (binaryOp .Add) (rI0 fun i j => .int (i + j)) := opI0 fun _ _ _ _ _ _ _ q => add_int q
theorem T3 : OpR X (binaryOp .Sub) (rI0 fun i j => .int (i - j)) := opI0 fun _ _ _ _ _ _ _ q => sub_int q
theorem O0 : OpR X (binaryOp .Mod) (rI (fun _ j => 0 < j) fun i j => .int (i % j)) := opI fun i j _ _ _ _ _ hc q => by
 have h1 : (0 : Int) < j := hc
 exact mod_int' (by omega) (by rw [Int.fmod_eq_emod_of_nonneg i (by omega)]; exact q)
theorem A6v : OpR X (binaryOp .Pow) (rI CPow fun i j => .int (i ^ j.toNat)) := opI fun _ _ _ _ _ _ _ hc q => pow_int_small hc.1 hc.2.1 hc.2.2 q
theorem unI {f : Value -> Sem Value} {g : Int -> Int}
  (rule : ∀ (i : Int) (t : Tok) (s : Shared) (Q : Value -> Shared -> Prop) (E : Value -> Shared -> Prop), Q (.int (g i) s.toks) { s with toks := s.toks + 1 } -> wpAny (model X.prog X.w) X.A (f (.int i t)) Q E s) :
  UnR X f (rU fun i => .int (g i)) := by
 intro pins s σ H x v Q I rx h
 obtain ⟨i, rfl, q⟩ := h
 obtain ⟨t, rfl⟩ := rx
 exact rule i t s _ _ ⟨.int (g i), H, I.tok _, ⟨_, rfl⟩, q⟩
theorem B0x : UnR X (unaryOp .USub) (rU fun i => .int (-i)) := unI fun _ _ _ _ _ q => neg_int q
end
section
variable {X : Cx} {a b c : Expr} {ta tb tc : TE} {pos : Pos}
theorem B2d {pins : List (Addr × Obj)} {σ : St} {H : Hp} {s : Shared} {Q : VK} {k k' : Bool} (I : Inv X pins σ H s) (q : Q (.bl k) H) (e : k = k') : EP X pins σ Q (.bool k') s := by
 subst e
 exact ⟨.bl k, H, I, rfl, q⟩
theorem A4b : OpR X (compareOp .Lt) (rI0 fun i j => .bl (decide (i < j))) := opB0 fun _ _ _ _ _ _ _ q => lt_int q
theorem T4 : OpR X (compareOp .Gt) (rI0 fun i j => .bl (decide (j < i))) := opB0 fun _ _ _ _ _ _ _ q => gt_int q
theorem B82 : OpR X (compareOp .GtE) (rI0 fun i j => .bl (decide (j <= i))) := opB0 fun _ _ _ _ _ _ _ q => ge_int q
theorem B6z : OpR X (compareOp .Is) (fun x y H Q => y = .non /\ Q (.bl (decide (x = .non))) H) := by
 intro pins s σ H x y v u Q I rx ry h
 obtain ⟨rfl, q⟩ := h
 cases ry
 refine is_none_gen (B2d I q ?_)
 cases x <;> first
  | (cases rx; rfl)
  | (obtain ⟨t, rfl⟩ := rx; rfl)
theorem B4c : OpR X (compareOp .IsNot) (fun x y H Q => y = .non /\ Q (.bl (!decide (x = .non))) H) := by
 intro pins s σ H x y v u Q I rx ry h
 obtain ⟨rfl, q⟩ := h
 cases ry
 refine isnot_none_gen (B2d I q ?_)
 cases x <;> first
  | (cases rx; rfl)
  | (obtain ⟨t, rfl⟩ := rx; rfl)
theorem C4 (b : Expr) {op : CmpOp} (h : op ≠ .In := by decide) (h2 : op ≠ .NotIn := by decide) : behindInMarks op b = false := by
 have e1 : (op == CmpOp.In) = false := by cases op <;> first | rfl | exact absurd rfl h
 have e2 : (op == CmpOp.NotIn) = false := by cases op <;> first | rfl | exact absurd rfl h2
 cases b <;> simp [behindInMarks, e1, e2]
theorem X7 {op : CmpOp} {r : R2} (ho : OpR X (compareOp op) r) (ha : PE X a ta) (hb : PE X b tb) (hm : behindInMarks op b = false) : PE X (.Compare a [op] [b] pos) (tOp r ta tb) := by
 intro pins s σ H Q I h
 exact wpAny_Compare1 (binT ha hb I h fun v u s2 x y H2 I2 rx ry q => ho pins s2 σ H2 x y v u Q I2 rx ry q) hm
def B2s (t : TE) : TT := fun σ H Q => t σ H fun x H' => ∃ k, x = .bl k /\ Q k H'
theorem A5f {op : CmpOp} {r : R2} (ho : OpR X (compareOp op) r) (ha : PE X a ta) (hb : PE X b tb) (hm : behindInMarks op b = false) : PT X (.Compare a [op] [b] pos) (B2s (tOp r ta tb)) := by
 intro pins s σ H Q I h
 refine wpAny_isTrue_Compare1 (thn (ha pins s σ H _ I h) fun v s1 ⟨x, H1, I1, r1, q1⟩ => thn (hb pins s1 σ H1 _ I1 q1) fun u s2 ⟨y, H2, I2, r2, q2⟩ =>
  thn (ho pins s2 σ H2 x y v u _ I2 r1 r2 q2) fun c s3 ⟨z, H3, I3, r3, k, e, q3⟩ => ?_) hm
 subst e
 cases r3
 exact wpAny_truthy_bool ⟨H3, I3, q3⟩
theorem V7 : (sizeLine : Nat) < 2 ^ 63 := by rw [sizeLine_eq]; decide
theorem A1m {x : V} {us : List Value} (r : Vals [x] us) : ∃ u, us = [u] /\ RelV x u := by
 cases r with
 | cons r1 r2 => cases r2; exact ⟨_, rfl, r1⟩
theorem B5l {x y : V} {us : List Value} (r : Vals [x, y] us) : ∃ u w', us = [u, w'] /\ RelV x u /\ RelV y w' := by
 cases r with
 | cons r1 r2 =>
  cases r2 with
  | cons r3 r4 => cases r4; exact ⟨_, _, rfl, r1, r3⟩
theorem B0l : CallR X (.builtin "abs") (fun xs H Q => ∃ i, xs = [.int i] /\ Q (.int (if i < 0 then -i else i)) H) := by
 intro pins s σ H xs us Q I r h
 obtain ⟨i, rfl, q⟩ := h
 obtain ⟨u, rfl, t, rfl⟩ := A1m r
 exact call_abs_int fun u tk => ⟨.int (if i < 0 then -i else i), H, I.tok _, ⟨_, rfl⟩, q⟩
theorem A8s (hc : X.calm = true) : CallR X (.builtin "max") (fun xs H Q => ∃ i j, xs = [.int i, .int j] /\ Q (.int (if j > i then j else i)) H) := by
 intro pins s σ H xs us Q I r h
 obtain ⟨i, j, rfl, q⟩ := h
 obtain ⟨u, w', rfl, ⟨t, rfl⟩, ⟨t', rfl⟩⟩ := B5l r
 refine max_two_ints (I.ok.hd hc) fun h' tk k => ⟨_, H, I.kept k, ?_, q⟩
 by_cases hj : j > i
 ·rw [if_pos hj, if_pos hj]; exact ⟨_, rfl⟩
 ·rw [if_neg hj, if_neg hj]; exact ⟨_, rfl⟩
theorem A8q (hc : X.calm = true) : CallR X (.builtin "min") (fun xs H Q => ∃ i j, xs = [.int i, .int j] /\ Q (.int (if j < i then j else i)) H) := by
 intro pins s σ H xs us Q I r h
 obtain ⟨i, j, rfl, q⟩ := h
 obtain ⟨u, w', rfl, ⟨t, rfl⟩, ⟨t', rfl⟩⟩ := B5l r
 refine min_two_ints (I.ok.hd hc) fun h' tk k => ⟨_, H, I.kept k, ?_, q⟩
 by_cases hj : j < i
 ·rw [if_pos hj, if_pos hj]; exact ⟨_, rfl⟩
 ·rw [if_neg hj, if_neg hj]; exact ⟨_, rfl⟩
theorem A1a : CallR X (.type "int") (fun xs H Q => (∃ i, xs = [.int i] /\ Q (.int i) H) \/ ∃ k, xs = [.bl k] /\ Q (.int (if k then 1 else 0)) H) := by
 intro pins s σ H xs us Q I r h
 rcases h with ⟨i, rfl, q⟩ | ⟨k, rfl, q⟩
 ·obtain ⟨u, rfl, t, rfl⟩ := A1m r
  exact call_int_int ⟨.int i, H, I, ⟨_, rfl⟩, q⟩
 ·obtain ⟨u, rfl, r1⟩ := A1m r
  cases r1
  exact call_int_bool ⟨.int (if k then 1 else 0), H, I.tok _, ⟨_, rfl⟩, q⟩
end
end L2
namespace L2
open PySem PySem.Spec PyProof.Rows
section
variable {prog : Program} {w : World} {A : Around} {E : Value -> Shared -> Prop} {s : Shared} {K : PySem.W.Frag} {x dx C f : Addr} {mA : Str -> Option Value} {name : Str} {v : Value}
end
theorem RelO.none_of {o : Option Value} (r : RelO none o) : o = none := by
 cases o with
 | none => rfl
 | some u => exact (show False from r).elim
section
variable {P : Program} {w : World} {H H' : Hp} {h h' : Heap} {a C dx : Addr} {fs fs' : List (Str × V)}
end
structure Cls (K : PySem.W.Frag) (C : Addr) : Prop where
 pg : PySem.W.plainGet K C Str.empty = true
 hd : PySem.W.hasDictIn K C = true
 po : PySem.W.plainOver K C = true
 sa : PySem.W.findIn K (.ref C) "__setattr__" = some (some (.builtin "object.__setattr__"))
theorem Cls.get {K : PySem.W.Frag} {C : Addr} (c : Cls K C) (f : Str) : PySem.W.plainGet K C f = true := c.pg
section
variable {X : Cx} {pins : List (Addr × Obj)} {σ : St} {H : Hp} {s : Shared} {a C dx : Addr} {fs : List (Str × V)} {f : Str} {v : V} {A : Around} {E : Value -> Shared -> Prop}
end
section
variable {X : Cx} {o e value : Expr} {f : Str} {pos pos' tpos : Pos} {ta tv : TE}
end
section
variable {X : Cx} {pins : List (Addr × Obj)} {σ : St} {H : Hp} {s : Shared} {A : Around} {E : Value -> Shared -> Prop} {Q : Value -> Shared -> Prop} {c : Value} {b : Bool}
end
end L2
namespace L2
open PySem PySem.Spec PyProof.Rows
structure Room (k : Nat) (A : Around) : Prop where
 hd : A.handled = none
 gd : A.guards = some []
 dp : A.depth + 3 * k + 5 < recursionLimit
 un : A.units + 16 * k + 200 < cLine
theorem Room.mono {j k : Nat} {A : Around} (r : Room k A) (h : j <= k) : Room j A := ⟨r.hd, r.gd, by have := r.dp; omega, by have := r.un; omega⟩
theorem Room.mo {j k : Nat} {A : Around} (r : Room k A) (h : j <= k := by first | decide | omega) : Room j A := r.mono h
theorem Room.deeper {k : Nat} {A : Around} (r : Room (k + 1) A) (env : Env) : Room k (A.deeper env) :=
 ⟨r.hd, r.gd, by have := r.dp; show A.depth + 1 + 3 * k + 5 < _; omega, by have := r.un; show A.units + 3 + 16 * k + 200 < _; omega⟩
theorem Room.depth {k : Nat} {A : Around} (r : Room k A) : A.depth < recursionLimit := by have := r.dp; omega
theorem Room.units {k : Nat} {A : Around} (r : Room k A) : A.units + 64 < cLine := by have := r.un; omega
def tNil : TA := fun _ H Q => Q [] H
def K6 (ta : TE) (tr : TA) : TA := fun σ H Q => ta σ H fun x H1 => tr σ H1 fun xs H2 => Q (x :: xs) H2
section
variable {X : Cx} {e : Expr} {es : List Expr} {te : TE} {t : TA} {pos : Pos}
theorem V3 : PA X [] tNil := fun _ _ _ _ H Q I h => Calls.spliced_nil ⟨[], H, I, .nil, h⟩
theorem O3 (ha : PE X e te) (hr : PA X es t) (hs : starEach (e :: es) X.env = (false, eval e X.env) :: starEach es X.env := by rfl) : PA X (e :: es) (K6 te t) := by
 intro pos pins s σ H Q I h
 rw [hs]
 show wpAny _ _ (spliced ((false, eval e X.env) :: backTo pos (starEach es X.env))) _ _ s
 refine Calls.spliced_cons (thn (ha pins s σ H _ I h) fun u s1 ⟨x, H1, I1, r1, q1⟩ => ?_)
 exact thn (hr pos pins s1 σ H1 _ I1 q1) fun us s2 ⟨xs, H2, I2, r2, q2⟩ => ⟨x :: xs, H2, I2, .cons r1 r2, q2⟩
def tTup (t : TA) : TE := fun σ H Q => t σ H fun xs H1 => xs.length <= sizeLine /\ ∀ p, H1 p = none -> Q (.ref p) (upd H1 p (.tup xs))
def tLst (t : TA) : TE := fun σ H Q => t σ H fun xs H1 => xs.length <= sizeLine /\ ∀ p, H1 p = none -> Q (.ref p) (upd H1 p (.lst xs))
theorem B6k {x1} (h : PA X es t) : PE X (.Tuple es x1 pos) (tTup t) := by
 intro pins s σ H Q I hq
 refine wpAny_Tuple_spliced (thn (h pos pins s σ H _ I hq) fun us s1 ⟨xs, H1, I1, r, z, q⟩ => ⟨by rw [<- r.length]; exact z, ?_⟩)
 have hf : H1 s1.heap.objs.size = none := I1.hok.fresh (Nat.le_refl _)
 refine ⟨.ref s1.heap.objs.size, upd H1 s1.heap.objs.size (.tup xs), I1.laid (t' := s1.toks) (fun b u e => Heap.get?_push_of_some _ e) (Nat.le_refl _) ?_, rfl, q _ hf⟩
 exact ⟨z, us, r, ⟨_, Heap.get?_push_size _ rfl, rfl, _, rfl⟩⟩
theorem A5y (h : PA X es t) : PE X (.List es pos) (tLst t) := by
 intro pins s σ H Q I hq
 refine wpAny_List_spliced (thn (h pos pins s σ H _ I hq) fun us s1 ⟨xs, H1, I1, r, z, q⟩ => ⟨by rw [<- r.length]; exact z, ?_⟩)
 have hf : H1 s1.heap.objs.size = none := I1.hok.fresh (Nat.le_refl _)
 refine ⟨.ref s1.heap.objs.size, upd H1 s1.heap.objs.size (.lst xs), I1.laid (t' := s1.toks) (fun b u e => Heap.get?_push_of_some _ e) (Nat.le_refl _) ?_, rfl, q _ hf⟩
 exact ⟨z, us, 0, r, Heap.get?_push_size _ rfl⟩
end
abbrev Sp := List V -> Hp -> VK -> XK -> Prop
abbrev CXT := List Env -> Hp -> Shared -> XK -> Value -> Shared -> Prop
structure Env0 (P : Program) (w : World) (K : PySem.W.Frag) (mg : Str -> Option Value) (base : Heap) (A : Around) (outer : List Env) (s : Shared) (H : Hp) : Prop where
 frames : A.frames = some outer
 mod : Mod K mg base
 bs : ∀ b o, base.get? b = some o -> s.heap.get? b = some o /\ H b = none
 bsz : base.objs.size <= s.heap.objs.size
 funs : s.heap.FunFrames base outer
 frf : ∀ b ∈ frs outer, H b = none
 hok : HOk P w H s.heap
 bare : AllBare s.gens
def CE (outer : List Env) (P : Program) (w : World) (H : Hp) (s : Shared) (Q : VK) (u : Value) (s' : Shared) : Prop :=
 ∃ v H', s'.os = s.os /\ AllBare s'.gens /\ Un (frs outer) [] H H' s.heap s'.heap /\ HOk P w H' s'.heap /\ RelV v u /\ Q v H'
def CR (CX : CXT) (outer : List Env) (P : Program) (w : World) (H : Hp) (s : Shared) (Q : VK) (E : XK) (r : Result) (s' : Shared) : Prop :=
 match r with
 | .ok (.ret u) => CE outer P w H s Q u s'
 | .ok _ => False
 | .error e => CX outer H s E e s'
structure FnOk (P : Program) (w : World) (K : PySem.W.Frag) (mg : Str -> Option Value) (base : Heap) (CX : CXT) (k : Nat) (f : Addr) (fd : FuncData) (ps : List Str) (sp : Sp) : Prop where
 len : ∀ vs H Q E, sp vs H Q E -> vs.length = ps.length
 run : ∀ (A : Around) (outer : List Env) (s : Shared) (H : Hp) (args : Args) (us : List Value) (vs : List V) (Q : VK) (E : XK), Room k A -> Env0 P w K mg base A outer s H -> BindsTo s fd args (ps.zip us) -> Vals vs us -> sp vs H Q E ->
  codeAny (model P w) A (.call (.ref f) args) (CR CX outer P w H s Q E) s
theorem FnOk.imp {P : Program} {w : World} {K : PySem.W.Frag} {mg : Str -> Option Value} {base : Heap} {CX : CXT} {k : Nat} {f : Addr} {fd : FuncData} {ps : List Str} {sp sp' : Sp} (F : FnOk P w K mg base CX k f fd ps sp)
  (h : ∀ vs H Q E, sp' vs H Q E -> sp vs H Q E) : FnOk P w K mg base CX k f fd ps sp' :=
 ⟨fun vs H Q E q => F.len vs H Q E (h _ _ _ _ q), fun A outer s H args us vs Q E hr he hb hv hs => F.run A outer s H args us vs Q E hr he hb hv (h _ _ _ _ hs)⟩
section
variable {X : Cx} {pins : List (Addr × Obj)} {σ : St} {H : Hp} {s s' : Shared}
theorem Inv.env0 (I : Inv X pins σ H s) : Env0 X.prog X.w X.K X.mg X.base X.A X.stack s H :=
 ⟨I.ok.frames, I.ok.mod, I.bs, Nat.le_trans I.ok.bsz I.sz, I.stack, I.stkFree, I.hok, I.bare⟩
theorem Inv.after {Q : VK} {u : Value} (I : Inv X pins σ H s) (h : CE X.stack X.prog X.w H s Q u s') : EP X pins σ Q u s' := by
 obtain ⟨v, H', os, bare, un, hok, r, q⟩ := h
 obtain ⟨hh, g, d, t, os'⟩ := s'
 obtain rfl : os' = s.os := os
 exact ⟨v, H', I.call (h' := hh) (g' := g) (d' := d) (t' := t) (ch := []) un hok bare (fun b z => absurd z (by simp)), r, q⟩
end
def A1o (sp : Sp) (dvs : List V) (E : XK) (t : TA) : TE := fun σ H Q => t σ H fun vs H1 => sp (vs ++ dvs) H1 Q E
def Binds (K : PySem.W.Frag) (fd : FuncData) (ps : List Str) (ds : List Value) : Prop :=
 ∀ (s : Shared) (us : List Value), K.In s.heap -> (us ++ ds).length = ps.length -> BindsTo s fd ⟨us, []⟩ (ps.zip (us ++ ds))
theorem Binds.all {K : PySem.W.Frag} {fd : FuncData} {ps : List Str} (h : ∀ us : List Value, us.length = ps.length -> bindArgs fd ⟨us, []⟩ = pure (ps.zip us)) : Binds K fd ps [] := fun s us _ hl => by
 rw [List.append_nil] at hl ⊢
 exact .of_eq (h us hl)
def A30 (CX : CXT) (X : Cx) (E : XK) : Prop := ∀ (pins : List (Addr × Obj)) (σ : St) (H : Hp) (s : Shared) (e : Value) (s' : Shared), Inv X pins σ H s -> CX X.stack H s E e s' -> X.xe e s'
section
variable {X : Cx} {CX : CXT} {k : Nat} {f C : Addr} {fd : FuncData} {ps : List Str} {sp : Sp} {dvs : List V} {ds : List Value} {E : XK} {x m : Str} {p pos apos : Pos} {e o : Expr} {es : List Expr} {ta : TE} {t : TA}
theorem B51 {pins : List (Addr × Obj)} {σ : St} {H : Hp} {s : Shared} {Q : VK} {us : List Value} {vs : List V} (F : FnOk X.prog X.w X.K X.mg X.base CX k f fd ps sp) (hr : Room k X.A) (hb : Binds X.K fd ps ds) (hd : Vals dvs ds) (hx : A30 CX X E)
  (I : Inv X pins σ H s) (r : Vals vs us) (h : sp (vs ++ dvs) H Q E) : wpAny (model X.prog X.w) X.A (call (.ref f) us) (EP X pins σ Q) X.xe s := by
 have r2 : Vals (vs ++ dvs) (us ++ ds) := r.append hd
 have hl : (us ++ ds).length = ps.length := by rw [<- r2.length]; exact F.len _ _ _ _ h
 refine wpAny_call (codeAny_mono (F.run X.A X.stack s H ⟨us, []⟩ (us ++ ds) (vs ++ dvs) Q E hr I.env0 (hb s us I.kIn hl) r2 h) fun r s' hq => ?_)
 cases r with
 | error e => exact hx pins σ H s e s' I hq
 | ok fl =>
  cases fl with
  | ret u => exact I.after hq
  | next => exact False.elim hq
  | brk => exact False.elim hq
  | cont => exact False.elim hq
theorem B3o (F : FnOk X.prog X.w X.K X.mg X.base CX k f fd ps sp) (hr : Room k X.A) (hg : Gl X x) (hm : X.mg x = some (.ref f)) (hk : PySem.W.keepIn X.K (.ref f) = true) (hb : Binds X.K fd ps ds) (hd : Vals dvs ds) (hx : A30 CX X E)
  (ha : PA X (e :: es) t) (hdb : (x == ("__debug__" : Str)) = false := by decide) (he : starEach (e :: es) X.env = (false, eval e X.env) :: starEach es X.env := by rfl) (hpl : (backTo pos (starEach es X.env)).any (·.1) = false := by rfl) :
  PE X (.Call (.Name x p) (e :: es) [] pos) (A1o sp dvs E t) := by
 intro pins s σ H Q I h
 refine wpAny_Call_Name_kw (A7s I hg hm ?_ hdb)
 refine PySem.W.callWith_K (h₀ := X.base) I.ok.mod.kin hk (thn (ha pos pins s σ H _ I h) fun us s1 ⟨vs, H1, I1, r, q⟩ => ⟨I1.kIn, ?_⟩) he hpl
 exact B51 F hr hb hd hx I1 r q
end
section
variable {X : Cx} {CX : CXT} {k : Nat} {f C : Addr} {fd : FuncData} {ps ks : List Str} {sp : Sp} {E : XK} {x m : Str} {p pos apos kpos : Pos} {e o : Expr} {es : List Expr} {kws : List Keyword} {te ta : TE} {t tk : TA} {nm : Option Str}
variable {g : List Value -> List Value -> List Value} {gV : List V -> List V -> List V}
end
structure FnScope (N P : List Str) (sc : Scope) : Prop where
 kind : sc.kind = .function
 co : sc.isCoroutine = false
 gen : sc.isGenerator = false
 nd : N.Nodup
 pre : N.take P.length = P
 par : ∀ x ∈ P, sc.names.lookup x = some .local \/ sc.names.lookup x = some .cell
 nofree : ∀ y ∈ sc.names, y.2 ≠ .free
theorem A1d {kindOf : Str -> Option NameKind} {x : Str} : ∀ {binds : List (Str × Value)} {m : Str -> Option Value}, (∀ v, (x, v) ∉ binds) -> bindL kindOf binds m x = m x
 | [], _, _ => rfl
 | (n, v) :: r, m, h => by
  unfold bindL
  rw [A1d fun w hw => h w (List.mem_cons_of_mem _ hw)]
  split
  ·have : x ≠ n := by rintro rfl; exact h v List.mem_cons_self
   simp [this]
  ·rfl
theorem A1f {kindOf : Str -> Option NameKind} {x : Str} : ∀ {binds : List (Str × Value)} {m : Str -> Option Value}, (∀ v, (x, v) ∉ binds) -> bindC kindOf binds m x = m x
 | [], _, _ => rfl
 | (n, v) :: r, m, h => by
  unfold bindC
  rw [A1f fun w hw => h w (List.mem_cons_of_mem _ hw)]
  split
  ·rfl
  ·have : x ≠ n := by rintro rfl; exact h v List.mem_cons_self
   simp [this]
theorem A1e {kindOf : Str -> Option NameKind} {x : Str} {v : Value} : ∀ {P : List Str} {vs : List Value} {i : Nat} {m : Str -> Option Value}, P.Nodup -> P[i]? = some x -> vs[i]? = some v -> kindOf x = some .local ->
  bindL kindOf (P.zip vs) m x = some v
 | [], _, _, _, _, h, _, _ => by simp at h
 | _ :: _, [], _, _, _, _, h, _ => by simp at h
 | p :: P, w :: vs, 0, m, nd, h1, h2, hk => by
  simp at h1 h2; subst h1; subst h2
  show bindL kindOf ((p, w) :: P.zip vs) m p = _
  unfold bindL
  rw [A1d fun v hv => (List.nodup_cons.mp nd).1 (List.of_mem_zip hv).1, if_pos hk]
  simp
 | p :: P, w :: vs, i + 1, m, nd, h1, h2, hk => by
  show bindL kindOf ((p, w) :: P.zip vs) m x = _
  unfold bindL
  exact A1e (i := i) (List.nodup_cons.mp nd).2 (by simpa using h1) (by simpa using h2) hk
theorem A1g {kindOf : Str -> Option NameKind} {x : Str} {v : Value} : ∀ {P : List Str} {vs : List Value} {i : Nat} {m : Str -> Option Value}, P.Nodup -> P[i]? = some x -> vs[i]? = some v -> kindOf x ≠ some .local ->
  bindC kindOf (P.zip vs) m x = some v
 | [], _, _, _, _, h, _, _ => by simp at h
 | _ :: _, [], _, _, _, _, h, _ => by simp at h
 | p :: P, w :: vs, 0, m, nd, h1, h2, hk => by
  simp at h1 h2; subst h1; subst h2
  show bindC kindOf ((p, w) :: P.zip vs) m p = _
  unfold bindC
  rw [A1f fun v hv => (List.nodup_cons.mp nd).1 (List.of_mem_zip hv).1, if_neg hk]
  simp
 | p :: P, w :: vs, i + 1, m, nd, h1, h2, hk => by
  show bindC kindOf ((p, w) :: P.zip vs) m x = _
  unfold bindC
  exact A1g (i := i) (List.nodup_cons.mp nd).2 (by simpa using h1) (by simpa using h2) hk
def start (N : List Str) (vs : List V) : St := vs.map some ++ List.replicate (N.length - vs.length) none
def cxOf (CX : CXT) (P : Program) (w : World) (K : PySem.W.Frag) (mg : Str -> Option Value) (base : Heap) (N : List Str) (qual : Str) (scope : Scope) (f : Addr) (cd : Value) (A : Around) (outer : List Env) (s : Shared) (H : Hp) (E : XK) : Cx where
 prog := P
 w := w
 K := K
 mg := mg
 base := base
 A := A.deeper (envOfC qual scope s.heap.objs.size f cd)
 N := N
 s₀ := s
 H₀ := H
 env := envOfC qual scope s.heap.objs.size f cd
 outer := outer
 stack := envOfC qual scope s.heap.objs.size f cd :: outer
 ex := []
 calm := true
 fn := fun _ => true
 pn := []
 xe := fun e s' => wpAny (model P w) (A.deeper (envOfC qual scope s.heap.objs.size f cd)) (leaving (envOfC qual scope s.heap.objs.size f cd) e) (fun _ s'' => CX outer H s E e s'') (fun e' s'' => CX outer H s E e' s'') s'
theorem A3r {sc : Scope} {n : Nat} {x : Str} (h : sc.names.lookup x = some .cell) : ∃ c, (cellsFrom n sc.names []).lookup x = some c := by
 have q := PySem.W.cellsFrom_some sc.names n [] (.inl h)
 exact Option.isSome_iff_exists.mp q
theorem A75 {CX : CXT} {P : Program} {w : World} {K : PySem.W.Frag} {mg : Str -> Option Value} {base : Heap} {N ps : List Str} {qual : Str} {scope : Scope} {f : Addr} {cd : Value} {A : Around} {outer : List Env} {s s1 : Shared} {H : Hp} {E : XK} {us : List Value} {vs : List V}
  (S : FnScope N ps scope) (hd : A.handled = none) (e0 : Env0 P w K mg base A outer s H) (hl : vs.length = ps.length) (r : Vals vs us)
  (x : InCallC s s.heap.objs.size (bindL (envOfC qual scope s.heap.objs.size f cd).kindOf (ps.zip us) fun _ => none) (cellsFrom (s.heap.objs.size + 1) scope.names []) (bindC (envOfC qual scope s.heap.objs.size f cd).kindOf (ps.zip us) fun _ => none) s1) :
  Inv (cxOf CX P w K mg base N qual scope f cd A outer s H E) [] (start N vs) H s1 := by
 have hpl : ps.length <= N.length := by have := congrArg List.length S.pre; rw [List.length_take] at this; omega
 obtain ⟨h1, tk, rfl, hk⟩ := x.done
 have noA : ∀ b : Addr, b ∉ (cxOf CX P w K mg base N qual scope f cd A outer s H E).ex := fun b z => absurd (show b ∈ ([] : List Addr) from z) (by simp)
 refine ⟨⟨e0.mod, S.kind, rfl, rfl, Nat.le_refl _, fun y z c h1 h2 => ?_, fun y hy => ?_, fun y c _ h => ?_, fun _ => hd, Around.frames_deeper e0.frames, .inr ⟨rfl, rfl⟩, fun b z => absurd z (noA b), e0.bs, e0.bsz, fun b _ _ => noA b, fun b z => absurd z (noA b), e0.funs, e0.frf⟩,
  rfl, e0.bare, Un.kept hk, ⟨_, x.toInCall.ns, fun i y v h1 h2 h3 => ?_⟩, fun y c h => ⟨_, x.cell y c h⟩, e0.hok.fresh (Nat.le_refl _), fun y c h => ?_, fun p hp => absurd (show p ∈ ([] : List (Addr × Obj)) from hp) (by simp), e0.hok.kept hk, ?_⟩
 ·exact name_of_addr x.apart (PySem.mem_of_lookup h1) (PySem.mem_of_lookup h2)
 ·have hy : scope.names.lookup y = some .cell \/ scope.names.lookup y = some .free := hy
  rcases hy with hy | hy
  ·exact A3r hy
  ·exact absurd rfl (S.nofree _ (PySem.mem_of_lookup hy))
 ·exact Nat.le_of_lt (x.above y c (PySem.mem_of_lookup h))
 ·have hi : i < vs.length := by
   unfold start at h2
   by_cases hi : i < vs.length
   ·exact hi
   ·rw [List.getElem?_append_right (by simpa using hi)] at h2
    rw [List.getElem?_replicate] at h2
    split at h2 <;> cases h2
  have ha : vs[i]? = some v := by
   unfold start at h2
   rw [List.getElem?_append_left (by simpa using hi), List.getElem?_map] at h2
   cases e : vs[i]? with
   | none => rw [e] at h2; cases h2
   | some a => rw [e] at h2; cases h2; rfl
  obtain ⟨u, hu, rv⟩ := r.get ha
  have hp : ps[i]? = some y := by
   rw [<- S.pre, List.getElem?_take_of_lt (by omega)]; exact h1
  have ndP : ps.Nodup := by rw [<- S.pre]; exact S.nd.sublist (List.take_sublist _ _)
  refine ⟨u, rv, ?_⟩
  rcases S.par y (List.mem_of_getElem? hp) with k | k
  ·exact .inl ⟨k, A1e ndP hp hu k⟩
  ·obtain ⟨c, e⟩ := A3r (n := s.heap.objs.size + 1) k
   refine .inr ⟨.inl k, c, e, ?_⟩
   have q := x.cell y c e
   rw [A1g ndP hp hu (by show scope.names.lookup y ≠ _; rw [k]; decide)] at q
   exact q
 ·exact e0.hok.fresh (Nat.le_of_lt (x.above y c (PySem.mem_of_lookup h)))
 ·unfold start
  show _ = N.length
  rw [List.length_append, List.length_map, List.length_replicate]
  omega
theorem B85 {CX : CXT} {P : Program} {w : World} {K : PySem.W.Frag} {mg : Str -> Option Value} {base : Heap} {k : Nat} {f : Addr} {name qual : Str} {params : Arguments} {body : List Stmt} {scope : Scope} {dV kV doc pm cdv ct oc : Value} {an od : Option Addr}
  {osl : Array (Option Value)} {N ps : List Str} {sp : Sp} (lk : K.lookup f = some ⟨oc, od, .func (PySem.W.fnOf name qual params body scope dV kV doc pm an cdv ct), osl⟩) (hcd : PySem.W.codeIn K cdv qual = true) (S : FnScope N ps scope)
  (len : ∀ vs H Q E, sp vs H Q E -> vs.length = ps.length)
  (hbody : ∀ (A : Around) (outer : List Env) (s : Shared) (H : Hp) (vs : List V) (Q : VK) (E : XK), Room k (A.deeper (envOfC qual scope s.heap.objs.size f cdv)) -> sp vs H Q E ->
   ∃ t, PSs (cxOf CX P w K mg base N qual scope f cdv A outer s H E) body t /\ t { nx := fun _ H' => Q .non H', rt := Q } (start N vs) H) :
  FnOk P w K mg base CX (k + 1) f (PySem.W.fnOf name qual params body scope dV kV doc pm an cdv ct) ps sp := by
 refine ⟨len, fun A outer s H args us vs Q E hr e0 hb r hsp => ?_⟩
 have hl := len _ _ _ _ hsp
 have KX : K.In s.heap := e0.mod.kin.keeps fun b o e => (e0.bs b o e).1
 have lim : s.heap.NoLimit := e0.mod.nolimit.keeps fun b o e => (e0.bs b o e).1
 have hkind : ∀ y ∈ ps.zip us, scope.names.lookup y.1 = some .local \/ (scope.names.lookup y.1 = some .cell /\ ((cellsFrom (s.heap.objs.size + 1) scope.names []).lookup y.1).isSome = true) := fun ⟨n, v⟩ hy => by
  rcases S.par n (List.of_mem_zip hy).1 with q | q
  ·exact .inl q
  ·exact .inr ⟨q, PySem.W.cellsFrom_some _ _ _ (.inl q)⟩
 refine codeAny_call_function hr.depth (KX _ _ lk) rfl S.co S.gen rfl (PySem.W.codeRec_of KX hcd) (hb _ _ _ _ ?_)
 refine wpAny_newFunctionEnv_cells S.kind hkind fun env he s1 x => ?_
 subst he
 refine ⟨lim.keeps x.toInCall.keep, codeAny_func ?_⟩
 obtain ⟨t, ht, hq⟩ := hbody A outer s H vs Q E (hr.deeper _) hsp
 have I : Inv (cxOf CX P w K mg base N qual scope f cdv A outer s H E) [] (start N vs) H s1 := A75 S hr.hd e0 hl r x
 refine wpAny_mono (ht [] s1 (start N vs) H _ I hq) (fun fl s' hs => ?_) fun e s' hs => hs
 have fin : ∀ {σ' : St} {H' : Hp} {v : V} {u : Value}, Inv (cxOf CX P w K mg base N qual scope f cdv A outer s H E) [] σ' H' s' -> RelV v u -> Q v H' -> CE outer P w H s Q u s' :=
  fun {σ' H' v u} J rv q => ⟨v, H', J.os, J.bare, J.base, J.hok, rv, q⟩
 cases fl with
 | ret u =>
  obtain ⟨v, σ', H', J, rv, q⟩ := hs
  exact fin J rv q
 | next =>
  obtain ⟨σ', H', J, q⟩ := hs
  exact fin (v := V.non) (u := Value.none) J rfl q
 | brk =>
  obtain ⟨_, _, _, q⟩ := hs
  exact False.elim q
 | cont =>
  obtain ⟨_, _, _, q⟩ := hs
  exact False.elim q
end L2
namespace L2
open PySem PySem.Spec PyProof.Rows
section
variable {X : Cx} {x : Str} {p pos : Pos} {e : Expr} {es : List Expr} {t : TA} {id T : String} {r : List V -> Hp -> VK -> Prop}
def tCB (r : List V -> Hp -> VK -> Prop) (t : TA) : TE := fun σ H Q => t σ H fun vs H1 => r vs H1 Q
theorem A21 (hc : CallR X (.builtin id) r) (hg : Gl X x) (hm : X.mg x = none) (hv : bootBuiltins x = some (.builtin id)) (ha : PA X (e :: es) t) (hn : x ≠ "__name__" := by decide) (hdb : (x == ("__debug__" : Str)) = false := by decide)
  (he : starEach (e :: es) X.env = (false, eval e X.env) :: starEach es X.env := by rfl) (hpl : (backTo pos (starEach es X.env)).any (·.1) = false := by rfl) : PE X (.Call (.Name x p) (e :: es) [] pos) (tCB r t) := by
 intro pins s σ H Q I h
 refine wpAny_Call_Name_kw (V8 I hg hm hv ?_ hn hdb)
 exact PyProof.Rows.callWith_builtin1 (thn (ha pos pins s σ H _ I h) fun us s1 ⟨vs, H1, I1, r1, q1⟩ => hc pins s1 σ H1 vs us Q I1 r1 q1) he hpl
theorem A0i (hc : CallR X (.type T) r) (hg : Gl X x) (hm : X.mg x = none) (hv : bootBuiltins x = some (.type T)) (ha : PA X (e :: es) t) (hn : x ≠ "__name__" := by decide) (hdb : (x == ("__debug__" : Str)) = false := by decide)
  (he : starEach (e :: es) X.env = (false, eval e X.env) :: starEach es X.env := by rfl) (hpl : (backTo pos (starEach es X.env)).any (·.1) = false := by rfl) : PE X (.Call (.Name x p) (e :: es) [] pos) (tCB r t) := by
 intro pins s σ H Q I h
 refine wpAny_Call_Name_kw (V8 I hg hm hv ?_ hn hdb)
 exact PyProof.Rows.callWith_type1 (thn (ha pos pins s σ H _ I h) fun us s1 ⟨vs, H1, I1, r1, q1⟩ => hc pins s1 σ H1 vs us Q I1 r1 q1) he hpl
end
end L2
namespace HT
open PySem PyProof.Rows
section
open PySem.SeqAt
open PySem.AutoSeq1 (wpAny_loadPart')
open PySem.MeetsSeq PySem.MeetsSeq2 PySem.MeetsSeq3
end
section
variable {prog : Program} {w : World} {A : Around} {E : Value -> Shared -> Prop} {s : Shared}
def sIx (n d : Nat) : Option Int -> Nat
 | none => d
 | some v => if v < 0 then (v + (n : Int)).toNat else min v.toNat n
theorem sIx_none (n d : Nat) : sIx n d none = d := rfl
theorem sIx_nat (n d k : Nat) : sIx n d (some (k : Int)) = min k n := by
 show (if (k : Int) < 0 then ((k : Int) + (n : Int)).toNat else min (k : Int).toNat n) = min k n
 rw [if_neg (by omega), Int.toNat_natCast]
theorem B50 (n d : Nat) (hd : d <= n) (o : Option Int) : sIx n d o <= n := by
 cases o with
 | none => exact hd
 | some v =>
  show (if v < 0 then (v + (n : Int)).toNat else min v.toNat n) <= n
  by_cases hv : v < 0
  ·rw [if_pos hv]; omega
  ·rw [if_neg hv]; exact Nat.min_le_right _ _
theorem A8m (v : Int) (n d : Nat) : (if v < 0 then max (v + (n : Int)) 0 else min v (n : Int)) = ((sIx n d (some v) : Nat) : Int) := by
 show (if v < 0 then max (v + (n : Int)) 0 else min v (n : Int)) = (((if v < 0 then (v + (n : Int)).toNat else min v.toNat n) : Nat) : Int)
 by_cases hv : v < 0
 ·simp only [if_pos hv]; omega
 ·simp only [if_neg hv]; omega
theorem A4o (lo hi : Option Int) (n : Nat) : Builtin.Slice.sliceAdjust lo hi 1 (n : Int) = (((sIx n 0 lo : Nat) : Int), ((sIx n n hi : Nat) : Int)) := by
 have h1 : ¬ ((1 : Int) < 0) := by omega
 unfold Builtin.Slice.sliceAdjust
 simp only [h1, if_false]
 refine Prod.ext ?_ ?_
 ·cases lo with
  | none => rfl
  | some v => exact A8m v n 0
 ·cases hi with
  | none => rfl
  | some v => exact A8m v n n
theorem A4a (i j : Nat) : Builtin.Slice.slicePlaces (i : Int) (j : Int) 1 = j - i := by
 unfold Builtin.Slice.slicePlaces
 have h1 : (1 : Int) > 0 := by omega
 simp only [h1, if_true, Int.ediv_one]
 split <;> omega
theorem V0 {v : Value} {o : Option Int} {Q : Option Int -> Shared -> Prop} (p : IsPart v o) (h : Q o s) : wpAny (model prog w) A (Builtin.Slice.slicePartIndex v) Q E s := by
 cases p with
 | none => exact slicePart_none h
 | int i t => exact slicePart_int h
theorem R4 {sl : Addr} {vl vu : Value} {lo hi : Option Int} {n : Nat} {Q : Int × Int × Nat -> Shared -> Prop} (hs : s.heap.IsSliceOf sl vl vu .none) (pl : IsPart vl lo) (pu : IsPart vu hi)
  (h : Q (((sIx n 0 lo : Nat) : Int), 1, sIx n n hi - sIx n 0 lo) s) : wpAny (model prog w) A (Builtin.Slice.sliceApplied (.ref sl) (pure (n : Int))) Q E s := by
 obtain ⟨os, hos, hcs, hds⟩ := id hs
 unfold Builtin.Slice.sliceApplied Builtin.Slice.sliceFields
 refine wpAny_bind (wpAny_bind (wpAny_field hos hds (x := vl) rfl (wpAny_bind (wpAny_field hos hds (x := vu) rfl (wpAny_bind (wpAny_field hos hds (x := .none) rfl (wpAny_pure ?_)))))))
 refine wpAny_bind (slicePart_none ?_)
 show wpAny _ _ (if ((1 : Int) == 0) = true then _ else _) _ _ s
 rw [if_neg (by decide)]
 refine wpAny_bind (V0 pl (wpAny_bind (V0 pu (wpAny_bind (wpAny_pure ?_)))))
 show wpAny _ _ (match Builtin.Slice.sliceAdjust lo hi 1 (n : Int) with | (lo, hi) => pure (lo, (1 : Int), Builtin.Slice.slicePlaces lo hi 1)) _ _ s
 rw [A4o lo hi n]
 show wpAny _ _ (pure (((sIx n 0 lo : Nat) : Int), (1 : Int), Builtin.Slice.slicePlaces ((sIx n 0 lo : Nat) : Int) ((sIx n n hi : Nat) : Int) 1)) _ _ s
 rw [A4a]
 exact wpAny_pure h
theorem A9l (xs : Array Value) (i k : Nat) : ((List.range k).filterMap fun (m : Nat) => xs[((i : Int) + (m : Int) * 1).toNat]?).toArray = ((xs.toList.drop i).take k).toArray := by
 have e : (fun (m : Nat) => xs[((i : Int) + (m : Int) * 1).toNat]?) = fun m => xs[i + m]? := by
  funext m
  have : ((i : Int) + (m : Int) * 1).toNat = i + m := by omega
  rw [this]
 rw [e]
 have := pick_run xs i k
 rw [List.filterMap_map] at this
 have e2 : ((fun x => xs[x]?) ∘ fun x => i + x) = fun m => xs[i + m]? := rfl
 rw [e2] at this
 rw [this]
theorem getItem_tuple_cut {t sl : Addr} {items : Array Value} {vl vu : Value} {lo hi : Option Int} {Q : Value -> Shared -> Prop} (ht : IsTup s.heap t items) (hs : s.heap.IsSliceOf sl vl vu .none) (pl : IsPart vl lo) (pu : IsPart vu hi)
  (hw : ¬ (sIx items.size 0 lo = 0 /\ sIx items.size items.size hi = items.size))
  (h : Q (.ref s.heap.objs.size) { s with heap := s.heap.push { cls := .type "tuple", data := .seq ((items.toList.drop (sIx items.size 0 lo)).take (sIx items.size items.size hi - sIx items.size 0 lo)).toArray } })
  (hsz : items.size <= sizeLine) : wpAny (model prog w) A (getItem (.ref t) (.ref sl)) Q E s := by
 have htake : sizeOk (.seq ((items.toList.drop (sIx items.size 0 lo)).take (sIx items.size items.size hi - sIx items.size 0 lo)).toArray) := by
  show ((items.toList.drop (sIx items.size 0 lo)).take (sIx items.size items.size hi - sIx items.size 0 lo)).toArray.size <= sizeLine
  rw [List.size_toArray, List.length_take, List.length_drop, Array.length_toList]
  omega
 have hj : sIx items.size items.size hi <= items.size := B50 _ _ (Nat.le_refl _) hi
 obtain ⟨os, hos, hcs, hds⟩ := id hs
 have hTs : s.TypeIs (.ref sl) "slice" := ⟨os, hos, hcs⟩
 unfold getItem
 try with_reducible refine wpAny_holding ?_
 first | refine wpAny_bind (wpAny_pure ?_) | skip
 refine wpAny_bind (wpAny_sequenceKey ht.typeIs (by decide) ?_)
 refine wpAny_bind (wpAny_callSpecial?_slot (name := Str.ofString "__getitem__") ht.typeIs PyProof.Rows.slot_tuple_getitem
  (wpAny_call_entry PyProof.Rows.slot_tuple_getitem ht.typeIs entry_tuple_getitem ?_ (args_tuple_getitem _ _)))
 show wpAny _ _ (Builtin.Tuple.tupleItemsOf (.ref t) >>= _) _ _ s
 refine wpAny_bind (tupleItemsOf_ ht ?_)
 refine wpAny_bind (wpAny_typeOf hTs ?_)
 rw [if_pos (by decide)]
 refine wpAny_bind (R4 hs pl pu ?_)
 have hno : ¬ ((((sIx items.size 0 lo : Nat) : Int) == 0 && (1 : Int) == 1 && (sIx items.size items.size hi - sIx items.size 0 lo) == items.size) = true) := by
  intro q
  rw [Bool.and_eq_true, Bool.and_eq_true] at q
  have q1 : ((sIx items.size 0 lo : Nat) : Int) = 0 := eq_of_beq q.1.1
  have q2 : sIx items.size items.size hi - sIx items.size 0 lo = items.size := eq_of_beq q.2
  exact hw ⟨by omega, by omega⟩
 show wpAny _ _ (if (((sIx items.size 0 lo : Nat) : Int) == 0 && (1 : Int) == 1 && (sIx items.size items.size hi - sIx items.size 0 lo) == items.size) = true then _ else _) _ _ s
 rw [if_neg hno, A9l]
 first
  | exact wpAny_bind (m := Builtin.Tuple.tupleExact _) (wpAny_newObj_type (wpAny_pure ⟨_, rfl, wpAny_pure h⟩) htake)
  | exact wpAny_bind (m := Builtin.Tuple.tupleExact _) (wpAny_newObj_type (wpAny_bind (wpAny_pure (wpAny_pure ⟨_, rfl, wpAny_pure h⟩))) htake)
  | exact wpAny_bind (wpAny_bind (m := Builtin.Tuple.tupleExact _) (wpAny_newObj_type (wpAny_pure (wpAny_pure ⟨_, rfl, wpAny_pure h⟩)) htake))
  | exact wpAny_bind (wpAny_bind (m := Builtin.Tuple.tupleExact _) (wpAny_newObj_type (wpAny_pure ⟨_, rfl, wpAny_pure h⟩) htake))
end
end HT
namespace L2
open PySem PySem.Spec PyProof.Rows
abbrev TO := St -> Hp -> (Option Int -> Hp -> Prop) -> Prop
def PO (X : Cx) (e : Option Expr) (t : TO) : Prop :=
 ∀ (pins : List (Addr × Obj)) (s : Shared) (σ : St) (H : Hp) (Q : Option Int -> Hp -> Prop), Inv X pins σ H s -> t σ H Q ->
  wpAny (model X.prog X.w) X.A (evalPart e X.env) (fun u s' => ∃ o H', Inv X pins σ H' s' /\ IsPart u o /\ Q o H') X.xe s
def A1n : TO := fun _ H Q => Q none H
def B2t (t : TE) : TO := fun σ H Q => t σ H fun x H1 => ∃ i, x = .int i /\ Q (some i) H1
section
variable {X : Cx} {e : Expr} {te : TE} {lo hi : Option Expr} {tl th : TO} {pos p2 : Pos}
theorem B3h : PO X none A1n := by
 intro pins s σ H Q I h
 rw [evalPart_none]
 exact wpAny_pure ⟨none, H, I, .none, h⟩
theorem B3g (h : PE X e te) : PO X (some e) (B2t te) := by
 intro pins s σ H Q I hw
 rw [evalPart_some]
 refine thn (h pins s σ H _ I hw) fun u s1 ⟨x, H1, I1, r1, q1⟩ => ?_
 obtain ⟨i, rfl, q⟩ := q1
 obtain ⟨t, rfl⟩ := r1
 exact ⟨some i, H1, I1, .int i t, q⟩
def SlR (X : Cx) (r : V -> Option Int -> Option Int -> Hp -> VK -> Prop) : Prop :=
 ∀ (pins : List (Addr × Obj)) (s : Shared) (σ : St) (H : Hp) (x : V) (v vl vu : Value) (lo hi : Option Int) (sl : Addr) (Q : VK), Inv X pins σ H s -> RelV x v -> s.heap.IsSliceOf sl vl vu .none -> IsPart vl lo -> IsPart vu hi -> r x lo hi H Q ->
  ∃ T id, typeLookup (.type T) "__getitem__" = pure (some (.builtin id)) /\ s.TypeIs v T /\ wpAny (model X.prog X.w) X.A (getItem v (.ref sl)) (EP X pins σ Q) X.xe s
theorem SlR.or {r r' : V -> Option Int -> Option Int -> Hp -> VK -> Prop} (h : SlR X r) (h' : SlR X r') : SlR X (fun x lo hi H Q => r x lo hi H Q \/ r' x lo hi H Q) := by
 intro pins s σ H x v vl vu lo hi sl Q I rx hs pl pu q
 rcases q with q | q
 ·exact h pins s σ H x v vl vu lo hi sl Q I rx hs pl pu q
 ·exact h' pins s σ H x v vl vu lo hi sl Q I rx hs pl pu q
def tSl (r : V -> Option Int -> Option Int -> Hp -> VK -> Prop) (te : TE) (tl th : TO) : TE := fun σ H Q => te σ H fun x H1 => tl σ H1 fun l H2 => th σ H2 fun u H3 => r x l u H3 Q
theorem A9o {r : V -> Option Int -> Option Int -> Hp -> VK -> Prop} (hr : SlR X r) (he : PE X e te) (hl : PO X lo tl) (hu : PO X hi th) : PE X (.Subscript e (.Slice lo hi none p2) pos) (tSl r te tl th) := by
 intro pins s σ H Q I h
 refine Subscript_ (thn (he pins s σ H _ I h) fun v s1 ⟨x, H1, I1, r1, q1⟩ => ?_)
 refine wpAny_Slice (thn (hl pins s1 σ H1 _ I1 q1) fun vl s2 ⟨l, H2, I2, pl, q2⟩ => thn (hu pins s2 σ H2 _ I2 q2) fun vu s3 ⟨u, H3, I3, pu, q3⟩ => ?_)
 rw [evalPart_none]
 refine wpAny_pure ?_
 have I4 : Inv X pins σ H3 { s3 with heap := s3.heap.push { cls := .type "slice", data := .fields #[vl, vu, .none] } } := I3.kept (t' := s3.toks) fun b ob q => Heap.get?_push_of_some _ q
 obtain ⟨T, id, hT, ht, hg⟩ := hr pins { s3 with heap := s3.heap.push { cls := .type "slice", data := .fields #[vl, vu, .none] } } σ H3 x v vl vu l u s3.heap.objs.size Q I4 r1 (Heap.IsSliceOf.new ..) pl pu q3
 show wpAny (model X.prog X.w) X.A (subscriptTail e (.Slice lo hi none p2) v (.ref s3.heap.objs.size)) (EP X pins σ Q) X.xe { s3 with heap := s3.heap.push { cls := .type "slice", data := .fields #[vl, vu, .none] } }
 exact tail_any (ops := [.ref s3.heap.objs.size, v]) ht hT hg (by with_unfolding_all rfl)
def cutV (xs : List V) (lo hi : Option Int) : List V := (xs.drop (HT.sIx xs.length 0 lo)).take (HT.sIx xs.length xs.length hi - HT.sIx xs.length 0 lo)
theorem U1 (xs : List V) (lo hi : Option Int) : (cutV xs lo hi).length <= xs.length := by
 unfold cutV
 rw [List.length_take, List.length_drop]
 omega
def rSlT (K : PySem.W.Frag) : V -> Option Int -> Option Int -> Hp -> VK -> Prop := fun x lo hi H Q => ∃ a xs, x = .ref a /\ SqT K H a xs /\
 ¬ (HT.sIx xs.length 0 lo = 0 /\ HT.sIx xs.length xs.length hi = xs.length) /\ ∀ p, H p = none -> Q (.ref p) (upd H p (.tup (cutV xs lo hi)))
theorem B5u : SlR X (rSlT X.K) := by
 intro pins s σ H x v vl vu lo hi sl Q I rx hs pl pu h
 obtain ⟨a, xs, rfl, hx, hw, q⟩ := h
 cases rx
 obtain ⟨its, r, ht, hz⟩ := I.tuple hx
 have hlen : its.toArray.size = xs.length := by rw [List.size_toArray]; exact r.length.symm
 refine ⟨"tuple", _, PyProof.Rows.slot_tuple_getitem.lookup, ht.typeIs, ?_⟩
 refine HT.getItem_tuple_cut ht hs pl pu (by rw [hlen]; exact hw) ?_ (by rw [hlen]; exact hz)
 rw [hlen]
 refine ⟨.ref s.heap.objs.size, _, I.laid (t' := s.toks) (o := .tup (cutV xs lo hi)) (fun b ob q => Heap.get?_push_of_some _ q) (Nat.le_refl _) ?_, rfl, q _ (I.hok.fresh (Nat.le_refl _))⟩
 exact ⟨Nat.le_trans (U1 xs lo hi) hz, _, (r.drop (HT.sIx xs.length 0 lo)).take (HT.sIx xs.length xs.length hi - HT.sIx xs.length 0 lo), IsTup.new _ _⟩
theorem Vals.nil_iff {xs : List V} {us : List Value} (r : Vals xs us) : us = [] ↔ xs = [] := by
 cases r with
 | nil => simp
 | cons _ _ => simp
end
end L2
namespace L2
open PySem PySem.Spec PyProof.Rows
def ixN (n : Nat) (i : Int) : Option Nat := if 0 <= i then (if i < n then some i.toNat else none) else if -(n : Int) <= i then some (i + n).toNat else none
def atI {α : Type} (xs : List α) (i : Int) : Option α := (ixN xs.length i).bind fun j => xs[j]?
theorem A73 {n : Nat} {i : Int} {j : Nat} (h : ixN n i = some j) : seqIndex? i n = some j /\ j < n /\ -(n : Int) <= i /\ i < n := by
 unfold ixN at h
 by_cases h0 : 0 <= i
 ·rw [if_pos h0] at h
  by_cases h1 : i < n
  ·rw [if_pos h1] at h
   have e : i.toNat = j := Option.some.inj h
   exact ⟨by rw [seqIndex_of h0 h1, e], by omega, by omega, h1⟩
  ·rw [if_neg h1] at h; cases h
 ·rw [if_neg h0] at h
  by_cases h1 : -(n : Int) <= i
  ·rw [if_pos h1] at h
   have e : (i + n).toNat = j := Option.some.inj h
   exact ⟨by rw [seqIndex_neg (by omega) h1, e], by omega, h1, by omega⟩
  ·rw [if_neg h1] at h; cases h
theorem A2h {α : Type} {xs : List α} {i : Int} {v : α} (h : atI xs i = some v) : ∃ j, seqIndex? i xs.length = some j /\ xs[j]? = some v /\ j < xs.length /\ -(xs.length : Int) <= i /\ i < xs.length := by
 unfold atI at h
 cases e : ixN xs.length i with
 | none => rw [e] at h; cases h
 | some j =>
  rw [e] at h
  obtain ⟨h1, h2, h3, h4⟩ := A73 e
  exact ⟨j, h1, h, h2, h3, h4⟩
theorem L4 {α : Type} {xs : List α} {j : Nat} {v : α} (h : xs[j]? = some v) : atI xs (j : Int) = some v := by
 have hj : j < xs.length := (List.getElem?_eq_some_iff.mp h).1
 have e : ixN xs.length (j : Int) = some j := by
  unfold ixN
  rw [if_pos (by omega), if_pos (by omega)]; simp
 unfold atI; rw [e]; exact h
def A84 (b : Expr) : Prop := ∀ o i, subscripted b false o i = operate [o, i] (getItem o i)
def IxR (X : Cx) (r : R2) : Prop :=
 ∀ (value slice : Expr) (pins : List (Addr × Obj)) (s : Shared) (σ : St) (H : Hp) (x y : V) (v u : Value) (Q : VK), Inv X pins σ H s -> RelV x v -> RelV y u -> r x y H Q ->
  subscripted slice false v u = operate [v, u] (getItem v u) -> wpAny (model X.prog X.w) X.A (subscriptTail value slice v u) (EP X pins σ Q) X.xe s
def MtR (X : Cx) (id : String) (r : V -> List V -> Hp -> VK -> Prop) : Prop :=
 ∀ (pins : List (Addr × Obj)) (s : Shared) (σ : St) (H : Hp) (x : V) (xs : List V) (v : Value) (us : List Value) (Q : VK), Inv X pins σ H s -> RelV x v -> Vals xs us -> r x xs H Q ->
  wpAny (model X.prog X.w) X.A (call (.builtin id) (v :: us)) (EP X pins σ Q) X.xe s
section
variable {X : Cx} {a b : Expr} {ta tb : TE} {pos : Pos}
theorem IxR.or {r r' : R2} (h : IxR X r) (h' : IxR X r') : IxR X (fun x y H Q => r x y H Q \/ r' x y H Q) := by
 intro value slice pins s σ H x y v u Q I rx ry q hs
 rcases q with q | q
 ·exact h value slice pins s σ H x y v u Q I rx ry q hs
 ·exact h' value slice pins s σ H x y v u Q I rx ry q hs
theorem X6 {r : R2} (hr : IxR X r) (ha : PE X a ta) (hb : PE X b tb) (hs : A84 b) : PE X (.Subscript a b pos) (tOp r ta tb) := by
 intro pins s σ H Q I h
 exact Subscript_ (binT ha hb I h fun v u s2 x y H2 I2 rx ry q => hr a b pins s2 σ H2 x y v u Q I2 rx ry q (hs _ _))
def rIxL (K : PySem.W.Frag) : R2 := fun x y H Q => ∃ p xs i v, x = .ref p /\ y = .int i /\ SqL K H p xs /\ atI xs i = some v /\ Q v H
def rIxT (K : PySem.W.Frag) : R2 := fun x y H Q => ∃ p xs i v, x = .ref p /\ y = .int i /\ SqT K H p xs /\ atI xs i = some v /\ Q v H
def rIxS : R2 := fun x y H Q => ∃ z i c, x = .str z /\ y = .int i /\ z.length <= sizeLine /\ atI z.cps.toList i = some c /\ Q (.str ⟨#[c]⟩) H
theorem ix_list : IxR X (rIxL X.K) := by
 intro value slice pins s σ H x y v u Q I rx ry h hs
 obtain ⟨p, xs, i, z, rfl, rfl, hq, he, q⟩ := h
 cases rx
 obtain ⟨t, rfl⟩ := ry
 obtain ⟨its, r, pl, hz⟩ := I.list hq
 obtain ⟨j, h1, h2, h3, h4, h5⟩ := A2h he
 obtain ⟨w, ew, rw'⟩ := r.get h2
 have hl := r.length
 have hn := V7
 have fin : EP X pins σ Q w s := ⟨z, H, I, rw', q⟩
 by_cases h0 : 0 <= i
 ·have hj : i.toNat = j := by
   rw [seqIndex_of h0 h5] at h1
   exact Option.some.inj h1
  exact item_listR pl.isList h0 (by omega) (by rw [hj]; simpa using ew) fin hs
 ·have hj : (i + (its.toArray.size : Int)).toNat = j := by
   rw [seqIndex_neg (by omega) h4] at h1
   rw [List.size_toArray, <- hl]
   exact Option.some.inj h1
  exact subscriptTail_builtinR (x := w) pl.isList.typeIs slot_list_getitem.lookup
   (wpAny_getItem_list_neg (Q := fun r s' => r = w /\ EP X pins σ Q r s') pl.isList (by omega) (by rw [List.size_toArray] <;> omega) (by omega) (by rw [hj]; simpa using ew) ⟨rfl, fin⟩) hs
theorem ix_tup : IxR X (rIxT X.K) := by
 intro value slice pins s σ H x y v u Q I rx ry h hs
 obtain ⟨p, xs, i, z, rfl, rfl, hq, he, q⟩ := h
 cases rx
 obtain ⟨t, rfl⟩ := ry
 obtain ⟨its, r, pl, hz⟩ := I.tuple hq
 obtain ⟨j, h1, h2, h3, h4, h5⟩ := A2h he
 obtain ⟨w, ew, rw'⟩ := r.get h2
 have hl := r.length
 have hn := V7
 have fin : EP X pins σ Q w s := ⟨z, H, I, rw', q⟩
 exact subscriptTail_builtinR (x := w) pl.typeIs slot_tuple_getitem.lookup
  (getItem_tuple (j := j) (Q := fun r s' => r = w /\ EP X pins σ Q r s') pl (by omega) (by omega) (by rw [List.size_toArray, <- hl]; exact h1) (by simpa using ew) ⟨rfl, fin⟩) hs
theorem B7u : IxR X rIxS := by
 intro value slice pins s σ H x y v u Q I rx ry h hs
 obtain ⟨z, i, c, rfl, rfl, hz, he, q⟩ := h
 obtain ⟨t, rfl⟩ := rx
 obtain ⟨t', rfl⟩ := ry
 obtain ⟨j, h1, h2, h3, h4, h5⟩ := A2h he
 have hl : z.cps.toList.length = z.length := by simp [Str.length]
 rw [hl] at h1 h4 h5
 have hn := V7
 exact tail_any (typeIs_str s z t) slot_str_getitem.lookup (getItem_str (c := c) (by
  have e1 : decide (i < -(2 ^ 63 : Int)) = false := decide_eq_false (by omega)
  have e2 : decide (i ≥ 2 ^ 63) = false := decide_eq_false (by omega)
  rw [e1, e2, Bool.or_false]) (by rw [h1]; simpa using h2) ⟨.str ⟨#[c]⟩, H, I.tok _, ⟨_, rfl⟩, q⟩) hs
def rIx (K : PySem.W.Frag) : R2 := fun x y H Q => rIxL K x y H Q \/ rIxT K x y H Q \/ rIxS x y H Q
theorem B7v : IxR X (rIx X.K) := ix_list.or (ix_tup.or B7u)
theorem A4g (its : List Value) (n j : Nat) (u : Value) : Obj.mapSeq (·.setIfInBounds j u) { cls := .type "list", data := .seq its.toArray n } = { cls := .type "list", data := .seq (its.set j u).toArray n } := by
 simp [Obj.mapSeq]
theorem Inv.lst {pins : List (Addr × Obj)} {σ : St} {H : Hp} {s : Shared} {p : Addr} {xs : List V} (I : Inv X pins σ H s) (h : H p = some (.lst xs)) :
  ∃ (its : List Value) (n : Nat), Vals xs its /\ s.heap.get? p = some { cls := .type "list", data := .seq its.toArray n } /\ xs.length <= sizeLine := by
 obtain ⟨z, its, n, r, e⟩ := I.hok p _ h
 exact ⟨its, n, r, e, z⟩
theorem Inv.lstUpd {pins : List (Addr × Obj)} {σ : St} {H : Hp} {s : Shared} {p : Addr} {xs ys : List V} {its its' : List Value} {n n' : Nat} {f : Obj -> Obj} (I : Inv X pins σ H s) (h : H p = some (.lst xs))
  (ho : s.heap.get? p = some { cls := .type "list", data := .seq its.toArray n }) (hf : f { cls := .type "list", data := .seq its.toArray n } = { cls := .type "list", data := .seq its'.toArray n' }) (r : Vals ys its') (hz : ys.length <= sizeLine) (t : Nat) :
  Inv X pins σ (upd H p (.lst ys)) { s with heap := s.heap.update p f, toks := t } := by
 have e : (s.heap.update p f).get? p = some { cls := .type "list", data := .seq its'.toArray n' } := by
  rw [Heap.get?_update_self f ho (by rw [hf] <;> rfl), hf]
 refine I.write (x := p) (e := p) (by rw [h]; trivial) (.inl rfl) (fun b u hb q => (Heap.get?_update_other _ _ (Ne.symm hb)).trans q) ⟨_, e⟩ ?_
 exact ⟨hz, its', n', r, e⟩
def A9e : V -> V -> V -> Hp -> (Hp -> Prop) -> Prop := fun o i v H Q => ∃ p xs k j, o = .ref p /\ i = .int k /\ H p = some (.lst xs) /\ ixN xs.length k = some j /\ Q (upd H p (.lst (xs.set j v)))
theorem G0 : PSet X A9e := by
 intro pins s σ H o i v ov iv u Q I ro ri rv h
 obtain ⟨p, xs, k, j, rfl, rfl, hp, hj, q⟩ := h
 cases ro
 obtain ⟨t, rfl⟩ := ri
 obtain ⟨its, n, r, ho, hz⟩ := I.lst hp
 obtain ⟨h1, h2, h3, h4⟩ := A73 hj
 have hl := r.length
 have hn := V7
 have I' : Inv X pins σ (upd H p (.lst (xs.set j v))) { s with heap := s.heap.update p (Obj.mapSeq (·.setIfInBounds j u)) } :=
  I.lstUpd hp ho (A4g its n j u) (r.set rv j) (by rw [List.length_set]; exact hz) s.toks
 by_cases h0 : 0 <= k
 ·have hk : k.toNat = j := by
   rw [seqIndex_of h0 h4] at h1
   exact Option.some.inj h1
  exact PySem.W.ki_setAt ho h0 (by omega) (by rw [List.size_toArray, <- hl]; exact h4) (by rw [hk]; exact ⟨_, I', q⟩)
 ·have hk : (k + (its.toArray.size : Int)).toNat = j := by
   rw [seqIndex_neg (by omega) h3] at h1
   rw [List.size_toArray, <- hl]
   exact Option.some.inj h1
  exact PySem.W.ki_setBack ho (by omega) (by rw [List.size_toArray, <- hl]; exact h3) (by omega) (by rw [hk]; exact ⟨_, I', q⟩)
theorem Z8 (lo hi : Option Int) (n : Nat) : (sliceBounds lo hi none n).1 = ((HT.sIx n 0 lo : Nat) : Int) /\ (sliceBounds lo hi none n).2.1 = ((HT.sIx n n hi : Nat) : Int) /\ (sliceBounds lo hi none n).2.2 = 1 := by
 refine ⟨?_, ?_, rfl⟩
 ·cases lo with
  | none => simp [sliceBounds, HT.sIx]
  | some i =>
   simp only [sliceBounds, HT.sIx, Option.getD_none, show (1 : Int) > 0 by decide, if_true]
   by_cases h : i < 0
   ·simp only [h, if_true] <;> omega
   ·simp only [h, if_false] <;> omega
 ·cases hi with
  | none => simp [sliceBounds, HT.sIx]
  | some i =>
   simp only [sliceBounds, HT.sIx, Option.getD_none, show (1 : Int) > 0 by decide, if_true]
   by_cases h : i < 0
   ·simp only [h, if_true] <;> omega
   ·simp only [h, if_false] <;> omega
theorem W9 (its : List Value) (lo hi : Option Int) : slicePick its.toArray lo hi none = ((its.drop (HT.sIx its.length 0 lo)).take (HT.sIx its.length its.length hi - HT.sIx its.length 0 lo)).toArray := by
 obtain ⟨h1, h2, h3⟩ := Z8 lo hi its.toArray.size
 unfold slicePick
 rw [h1, h2, h3]
 simp only [sliceRange_one, pick_run, List.size_toArray] <;> rfl
def rSlL (K : PySem.W.Frag) : V -> Option Int -> Option Int -> Hp -> VK -> Prop := fun x lo hi H Q => ∃ a xs, x = .ref a /\ SqL K H a xs /\ ∀ p, H p = none -> Q (.ref p) (upd H p (.lst (cutV xs lo hi)))
theorem B21 : SlR X (rSlL X.K) := by
 intro pins s σ H x v vl vu lo hi sl Q I rx hs pl pu h
 obtain ⟨a, xs, rfl, hx, q⟩ := h
 cases rx
 obtain ⟨its, r, ht, hz⟩ := I.list hx
 have hlen := r.length
 refine ⟨"list", _, slot_list_getitem.lookup, ht.isList.typeIs, ?_⟩
 refine wpAny_getItem_list_slice ht.isList hs pl pu .none (by simp) ?_ (by rw [List.size_toArray] <;> omega)
 rw [W9, <- hlen]
 refine ⟨.ref s.heap.objs.size, _, I.laid (t' := s.toks) (o := .lst (cutV xs lo hi)) (fun b ob q => Heap.get?_push_of_some _ q) (Nat.le_refl _) ?_, rfl, q _ (I.hok.fresh (Nat.le_refl _))⟩
 exact ⟨Nat.le_trans (U1 xs lo hi) hz, _, 0, (r.drop (HT.sIx xs.length 0 lo)).take (HT.sIx xs.length xs.length hi - HT.sIx xs.length 0 lo), Heap.get?_push_size _ rfl⟩
theorem call_len_seq : CallR X (.builtin "len") (fun xs H Q => ∃ p ys, xs = [.ref p] /\ (SqL X.K H p ys \/ SqT X.K H p ys) /\ Q (.int ys.length) H) := by
 intro pins s σ H xs us Q I r h
 obtain ⟨p, ys, rfl, hq, q⟩ := h
 obtain ⟨u, rfl, rx⟩ := A1m r
 cases rx
 have hn := V7
 rcases hq with hq | hq
 ·obtain ⟨its, r', pl, hz⟩ := I.list hq
  have hlen := r'.length
  exact Calls.call_len_list pl.isList (by simp only [List.size_toArray] <;> omega) ⟨.int ys.length, H, I.tok _, ⟨s.toks + 1, by rw [List.size_toArray, hlen]⟩, q⟩
 ·obtain ⟨its, r', pl, hz⟩ := I.tuple hq
  have hlen := r'.length
  exact len_tuple pl (by simp only [List.size_toArray] <;> omega) ⟨.int ys.length, H, I.tok _, ⟨s.toks + 1, by rw [List.size_toArray, hlen]⟩, q⟩
theorem A09 : CallR X (.builtin "len") (fun xs H Q => ∃ z, xs = [.str z] /\ z.length <= sizeLine /\ Q (.int z.length) H) := by
 intro pins s σ H xs us Q I r h
 obtain ⟨z, rfl, hz, q⟩ := h
 obtain ⟨u, rfl, t, rfl⟩ := A1m r
 have hn := V7
 exact len_str (by omega) ⟨.int z.length, H, I.tok _, ⟨_, rfl⟩, q⟩
theorem CallR.or {f : Value} {r r' : List V -> Hp -> VK -> Prop} (h : CallR X f r) (h' : CallR X f r') : CallR X f (fun xs H Q => r xs H Q \/ r' xs H Q) := by
 intro pins s σ H xs us Q I rs q
 rcases q with q | q
 ·exact h pins s σ H xs us Q I rs q
 ·exact h' pins s σ H xs us Q I rs q
theorem A08 : CallR X (.type "list") (fun xs H Q => ∃ p ys, xs = [.ref p] /\ (SqL X.K H p ys \/ SqT X.K H p ys) /\ ∀ l, H l = none -> Q (.ref l) (upd H l (.lst ys))) := by
 intro pins s σ H xs us Q I r h
 obtain ⟨p, ys, rfl, hq, q⟩ := h
 obtain ⟨u, rfl, rx⟩ := A1m r
 cases rx
 have fin : ∀ (its : List Value), Vals ys its -> ys.length <= sizeLine -> ∀ (h' : Heap) (c' : Nat), (∀ b o', s.heap.get? b = some o' -> h'.get? b = some o') ->
   h'.get? s.heap.objs.size = some { cls := .type "list", dict := none, data := .seq its.toArray c', slots := #[] } -> EP X pins σ Q (.ref s.heap.objs.size) { s with heap := h' } := fun its r' hz h' c' kp e =>
  ⟨.ref s.heap.objs.size, _, I.laid (t' := s.toks) kp (Nat.le_refl _) (show ObjOk X.prog X.w _ h' _ (.lst ys) from ⟨hz, its, c', r', e⟩), rfl, q _ (I.hok.fresh (Nat.le_refl _))⟩
 rcases hq with hq | hq
 ·obtain ⟨its, r', pl, hz⟩ := I.list hq
  have hlen := r'.length
  obtain ⟨o, ho, hc, n, hd⟩ := pl.isList
  exact call_list_seq p (.inl rfl) ho hc hd (fun h' c' kp e => fin its r' hz h' c' kp e) (by simp only [List.size_toArray] <;> omega)
 ·obtain ⟨its, r', pl, hz⟩ := I.tuple hq
  have hlen := r'.length
  obtain ⟨o, ho, hc, n, hd⟩ := pl
  exact call_list_seq p (.inr rfl) ho hc hd (fun h' c' kp e => fin its r' hz h' c' kp e) (by simp only [List.size_toArray] <;> omega)
theorem Z2 : CallR X (.type "tuple") (fun xs H Q => ∃ p ys, xs = [.ref p] /\ ((SqL X.K H p ys /\ ∀ l, H l = none -> Q (.ref l) (upd H l (.tup ys))) \/ (SqT X.K H p ys /\ Q (.ref p) H))) := by
 intro pins s σ H xs us Q I r h
 obtain ⟨p, ys, rfl, h⟩ := h
 obtain ⟨u, rfl, rx⟩ := A1m r
 cases rx
 rcases h with ⟨hq, q⟩ | ⟨hq, q⟩
 ·obtain ⟨its, r', pl, hz⟩ := I.list hq
  have hlen := r'.length
  refine call_tuple_list pl.isList (fun h' kp => ?_) (by simp only [List.size_toArray] <;> omega)
  have I1 : Inv X pins σ H { s with heap := h' } := I.kept (t' := s.toks) kp
  have I2 : Inv X pins σ (upd H h'.objs.size (.tup ys)) { s with heap := h'.push { cls := .type "tuple", data := .seq its.toArray } } :=
   I1.laid (t' := s.toks) (fun b o e => Heap.get?_push_of_some _ e) (Nat.le_refl _) (show ObjOk X.prog X.w _ _ _ (.tup ys) from ⟨hz, its, r', IsTup.new _ _⟩)
  exact ⟨.ref h'.objs.size, _, I2, rfl, q _ (I1.hok.fresh (Nat.le_refl _))⟩
 ·obtain ⟨its, r', pl, hz⟩ := I.tuple hq
  exact call_tuple_same pl ⟨.ref p, H, I, rfl, q⟩
def tyV (K : PySem.W.Frag) (T : String) (x : V) (H : Hp) : Prop := match x with
 | .str _ => T = "str"
 | .int _ => T = "int"
 | .ref p => (T = "list" /\ ∃ xs, SqL K H p xs) \/ (T = "tuple" /\ ∃ o, K.lookup p = some o /\ o.cls = .type "tuple" /\ o.dict = none) \/
   (T = "dict" /\ ((∃ kvs, H p = some (.dK kvs)) \/ ∃ kvs, H p = some (.dT kvs))) \/ (T = "set" /\ ∃ S n, H p = some (.set S n))
 | _ => False
theorem B5n {pins : List (Addr × Obj)} {σ : St} {H : Hp} {s : Shared} {T : String} {x : V} {v : Value} (I : Inv X pins σ H s) (r : RelV x v) (ty : tyV X.K T x H) :
  s.TypeIs v T /\ ∀ a, v = .ref a -> ∃ ob, s.heap.get? a = some ob /\ ob.dict = none := by
 cases x with
 | str z =>
  obtain ⟨t, rfl⟩ := r
  cases (show T = "str" from ty)
  exact ⟨typeIs_str s z t, fun _ e => nomatch e⟩
 | int i =>
  obtain ⟨t, rfl⟩ := r
  cases (show T = "int" from ty)
  exact ⟨typeIs_int s i t, fun _ e => nomatch e⟩
 | ref p =>
  cases r
  rcases ty with ⟨rfl, xs, hq⟩ | ⟨rfl, o, hk, hc, hd⟩ | ⟨rfl, hk⟩ | ⟨rfl, S, n, hk⟩
  ·obtain ⟨its, _, pl, _⟩ := I.list hq
   refine ⟨pl.isList.typeIs, fun a e => ?_⟩
   cases e
   obtain ⟨o, n, e, c, hd, _⟩ := pl
   exact ⟨o, e, hd⟩
  ·refine ⟨⟨o, I.kIn p o hk, hc⟩, fun a e => ?_⟩
   cases e
   exact ⟨o, I.kIn _ o hk, hd⟩
  ·have z : ∃ o, s.heap.get? p = some o /\ o.ExactDict := by
    rcases hk with ⟨kvs, hk⟩ | ⟨kvs, hk⟩
    ·obtain ⟨_, _, _, _, o, _, _, e, ex, _⟩ := I.hok p _ hk
     exact ⟨o, e, ex⟩
    ·obtain ⟨_, _, _, _, o, _, _, e, ex, _⟩ := I.hok p _ hk
     exact ⟨o, e, ex⟩
   obtain ⟨o, e, ex⟩ := z
   refine ⟨⟨o, e, ex.1⟩, fun a e2 => ?_⟩
   cases e2
   exact ⟨o, e, ex.2.1⟩
  ·obtain ⟨o, _, _, _, e, ex, _⟩ := I.hok p _ hk
   refine ⟨⟨o, e, ex.1⟩, fun a e2 => ?_⟩
   cases e2
   exact ⟨o, e, ex.2.1⟩
 | _ => exact False.elim ty
def tBM (K : PySem.W.Frag) (T : String) (r : V -> List V -> Hp -> VK -> Prop) (to : TE) (t : TA) : TE := fun σ H Q => to σ H fun x H1 => tyV K T x H1 /\ t σ H1 fun xs H2 => r x xs H2 Q
variable {o e : Expr} {es : List Expr} {to : TE} {t : TA} {name : Str} {apos cpos : Pos} {T id : String} {r : V -> List V -> Hp -> VK -> Prop}
theorem B80 (pa : PlainAttrs T) (slot : Slot T name id) (hty : typeOf (.builtin id) = pure (.type "method_descriptor")) (hm : MtR X id r) (ho : PE X o to) (ha : PA X (e :: es) t)
  (hbase : attributeBase o name X.env (eval o X.env) = eval o X.env := by rfl)
  (hfew : ((backTo cpos (starEach (e :: es) X.env)).all (fun x => !x.1) && (backToKw cpos (keywordEach [] X.env)).all (fun x => x.1.isSome)
   && decide ((e :: es).length + ([] : List Keyword).length + (if ([] : List Keyword).isEmpty then 0 else 1) < 30)) = true := by rfl)
  (hline : (apos.endLine == cpos.line) = true := by rfl) (hs : starEach (e :: es) X.env = (false, eval e X.env) :: starEach es X.env := by rfl) (hplain : (backTo cpos (starEach es X.env)).any (·.1) = false := by rfl) :
  PE X (.Call (.Attribute o name apos) (e :: es) [] cpos) (tBM X.K T r to t) := by
 intro pins s σ H Q I h
 refine wpAny_Call_method_late hbase hfew hline rfl (thn (ho pins s σ H _ I h) fun v s1 ⟨x, H1, I1, r1, ty, q1⟩ => ?_)
 obtain ⟨h1, h2⟩ := B5n I1 r1 ty
 refine ⟨T, id, pa, slot, hty, h1, h2, ?_⟩
 have hA := ha cpos pins s1 σ H1 _ I1 q1
 rw [hs] at hA ⊢
 refine Calls.callWith_builtin (by show (false || (backTo cpos (starEach es X.env)).any (·.1)) = false; rw [hplain] <;> rfl) (Calls.evalArgs_plain ?_)
 exact thn hA fun us s2 ⟨vs, H2, I2, r2, q2⟩ => hm pins s2 σ H2 x vs v us Q I2 r1 r2 q2
end
end L2
namespace L2
open PySem PySem.Spec PyProof.Rows
def MtM (X : Cx) (id : String) (r : V -> List V -> Hp -> VK -> Prop) : Prop :=
 ∀ (pins : List (Addr × Obj)) (s : Shared) (σ : St) (H : Hp) (x : V) (xs : List V) (v : Value) (us : List Value) (Q : VK), Inv X pins σ H s -> RelV x v -> Vals xs us -> r x xs H Q ->
  wpAny (model X.prog X.w) X.A (call (.builtin id) (v :: us)) (EP X pins σ Q) X.xe s
theorem Vals.one : ∀ {x : V} {us : List Value}, Vals [x] us -> ∃ u, us = [u] /\ RelV x u
 | _, _, .cons r .nil => ⟨_, rfl, r⟩
theorem Vals.two : ∀ {x y : V} {us : List Value}, Vals [x, y] us -> ∃ u v, us = [u, v] /\ RelV x u /\ RelV y v
 | _, _, _, .cons r (.cons q .nil) => ⟨_, _, rfl, r, q⟩
theorem Vals.zero : ∀ {us : List Value}, Vals [] us -> us = []
 | _, .nil => rfl
theorem Vals.dropLast {xs : List V} {us : List Value} (h : Vals xs us) : Vals xs.dropLast us.dropLast := by
 induction h with
 | nil => exact .nil
 | cons r t ih =>
  cases t with
  | nil => exact .nil
  | cons q t' => exact .cons r ih
theorem Vals.eraseIdx : ∀ {xs : List V} {us : List Value} (i : Nat), Vals xs us -> Vals (xs.eraseIdx i) (us.eraseIdx i)
 | _, _, _, .nil => .nil
 | _, _, 0, .cons _ t => t
 | _, _, i + 1, .cons r t => .cons r (Vals.eraseIdx i t)
theorem Vals.reverse {xs : List V} {us : List Value} (h : Vals xs us) : Vals xs.reverse us.reverse := by
 induction h with
 | nil => exact .nil
 | cons r t ih => rw [List.reverse_cons, List.reverse_cons]; exact Vals.append ih (.cons r .nil)
theorem Vals.rep {xs : List V} {us : List Value} (h : Vals xs us) : ∀ k : Nat, Vals (List.replicate k xs).flatten (List.replicate k us).flatten
 | 0 => .nil
 | k + 1 => by
  rw [List.replicate_succ, List.replicate_succ, List.flatten_cons, List.flatten_cons]
  exact Vals.append h (Vals.rep h k)
theorem A0x (its : List Value) : ∀ (k : Nat) (acc : List Value),
  List.foldl (fun x1 x2 => x1 ++ x2) acc.toArray (List.replicate k its.toArray) = (acc ++ (List.replicate k its).flatten).toArray
 | 0, acc => by simp
 | k + 1, acc => by
  have e : acc.toArray ++ its.toArray = (acc ++ its).toArray := by simp
  have e2 : (acc ++ its) ++ (List.replicate k its).flatten = acc ++ (List.replicate (k + 1) its).flatten := by
   rw [List.replicate_succ, List.flatten_cons, List.append_assoc]
  rw [<- e2, <- A0x its k (acc ++ its), <- e, List.replicate_succ, List.foldl_cons]
section
variable {X : Cx} {pins : List (Addr × Obj)} {σ : St} {H : Hp} {s : Shared} {l b : Addr} {xs ys zs : List V}
theorem Inv.lset {its its' : List Value} {n : Nat} {f : Array Value -> Array Value} {t' : Nat} (I : Inv X pins σ H s) (hH : H l = some (.lst xs))
  (e : s.heap.get? l = some { cls := .type "list", data := .seq its.toArray n }) (hf : f its.toArray = its'.toArray) (hv : Vals ys its') (hz : ys.length <= sizeLine) :
  Inv X pins σ (upd H l (.lst ys)) { s with heap := s.heap.update l (Obj.mapSeq f), toks := t' } := by
 have q := PySem.IsL.update e f
 rw [hf] at q
 refine I.write (x := l) (e := l) (by rw [hH]; exact trivial) (.inl rfl) (fun b' u hb hu => (Heap.get?_update_other s.heap (Obj.mapSeq f) (Ne.symm hb)).trans hu) ⟨_, q⟩ ?_
 exact ⟨hz, its', _, hv, q⟩
theorem Inv.lnew {its : List Value} {t' : Nat} (I : Inv X pins σ H s) (hv : Vals ys its) (hz : ys.length <= sizeLine) :
  Inv X pins σ (upd H s.heap.objs.size (.lst ys)) { s with heap := s.heap.push { cls := .type "list", data := .seq its.toArray }, toks := t' } :=
 I.laid (fun _ _ q => Heap.get?_push_of_some _ q) (Nat.le_refl _) ⟨hz, its, 0, hv, Heap.get?_push_size _ rfl⟩
theorem Inv.fresh (I : Inv X pins σ H s) : H s.heap.objs.size = none := I.hok.fresh (Nat.le_refl _)
theorem Inv.lstM (I : Inv X pins σ H s) (hH : H l = some (.lst xs)) : xs.length <= sizeLine /\ ∃ (its : List Value) (n : Nat), Vals xs its /\ xs.length = its.length /\ s.heap.get? l = some { cls := .type "list", data := .seq its.toArray n } := by
 obtain ⟨z, its, n, r, e⟩ := I.hok l _ hH
 exact ⟨z, its, n, r, r.length, e⟩
theorem A92 {n : Nat} (h : n <= sizeLine) : Builtin.List.listTooLong n = false := by
 unfold Builtin.List.listTooLong
 exact decide_eq_false (by omega)
end
section
variable {X : Cx}
def A5b : V -> List V -> Hp -> VK -> Prop := fun x vs H Q => ∃ l xs y, x = .ref l /\ vs = [y] /\ H l = some (.lst xs) /\ xs.length < sizeLine /\ Q .non (upd H l (.lst (xs ++ [y])))
theorem D5 : MtM X "list.append" A5b := by
 intro pins s σ H x vs v us Q I rx rv h
 obtain ⟨l, xs, y, rfl, rfl, hH, hz, q⟩ := h
 cases rx
 obtain ⟨u, rfl, ru⟩ := rv.one
 obtain ⟨z, its, n, r, hl, e⟩ := I.lstM hH
 refine call_meets F.slot_list_append ⟨_, e, rfl⟩ F.entry_list_append (F.args_list_append_2 _ _) (PySem.list_append l its.toArray n u (by rw [List.size_toArray]; omega)) ⟨e, ?_⟩
 refine ⟨.non, _, I.lset (its' := its ++ [u]) hH e (by simp) (r.append (.cons ru .nil)) ?_, rfl, q⟩
 rw [List.length_append, List.length_singleton]
 omega
def rRep : R2 := fun x y H Q => ∃ l k xs, x = .ref l /\ y = .int k /\ H l = some (.lst xs) /\ -(2 ^ 63) <= k /\ k < 2 ^ 63 /\ xs.length * k.toNat <= sizeLine /\
 ∀ p, H p = none -> Q (.ref p) (upd H p (.lst (List.replicate k.toNat xs).flatten))
theorem B4s {α : Type} (xs : List α) (k : Nat) : (List.replicate k xs).flatten.length = k * xs.length := by
 induction k with
 | zero => simp
 | succ k ih => rw [List.replicate_succ, List.flatten_cons, List.length_append, ih, Nat.succ_mul, Nat.add_comm]
theorem B6x : OpR X (binaryOp .Mult) rRep := by
 intro pins s σ H x y v u Q I rx ry h
 obtain ⟨l, k, xs, rfl, rfl, hH, h1, h2, hz, q⟩ := h
 cases rx
 obtain ⟨t, rfl⟩ := ry
 obtain ⟨z, its, n, r, hl, e⟩ := I.lstM hH
 have hlen : its.toArray.size * k.toNat <= sizeLine := by rw [List.size_toArray, <- hl]; exact hz
 have hcap : ¬ its.toArray.size * k.toNat > (2 ^ 63 - 1) / 8 := by
  have : (sizeLine : Nat) <= (2 ^ 63 - 1) / 8 := by decide
  omega
 have hfit : ¬ (!Builtin.List.listFitsIndex k) = true := by
  rw [fitsIndex_both h1 h2]
  exact Bool.false_ne_true
 have hlong : ¬ Builtin.List.listTooLong (its.toArray.size * k.toNat) = true := by
  rw [A92 hlen]
  exact Bool.false_ne_true
 have hnew : List.foldl (fun x1 x2 => x1 ++ x2) #[] (List.replicate (if its.toArray.isEmpty = true then 0 else k.toNat) its.toArray) = (List.replicate k.toNat its).flatten.toArray := by
  have f0 : ∀ m : Nat, List.foldl (fun x1 x2 => x1 ++ x2) #[] (List.replicate m its.toArray) = (List.replicate m its).flatten.toArray := fun m => by
   have := A0x its m []
   rw [List.nil_append] at this
   exact this
  rw [f0]
  cases its with
  | nil => simp
  | cons a r' => rw [if_neg (by simp)]
 refine wpAny_binaryOp_repeat_ref (T := "list") (U := "int") (by decide) ⟨_, e, rfl⟩ (fun s' => typeIs_int s' k t) noFill_list_mul F.fills_int_mul F.slot_int_rmul repeat_list F.slot_int_index.lookup
  (call_meets F.slot_int_rmul (typeIs_int s k t) F.entry_int_rmul (F.args_int_rmul_2 _ _) (int___rmul___int_list k t l its.toArray n)
   ⟨e, rfl, ⟨_, e, rfl⟩, call_meets F.slot_list_mul ⟨_, e, rfl⟩ F.entry_list_mul (F.args_list_mul_2 _ _) (AutoListH.list___mul___list_int_3 l its.toArray n k t hfit hcap hlong) ⟨e, ?_⟩⟩)
 rw [hnew]
 exact ⟨.ref _, _, I.lnew (t' := s.toks) (r.rep k.toNat) (by rw [B4s, Nat.mul_comm]; exact hz), rfl, q _ I.fresh⟩
end
section
variable {prog : Program} {w : World} {A : Around} {E : Value -> Shared -> Prop} {s : Shared}
end
section
variable {X : Cx}
end
end L2
namespace Att
open PySem PySem.W PySem.Calls PyProof.Rows
theorem T9 {P : Params} {h : Heap} : ∀ (ns : List Int) (vs : List Value), WellAll P h vs (ns.map WData.int) -> IntsAre vs ns := by
 intro ns
 induction ns with
 | nil =>
  intro vs w
  rw [List.map_nil] at w
  cases w
  exact .nil
 | cons n ns ih =>
  intro vs w
  rw [List.map_cons] at w
  cases w with
  | cons a b =>
   cases a
   exact .cons _ _ (ih _ b)
theorem A47 {l : OpenLaw} {n : Nat} (hn : l.most = some n) {P : Params} {h : Heap} {args : List WData} {vals : List Value}
  (hpre : l.row.toRowW.claim.pre args = true) (hwl : WellAll P h vals args) :
  ∃ a vs ns, vals = [Value.ref a] /\ args = [WData.list (ns.map WData.int)] /\ h.get? a = some { cls := .type "list", data := .seq vs.toArray } /\ IntsAre vs ns /\ ns.length <= n := by
 have hsh : WShape.hasAll [] args [.list .int] = true := (pre_splitW hpre).1
 have hc : l.pre.holds [] { args := args } = true := (pre_splitW hpre).2
 obtain ⟨d, r, rfl, h1, h2⟩ := hasAllW_cons hsh
 obtain rfl := hasAllW_nil h2
 obtain ⟨xs, rfl, h3⟩ := hasW_list h1
 obtain ⟨ns, rfl⟩ := items_int h3
 have hlen : ns.length <= n := by
  unfold OpenLaw.pre at hc
  have h4 : (WTm.not (.lt (.lit (.int (n : Int))) (.len (.arg 0)))).holds [] { args := [.list (ns.map .int)] } = true := by
   have h4 := (holds_andW hc).1
   rw [hn] at h4
   exact h4
  have h5 := condW_of h4 (w_not (w_lt w_lit (w_len_list (w_arg rfl))))
  rw [List.length_map] at h5
  refine Nat.le_of_not_lt fun q => ?_
  have q' : (n : Int) < ((ns.length : Nat) : Int) := by omega
  first
   | (rw [decide_eq_true q'] at h5; exact absurd h5 (by decide))
   | (simp at h5; omega)
 cases hwl with
 | cons w1 w2 =>
  cases w2
  cases w1 with
  | list ho hall => exact ⟨_, _, ns, rfl, rfl, ho, T9 ns _ hall, hlen⟩
theorem A5v (l : OpenLaw) (args : List WData) : l.row.toRowW.claim.post args (.bool true) args = true :=
 postW_of (r := l.row.toRowW) (X := (true == true))
  (show WShape.has [] (.bool true) .bool = true by first | rfl | decide | simp [WShape.has, WShape.arms, WShape.armsAll])
  (show (WTm.eq .res (.lit (.bool true))).value [] { args := args, res := some (.bool true), after := args } = some (.bool (true == true)) from w_eq_bool (w_res rfl) w_lit) rfl
theorem attach_call {l : OpenLaw} {n : Nat} {q : Program} {loose : List Str} {XP : (Str -> Option Value) -> Heap -> Prop} {YP : World -> Heap -> Prop} {d : DefRec}
  (hn : l.most = some n) (hdf : d.params.defaults = [])
  (call : ∀ (w : World) (s₀ s₁ : Shared) (mg mb : Str -> Option Value) (fa : Addr) (o : Obj) (pm cd doc : Value) (a : Addr) (vs : List Value) (ns : List Int),
   Ground q loose [] XP w s₀ mg mb s₁.heap -> YP w s₁.heap ->
   s₁.heap.get? fa = some o -> o.data = .func (docDef d.name d.params d.body d.scope pm cd doc) -> s₁.heap.CodeRec cd d.name -> mg d.name = some (.ref fa) ->
   s₁.heap.get? a = some { cls := .type "list", data := .seq vs.toArray } -> IntsAre vs ns -> ns.length <= n -> s₁.gens = #[] ->
   codeAny (model l.prog w) callerA (.call (.ref fa) ⟨[.ref a], []⟩) (fun r s' => r = .ok (.ret (.bool true)) /\ OldK s₁.heap s'.heap /\ s'.os = s₁.os /\ AllBare s'.gens) s₁) :
  WalkO q loose XP YP l.row.toRowW d [] (fun f vs => PySem.call f vs) := by
 intro w s₀ s₁ mg mb G Y fa o pm cd doc dV kV ho hd hcd hD hmg hg args vals as hpre hlay hrd hwl hlo
 obtain rfl : dV = .none := Dflts.none hD hdf
 obtain rfl : kV = .none := Dflts.noKw hD
 obtain ⟨a, vs, ns, rfl, rfl, hobj, hints, hlen⟩ := A47 hn hpre hwl
 refine enter_call (codeAny_mono (call w s₀ s₁ mg mb fa o pm cd doc a vs ns G Y ho (fd_plain hd) hcd hmg hobj hints hlen hg) fun r s' hq => ?_)
 obtain ⟨rfl, h2, h3, h4⟩ := hq
 exact ⟨.inl ⟨.bool true, .bool true, [], rfl, fun _ => rfl, .bool true, A5v l _, fun _ => ⟨List.Pairwise.nil, fun _ hm => (nomatch hm)⟩⟩, h2, h3, h4⟩
section
variable {prog : Program} {w : World} {A : Around} {E : Value -> Shared -> Prop} {s : Shared} {K : Frag}
def B9g (h : Heap) (L d : Addr) : List (Addr × Obj) := (List.range h.objs.size).filterMap fun a => if a = L \/ a = d then none else (h.get? a).map fun o => (a, o)
end
end Att
namespace L2
open PySem PySem.Spec PyProof.Rows
theorem Z4 : ∀ {vs : List Value} {ns : List Int}, IntsAre vs ns -> Vals (ns.map V.int) vs
 | _, _, .nil => .nil
 | _, _, .cons n t h => .cons ⟨t, rfl⟩ (Z4 h)
def Only (H : Hp) : Prop := ∀ b, H b = none \/ ∃ o xs, H b = some (.frz o (.lst xs))
theorem A99 {P : Program} {w : World} {K : PySem.W.Frag} {mg mb : Str -> Option Value} {CX : CXT} {k : Nat} {fa a : Addr} {fd : FuncData} {x : Str} {sp : Sp} {s₁ : Shared} {vs : List Value} {ns : List Int}
  (KX : K.In s₁.heap) (hns : s₁.heap.Ns mainGlobals mg) (hb : s₁.heap.Ns builtinsNs mb) (hbb : ∀ x : Str, x ≠ "__name__" -> mb x = bootBuiltins x) (hlim : s₁.heap.NoLimit) (hg : s₁.gens = #[])
  (ha : s₁.heap.get? a = some { cls := .type "list", data := .seq vs.toArray }) (hi : IntsAre vs ns) (hl : ns.length <= sizeLine) (hr : Room k callerA)
  (F : ∀ base : Heap, K.In base -> base.Ns mainGlobals mg -> FnOk P w K mg base CX k fa fd [x] sp) (hbind : ∀ (s : Shared) (u : Value), BindsTo s fd ⟨[u], []⟩ [(x, u)])
  (hsp : ∀ H : Hp, Only H -> SqL K H a (ns.map V.int) -> sp [.ref a] H (fun v _ => v = .bl true) fun _ _ _ => False)
  (hCX : ∀ H e s', CX [] H s₁ (fun _ _ _ => False) e s' -> False) :
  codeAny (model P w) callerA (.call (.ref fa) ⟨[.ref a], []⟩) (fun r s' => r = .ok (.ret (.bool true)) /\ OldK s₁.heap s'.heap /\ s'.os = s₁.os /\ AllBare s'.gens) s₁ := by
 have rv := Z4 hi
 have lenV := hi.length
 have core : ∀ H : Hp, Only H -> SqL K H a (ns.map V.int) -> HOk P w H s₁.heap -> (∀ b, H b ≠ none -> b = a) -> (H a ≠ none -> K.lookup a = none) ->
   codeAny (model P w) callerA (.call (.ref fa) ⟨[.ref a], []⟩) (fun r s' => r = .ok (.ret (.bool true)) /\ OldK s₁.heap s'.heap /\ s'.os = s₁.os /\ AllBare s'.gens) s₁ := by
  intro H hO hS hok hA hK
  have base_of : ∀ {b : Addr} {o : Obj}, s₁.heap.get? b = some o -> H b = none -> (hidT s₁.heap H).get? b = some o := fun e n => B0f e n
  have noA : ∀ {b : Addr} {o : Obj} {es : Array DictEntry} {ep : Nat}, s₁.heap.get? b = some o -> o.data = .dict es ep -> H b = none := fun {b o es ep} e d => by
   cases q : H b with
   | none => rfl
   | some u =>
    have e' : b = a := hA b (by rw [q]; simp)
    subst e'
    rw [ha] at e; cases e
    have d' : Data.seq vs.toArray _ = Data.dict es ep := d
    cases d'
  have nsK : ∀ {b : Addr} {m : Str -> Option Value}, s₁.heap.Ns b m -> (hidT s₁.heap H).Ns b m := fun {b m} ⟨o, es, ep, e, d, r⟩ => ⟨o, es, ep, base_of e (noA e d), d, r⟩
  have hKb : K.In (hidT s₁.heap H) := fun b o e => base_of (KX b o e) (by
   cases q : H b with
   | none => rfl
   | some u =>
    have e' : b = a := hA b (by rw [q]; simp)
    subst e'
    rw [hK (by rw [q]; simp)] at e; cases e)
  have hM : Mod K mg (hidT s₁.heap H) := ⟨hKb, nsK hns, ⟨mb, nsK hb, hbb⟩, let ⟨mc, h1, h2⟩ := hlim; ⟨mc, nsK h1, h2⟩⟩
  have e0 : Env0 P w K mg (hidT s₁.heap H) callerA [] s₁ H := ⟨rfl, hM, fun b o e => B4h e, Nat.le_of_eq (A78 _ _), trivial, fun b hb => absurd (show b ∈ ([] : List Addr) from hb) (by simp), hok, .of_eq hg⟩
  refine codeAny_mono ((F _ hKb (nsK hns)).run callerA [] s₁ H ⟨[.ref a], []⟩ [.ref a] [.ref a] _ _ hr e0 (hbind s₁ (.ref a)) (.cons rfl .nil) (hsp H hO hS)) fun r s' h => ?_
  cases r with
  | error e => exact (hCX H e s' h).elim
  | ok fl =>
   cases fl with
   | next => exact False.elim h
   | brk => exact False.elim h
   | cont => exact False.elim h
   | ret u =>
    obtain ⟨v, H', os, bare, un, hok', r', q⟩ := h
    have q' : v = .bl true := q
    subst q'
    obtain rfl : u = Value.bool true := r'
    refine ⟨rfl, OldK.of_keep fun b o e => ?_, os, bare⟩
    cases q : H b with
    | none => exact un.keep b o e q (by intro z; exact absurd (show b ∈ ([] : List Addr) from z) (by simp)) (by simp)
    | some u =>
     rcases hO b with z | ⟨ob, xs, z⟩
     ·rw [q] at z; cases z
     ·have z2 := un.frzs b ob _ z
      obtain ⟨e1, _⟩ := hok b _ z
      obtain ⟨e2, _⟩ := hok' b _ z2
      rw [e] at e1; cases e1
      exact e2
 cases hk : K.lookup a with
 | some o =>
  have e := KX a o hk
  rw [ha] at e
  cases e
  refine core (fun _ => none) (fun _ => .inl rfl) (.inr ⟨_, vs.toArray, _, hk, rfl, rfl, rfl, by rw [List.size_toArray, lenV]; exact hl, by simpa using rv⟩) (fun b u z => by have z' : (none : Option HO) = some u := z; cases z') (fun b z => absurd rfl z) fun z => absurd rfl z
 | none =>
  refine core (fun b => if b = a then some (.frz { cls := .type "list", data := .seq vs.toArray } (.lst (ns.map V.int))) else none) (fun b => ?_) (.inl (.inr ⟨{ cls := .type "list", data := .seq vs.toArray }, if_pos rfl⟩)) (fun b u z => ?_) (fun b z => ?_) fun _ => hk
  ·by_cases hb : b = a
   ·exact .inr ⟨_, _, if_pos hb⟩
   ·exact .inl (if_neg hb)
  ·by_cases hb : b = a
   ·have z' := (if_pos hb).symm.trans z
    cases z'
    subst hb
    exact ⟨ha, by rw [List.length_map]; exact hl, vs, _, rv, ha⟩
   ·have z' := (if_neg hb).symm.trans z
    cases z'
  ·by_cases hb : b = a
   ·exact hb
   ·exact absurd (if_neg hb) z
end L2
namespace L2
open PySem PySem.Spec PyProof.Rows
abbrev KOf {K : PySem.W.Frag} {h : Heap} (_ : K.In h) : PySem.W.Frag := K
theorem B2p {l : PySem.W.OpenLaw} {n k : Nat} {q : Program} {loose : List Str} {XP : (Str -> Option Value) -> Heap -> Prop} {YP : World -> Heap -> Prop} {d : DefRec} {K : Params -> PySem.W.Frag} {CX : World -> CXT} {sp : World -> Sp} {x : Str}
  (hn : l.most = some n) (hn2 : n <= sizeLine) (hdf : d.params.defaults = []) (hr : Room k callerA)
  (hY : ∀ (w : World) (h : Heap), YP w h -> (K w.params).In h)
  (F : ∀ (w : World) (mg : Str -> Option Value) (fa : Addr) (h : Heap), (K w.params).In h -> h.Ns mainGlobals mg -> mg d.name = some (.ref fa) ->
   ∃ fd : FuncData, (∀ (s : Shared) (u : Value), BindsTo s fd ⟨[u], []⟩ [(x, u)]) /\
    ∀ base : Heap, (K w.params).In base -> base.Ns mainGlobals mg -> FnOk l.prog w (K w.params) mg base (CX w) k fa fd [x] (sp w))
  (hsp : ∀ (w : World) (H : Hp) (a : Addr) (ns : List Int), ns.length <= n -> Only H -> SqL (K w.params) H a (ns.map V.int) -> sp w [.ref a] H (fun v _ => v = .bl true) fun _ _ _ => False)
  (hCX : ∀ (w : World) (H : Hp) (s : Shared) (e : Value) (s' : Shared), CX w [] H s (fun _ _ _ => False) e s' -> False) :
  PySem.W.WalkO q loose XP YP l.row.toRowW d [] (fun f vs => PySem.call f vs) := by
 refine Att.attach_call hn hdf fun w s₀ s₁ mg mb fa o pm cd doc a vs ns G Y ho hd hcd hmg hobj hints hlen hg => ?_
 have KX := hY w _ Y
 obtain ⟨fd, hb, hF⟩ := F w mg fa _ KX G.T.g hmg
 exact A99 KX G.T.g G.T.b G.T.builtins G.T.nolimit hg hobj hints (Nat.le_trans hlen hn2) hr hF hb (fun H hO hS => hsp w H a ns hlen hO hS) fun H e s' => hCX w H s₁ e s'
end L2
namespace L2
open PySem PySem.Spec PyProof.Rows
abbrev CX0 : CXT := fun _ _ _ _ _ _ => False
abbrev E0 : XK := fun _ _ _ => False
theorem B5 {X : Cx} : A30 CX0 X E0 := fun _ _ _ _ _ _ _ h => h.elim
structure Fun (K : PySem.W.Frag) (x qual : Str) (st : Stmt) (f : Addr) (fd : FuncData) : Prop where
 ex : ∃ (oc : Value) (od : Option Addr) (kV doc pm : Value) (an : Option Addr) (cdv ct : Value) (osl : Array (Option Value)),
  fd = PySem.W.fnOf x qual (B1 st) (B0 st) (A4 st) .none kV doc pm an cdv ct /\ K.lookup f = some ⟨oc, od, .func fd, osl⟩ /\ PySem.W.codeIn K cdv qual = true
 kp : PySem.W.keepIn K (.ref f) = true
section
variable {P : Program} {w : World} {K : PySem.W.Frag} {mg : Str -> Option Value} {base : Heap}
theorem Fun.ok {x qual : Str} {st : Stmt} {f : Addr} {fd : FuncData} {N ps : List Str} {k : Nat} {sp : Sp} (F : Fun K x qual st f fd) (S : FnScope N ps (A4 st)) (len : ∀ vs H Q E, sp vs H Q E -> vs.length = ps.length)
  (hbody : ∀ (cdv : Value) (A : Around) (outer : List Env) (s : Shared) (H : Hp) (vs : List V) (Q : VK) (E : XK), Room k (A.deeper (envOfC qual (A4 st) s.heap.objs.size f cdv)) -> sp vs H Q E ->
   ∃ t, PSs (cxOf CX0 P w K mg base N qual (A4 st) f cdv A outer s H E).nox (B0 st) t /\ t { nx := fun _ H' => Q .non H', rt := Q } (start N vs) H) : FnOk P w K mg base CX0 (k + 1) f fd ps sp := by
 obtain ⟨oc, od, kV, doc, pm, an, cdv, ct, osl, rfl, lk, hcd⟩ := F.ex
 refine B85 lk hcd S len fun A outer s H vs Q E hr hsp => ?_
 obtain ⟨t, h, q⟩ := hbody cdv A outer s H vs Q E hr hsp
 exact ⟨t, h.nox, q⟩
theorem Fun.binds {x qual : Str} {st : Stmt} {f : Addr} {fd : FuncData} {ps : List Str} (F : Fun K x qual st f fd)
  (h : ∀ (kV doc pm : Value) (an : Option Addr) (cdv ct : Value) (us : List Value), us.length = ps.length -> bindArgs (PySem.W.fnOf x qual (B1 st) (B0 st) (A4 st) .none kV doc pm an cdv ct) ⟨us, []⟩ = pure (ps.zip us)) : Binds K fd ps [] := by
 obtain ⟨oc, od, kV, doc, pm, an, cdv, ct, osl, rfl, lk, hcd⟩ := F.ex
 exact .all (h kV doc pm an cdv ct)
theorem D7 {x qual : Str} {st : Stmt} {f : Addr} {oc : Value} {od an : Option Addr} {osl : Array (Option Value)} {kV doc pm cdv ct : Value} (l : K.lookup f = some ⟨oc, od, .func (PySem.W.fnOf x qual (B1 st) (B0 st) (A4 st) .none kV doc pm an cdv ct), osl⟩)
  (c : PySem.W.codeIn K cdv qual = true) (k : PySem.W.keepIn K (.ref f) = true) : Fun K x qual st f (PySem.W.fnOf x qual (B1 st) (B0 st) (A4 st) .none kV doc pm an cdv ct) := ⟨⟨oc, od, kV, doc, pm, an, cdv, ct, osl, rfl, l, c⟩, k⟩
end
theorem O7 {n : Nat} (h : n <= 1000) : n < sizeLine := Nat.lt_of_le_of_lt h (by decide)
section
variable {X : Cx}
theorem pv (i : Nat) {x : Str} {pos : Pos} (hN : X.N[i]? = some x := by rfl) (hv : Vis X.env.scope x := by first | exact Or.inl rfl | exact Or.inr (Or.inl rfl) | exact Or.inr (Or.inr rfl)) (hd : (x == ("__debug__" : Str)) = false := by decide)
  (hcd : (x == ("__classdict__" : Str)) = false := by decide) : PE X (.Name x pos) (tVar i) := B6j hN hv hd hcd
end
theorem iteF {A B : Prop} (h : B) : if false = true then A else B := by
 rw [if_neg Bool.false_ne_true]
 exact h
theorem iteT {A B : Prop} (h : A) : if true = true then A else B := by
 rw [if_pos rfl]
 exact h
theorem ite2 {c A B : Prop} [Decidable c] (h1 : c -> A) (h2 : ¬ c -> B) : if c then A else B := by
 by_cases h : c
 ·rw [if_pos h]
  exact h1 h
 ·rw [if_neg h]
  exact h2 h
def Same (H H' : Hp) : Prop := ∀ b o, H b = some o -> H' b = some o
theorem Same.refl (H : Hp) : Same H H := fun _ _ h => h
theorem Same.trans {H H1 H2 : Hp} (a : Same H H1) (b : Same H1 H2) : Same H H2 := fun c o h => b c o (a c o h)
theorem Same.seq {K : PySem.W.Frag} {H H' : Hp} {a : Addr} {xs : List V} (e : Same H H') (h : SqL K H a xs) : SqL K H' a xs := by
 rcases h with (h | ⟨o, h⟩) | h
 ·exact .inl (.inl (e _ _ h))
 ·exact .inl (.inr ⟨o, e _ _ h⟩)
 ·exact .inr h
end L2
namespace My
def Sm (k : Nat) (x : Int) : Prop := x.natAbs < 2 ^ k
theorem Sm.mono {k l : Nat} {x : Int} (h : Sm k x) (e : k <= l) : Sm l x := Nat.lt_of_lt_of_le h (Nat.pow_le_pow_right (by decide) e)
theorem Sm.mul {k l : Nat} {x y : Int} (h : Sm k x) (g : Sm l y) : Sm (k + l) (x * y) := by
 unfold Sm at *
 rw [Int.natAbs_mul, Nat.pow_add]
 rcases Nat.eq_zero_or_pos y.natAbs with e | e
 ·rw [e, Nat.mul_zero]; exact Nat.mul_pos (Nat.two_pow_pos _) (Nat.two_pow_pos _)
 ·exact Nat.lt_of_lt_of_le (Nat.mul_lt_mul_of_pos_right h e) (Nat.mul_le_mul_left _ (Nat.le_of_lt g))
theorem Sm.add {k : Nat} {x y : Int} (h : Sm k x) (g : Sm k y) : Sm (k + 1) (x + y) := by
 unfold Sm at *
 rw [Nat.pow_succ]
 have := Int.natAbs_add_le x y
 omega
theorem Sm.neg {k : Nat} {x : Int} (h : Sm k x) : Sm k (-x) := by
 unfold Sm at *
 rw [Int.natAbs_neg]; exact h
theorem Sm.sub {k : Nat} {x y : Int} (h : Sm k x) (g : Sm k y) : Sm (k + 1) (x - y) := by
 rw [Int.sub_eq_add_neg]; exact h.add g.neg
theorem Sm.le {k : Nat} {x y : Int} (h : Sm k x) (g : y.natAbs <= x.natAbs) : Sm k y := Nat.lt_of_le_of_lt g h
theorem Sm.log {k : Nat} {x : Int} (h : Sm k x) (hk : 0 < k) : x.natAbs.log2 < k := by
 by_cases h0 : x.natAbs = 0
 ·rw [h0]; exact hk
 ·exact (Nat.log2_lt h0).mpr h
theorem A79 (a b : Int) : Int.gcd b (a % b) = Int.gcd a b := by
 have h : a % b = a + b * (-(a / b)) := by
  have := Int.emod_def a b
  rw [this, Int.mul_neg]; omega
 rw [h, Int.gcd_add_mul_left_right, Int.gcd_comm]
theorem B42 (a b : Int) : Int.gcd (if a < 0 then -a else a) (if b < 0 then -b else b) = Int.gcd a b := by
 unfold Int.gcd
 congr 1
 ·split <;> omega
 ·split <;> omega
theorem A3k (a : Int) (h : 0 <= a) : ((Int.gcd a 0 : Nat) : Int) = a := by
 rw [Int.gcd_zero_right]; omega
def sh (t b : Int) : Int := if b < 0 then -((Int.gcd t b : Nat) : Int) else ((Int.gcd t b : Nat) : Int)
theorem B5w {t b : Int} (h : b ≠ 0) : sh t b ≠ 0 := by
 have : Int.gcd t b ≠ 0 := fun e => h (Int.gcd_eq_zero_iff.mp e).2
 unfold sh; split <;> omega
theorem B5x (t b : Int) : (sh t b).natAbs = Int.gcd t b := by
 unfold sh; split <;> omega
theorem A2r (t b : Int) : sh t b ∣ t := by
 unfold sh; split
 ·exact Int.neg_dvd.mpr (Int.gcd_dvd_left ..)
 ·exact Int.gcd_dvd_left ..
theorem A9a (t b : Int) : sh t b ∣ b := by
 unfold sh; split
 ·exact Int.neg_dvd.mpr (Int.gcd_dvd_right ..)
 ·exact Int.gcd_dvd_right ..
theorem A7o {t b : Int} (h : b ≠ 0) : t.fdiv (sh t b) = (Rat.divInt t b).num := by
 rw [Int.fdiv_eq_ediv_of_dvd (A2r t b), Rat.num_divInt, Int.gcd_comm b t]
 unfold sh
 split
 ·rename_i h1
  rw [Int.sign_eq_neg_one_of_neg h1, Int.ediv_neg, Int.neg_one_mul, Int.neg_ediv_of_dvd (Int.gcd_dvd_left ..)]
 ·rename_i h1
  rw [Int.sign_eq_one_of_pos (by omega), Int.one_mul]
theorem B4p {t b : Int} (h : b ≠ 0) : b.fdiv (sh t b) = ((Rat.divInt t b).den : Int) := by
 rw [Int.fdiv_eq_ediv_of_dvd (A9a t b), Rat.den_divInt, if_neg h, Int.gcd_comm b t]
 unfold sh
 split
 ·rename_i h1
  rw [Int.ediv_neg, Int.natCast_ediv]
  have e : (b.natAbs : Int) = -b := by omega
  rw [e, Int.neg_ediv_of_dvd (Int.gcd_dvd_right ..)]
 ·rename_i h1
  rw [Int.natCast_ediv]
  have e : (b.natAbs : Int) = b := by omega
  rw [e]
theorem B7f (t b : Int) : (Rat.divInt t b).num.natAbs <= t.natAbs := by
 by_cases h : b = 0
 ·subst h; simp [Rat.divInt_zero]
 ·rw [<- A7o h, Int.fdiv_eq_ediv_of_dvd (A2r t b)]
  have := Int.natAbs_ediv_le_natAbs t (sh t b)
  exact this
theorem B78 {t b : Int} (h : b ≠ 0) : (Rat.divInt t b).den <= b.natAbs := by
 rw [Rat.den_divInt, if_neg h]
 exact Nat.div_le_self _ _
def SmQ (k : Nat) (q : Rat) : Prop := Sm k q.num /\ Sm k (q.den : Int)
theorem den0 (q : Rat) : (q.den : Int) ≠ 0 := by have := q.den_nz; omega
theorem denp (q : Rat) : 0 < (q.den : Int) := by have := q.den_nz; omega
theorem den2 (p q : Rat) : (p.den : Int) * (q.den : Int) ≠ 0 := Int.mul_ne_zero (den0 p) (den0 q)
theorem B6b (p q : Rat) : Rat.divInt (p.num * q.den + q.num * p.den) ((p.den : Int) * q.den) = p + q := by
 rw [<- Rat.divInt_add_divInt _ _ (den0 p) (den0 q), Rat.num_divInt_den, Rat.num_divInt_den]
theorem B58 (p q : Rat) : Rat.divInt (p.num * q.den - q.num * p.den) ((p.den : Int) * q.den) = p - q := by
 rw [<- Rat.divInt_sub_divInt _ _ (den0 p) (den0 q), Rat.num_divInt_den, Rat.num_divInt_den]
theorem B59 (p q : Rat) : Rat.divInt (p.num * q.num) ((p.den : Int) * q.den) = p * q := by
 rw [<- Rat.divInt_mul_divInt, Rat.num_divInt_den, Rat.num_divInt_den]
theorem B6a (p q : Rat) : Rat.divInt (p.num * q.den) ((p.den : Int) * q.num) = p / q := by
 rw [Rat.div_def, Rat.inv_def, <- Rat.divInt_mul_divInt, Rat.num_divInt_den]
def W : LQ -> Nat
 | [] => 1
 | q :: r => q.den * W r
def S : LQ -> Rat
 | [] => 0
 | q :: r => q + S r
end My
namespace My
def SmR (n d : Nat) (q : Rat) : Prop := Sm n q.num /\ Sm d (q.den : Int)
theorem SmR.mono {n d n' d' : Nat} {q : Rat} (h : SmR n d q) (h1 : n <= n') (h2 : d <= d') : SmR n' d' q := ⟨h.1.mono h1, h.2.mono h2⟩
theorem SmR.q {n d : Nat} {q : Rat} (h : SmR n d q) (h1 : n <= 3900) (h2 : d <= 3900) : SmQ 3900 q := ⟨h.1.mono h1, h.2.mono h2⟩
theorem SmR.low {n d : Nat} {t b : Int} (h : Sm n t) (g : Sm d b) (hb : b ≠ 0) : SmR n d (Rat.divInt t b) :=
 ⟨h.le (B7f t b), g.le (by simpa using B78 hb)⟩
theorem SmR.add {a b c e : Nat} {p q : Rat} (h : SmR a b p) (g : SmR c e q) : SmR (max (a + e) (c + b) + 1) (b + e) (p + q) := by
 rw [<- B6b]
 exact SmR.low (((h.1.mul g.2).mono (Nat.le_max_left ..)).add ((g.1.mul h.2).mono (Nat.le_max_right ..))) (h.2.mul g.2) (den2 p q)
theorem SmR.sub {a b c e : Nat} {p q : Rat} (h : SmR a b p) (g : SmR c e q) : SmR (max (a + e) (c + b) + 1) (b + e) (p - q) := by
 rw [<- B58]
 exact SmR.low (((h.1.mul g.2).mono (Nat.le_max_left ..)).sub ((g.1.mul h.2).mono (Nat.le_max_right ..))) (h.2.mul g.2) (den2 p q)
theorem SmR.mul {a b c e : Nat} {p q : Rat} (h : SmR a b p) (g : SmR c e q) : SmR (a + c) (b + e) (p * q) := by
 rw [<- B59]
 exact SmR.low (h.1.mul g.1) (h.2.mul g.2) (den2 p q)
theorem B7e {q : Rat} (h : q ≠ 0) : q.num ≠ 0 := fun e => h (Rat.num_eq_zero.mp e)
theorem B4l {q : Rat} (h : 0 < q) : 0 < q.num := by
 have := (Rat.lt_iff 0 q).mp h
 simpa using this
theorem SmR.div {a b c e : Nat} {p q : Rat} (h : SmR a b p) (g : SmR c e q) (hq : q ≠ 0) : SmR (a + e) (b + c) (p / q) := by
 rw [<- B6a]
 exact SmR.low (h.1.mul g.2) (h.2.mul g.1) (Int.mul_ne_zero (den0 p) (B7e hq))
theorem P4 {t b : Int} (h : 0 <= t) (hb : 0 < b) : 0 <= Rat.divInt t b := (Rat.divInt_nonneg_iff_of_pos_right hb).mpr h
theorem B8u {t b : Int} (h : 0 < t) (hb : 0 < b) : 0 < Rat.divInt t b := by
 refine Rat.lt_of_le_of_ne (P4 (by omega) hb) fun e => ?_
 have h1 : Rat.divInt 0 b = Rat.divInt t b := by rw [Rat.zero_divInt]; exact e
 have := (Rat.divInt_eq_divInt_iff (by omega) (by omega)).mp h1
 have h2 : t * b = 0 := by simpa using this.symm
 rcases Int.mul_eq_zero.mp h2 with z | z <;> omega
theorem A3h (p q : Rat) : decide (p.num * q.den < q.num * p.den) = decide (p < q) := by
 rw [Bool.eq_iff_iff, decide_eq_true_iff, decide_eq_true_iff, Rat.lt_iff]
def Dec : LR -> Prop
 | [] => True
 | [_] => True
 | c :: d :: r => d.1 < c.1 /\ Dec (d :: r)
theorem Dec.tail {c : Rat × Rat} {r : LR} (h : Dec (c :: r)) : Dec r := by
 cases r with
 | nil => trivial
 | cons d r => exact h.2
theorem Dec.lt {c : Rat × Rat} {r : LR} (h : Dec (c :: r)) : ∀ d ∈ r, d.1 < c.1 := by
 induction r generalizing c with
 | nil => intro d hd; exact absurd hd (by simp)
 | cons e r ih =>
  intro d hd
  rcases List.mem_cons.mp hd with rfl | hd
  ·exact h.1
  ·have h3 := ih h.2 d hd
   have h4 : e.1 < c.1 := h.1
   grind
theorem Dec.snoc : ∀ {r : LR} {c d : Rat × Rat}, Dec (r ++ [c]) -> d.1 < c.1 -> Dec (r ++ [c] ++ [d])
 | [], c, d, _, h => ⟨h, trivial⟩
 | [e], c, d, hd, h => ⟨hd.1, h, trivial⟩
 | e :: f :: r, c, d, hd, h => ⟨hd.1, Dec.snoc (r := f :: r) hd.2 h⟩
theorem Dec.get : ∀ {l : LR} {i j : Nat} {c d : Rat × Rat}, Dec l -> l[i]? = some c -> l[j]? = some d -> i < j -> d.1 < c.1
 | [], i, j, c, d, _, h, _, _ => by simp at h
 | e :: r, 0, j + 1, c, d, hd, h, g, _ => by
  have h' : e = c := by simpa using h
  subst h'
  exact hd.lt d (List.mem_of_getElem? (by simpa using g))
 | e :: r, i + 1, j + 1, c, d, hd, h, g, hij => Dec.get (l := r) hd.tail (by simpa using h) (by simpa using g) (by omega)
end My
namespace L2
open PySem PySem.Spec PyProof.Rows
section
variable {X : Cx}
theorem W0 {x : Int} (h : My.Sm 8000 x) : Builtin.Int.intBits x <= 2 ^ 20 := by
 have e : (2 : Nat) ^ 20 = 1048576 := by decide
 have h2 := h.log (by decide)
 unfold Builtin.Int.intBits
 split <;> omega
def B5j (i j : Int) : Prop := My.Sm 8000 i /\ My.Sm 8000 j
def B9d (_ j : Int) : Prop := j ≠ 0 /\ My.Sm 8000 j
theorem F1 : OpR X (binaryOp .Mult) (rI B5j fun i j => .int (i * j)) := opI fun _ _ _ _ _ _ _ hc q => mul_int q (.of_bits (W0 hc.1) (W0 hc.2))
theorem L7 : OpR X (binaryOp .FloorDiv) (rI B9d fun i j => .int (i.fdiv j)) := opI fun _ _ _ _ _ _ _ hc q =>
 floordiv_int hc.1 q (.inl (PyProof.noPylong_of_log2 (Nat.lt_of_lt_of_le (hc.2.log (by decide)) (by decide))))
def kitB (T c : String) : Option Bool := if (Value.type T == Value.type c) = true then some true else if PySem.W.kitMeta c = true then (fastBuiltinMro T).map (·.contains (Value.type c)) else none
theorem B0c (K : PySem.W.Frag) {T c : String} {b : Bool} (h : kitB T c = some b) : PySem.W.kitOne K (.type T) (.type c) = some b := h
def TyV (K : PySem.W.Frag) (H : Hp) (x : V) (T : String) : Prop := match x with
 | .non => T = "NoneType"
 | .bl _ => T = "bool"
 | .int _ => T = "int"
 | .str _ => T = "str"
 | .ref a => (T = "list" /\ ∃ xs, SqL K H a xs) \/ (T = "tuple" /\ ∃ xs, SqT K H a xs) \/ (T = "dict" /\ ∃ kvs, H a = some (.dK kvs))
 | _ => False
theorem A2a : CallR X (.builtin "isinstance") (fun xs H Q => ∃ x c T b, xs = [x, .ty c] /\ TyV X.K H x T /\ kitB T c = some b /\ Q (.bl b) H) := by
 intro pins s σ H xs us Q I r h
 obtain ⟨x, c, T, b, rfl, ty, e, q⟩ := h
 obtain ⟨u, v, rfl, ru, rv⟩ := Vals.two r
 cases (show v = Value.type c from rv)
 have fin : ∀ tk, EP X pins σ Q (.bool b) { s with toks := tk } := fun tk => ⟨.bl b, H, I.tok tk, rfl, q⟩
 have e' := B0c X.K e
 cases x with
 | non => cases (show T = _ from ty); cases (show u = Value.none from ru); exact PySem.W.kia_one PySem.W.kitx_none I.kIn True.intro e' (fun z => nomatch z) fin
 | bl y => cases (show T = _ from ty); cases (show u = Value.bool y from ru); exact PySem.W.kia_one PySem.W.kitx_bool I.kIn True.intro e' (fun z => nomatch z) fin
 | int i => cases (show T = _ from ty); obtain ⟨t, q'⟩ := (show ∃ t, u = Value.int i t from ru); cases q'; exact PySem.W.kia_one PySem.W.kitx_int I.kIn True.intro e' (fun z => nomatch z) fin
 | str y => cases (show T = _ from ty); obtain ⟨t, q'⟩ := (show ∃ t, u = Value.str y t from ru); cases q'; exact PySem.W.kia_one PySem.W.kitx_str I.kIn True.intro e' (fun z => nomatch z) fin
 | ref a =>
  cases (show u = Value.ref a from ru)
  rcases (show _ \/ _ \/ _ from ty) with ⟨rfl, xs, h⟩ | ⟨rfl, xs, h⟩ | ⟨rfl, kvs, h⟩
  ·obtain ⟨its, _, ⟨o, n, h1, h2, _⟩, _⟩ := I.list h
   exact PySem.W.kia_one PySem.W.kitx_list I.kIn ⟨o, h1, h2⟩ e' (fun z => nomatch z) fin
  ·obtain ⟨its, _, ⟨o, h1, h2, _⟩, _⟩ := I.tuple h
   exact PySem.W.kia_one PySem.W.kitx_tuple I.kIn ⟨o, h1, h2⟩ e' (fun z => nomatch z) fin
  ·obtain ⟨_, _, vs, _, p⟩ := (show ObjOk X.prog X.w H s.heap a (.dK kvs) from I.hok a _ h)
   obtain ⟨o, es, ep, h1, h2, _⟩ := p
   exact PySem.W.kia_one PySem.W.kitx_dict I.kIn ⟨o, h1, h2.1⟩ e' (fun z => nomatch z) fin
 | byt _ => exact (show False from ty).elim
 | flt _ => exact (show False from ty).elim
 | ty _ => exact (show False from ty).elim
end
mutual
inductive Den (K : PySem.W.Frag) (H : Hp) : V -> PyData -> Prop
 | non : Den K H .non .none
 | bl (b : Bool) : Den K H (.bl b) (.bool b)
 | int (i : Int) : Den K H (.int i) (.int i)
 | str (x : Str) : Den K H (.str x) (.str x)
 | lst {a : Addr} {xs : List V} {ds : LP} : SqL K H a xs -> DenAll K H xs ds -> Den K H (.ref a) (.list ds)
 | tup {a : Addr} {xs : List V} {ds : LP} : SqT K H a xs -> DenAll K H xs ds -> Den K H (.ref a) (.tuple ds)
 | dct {a : Addr} {kvs : List (Key × V)} : H a = some (.dK kvs) -> Den K H (.ref a) (.dict (kvs.map fun _ => (.none, .none)))
inductive DenAll (K : PySem.W.Frag) (H : Hp) : List V -> LP -> Prop
 | nil : DenAll K H [] []
 | cons {x : V} {xs : List V} {d : PyData} {ds : LP} : Den K H x d -> DenAll K H xs ds -> DenAll K H (x :: xs) (d :: ds)
end
section
variable {X : Cx} {pins : List (Addr × Obj)} {σ : St} {H : Hp} {s : Shared}
mutual
theorem Den.reads (I : Inv X pins σ H s) : ∀ {x : V} {d : PyData} {u : Value}, Den X.K H x d -> RelV x u -> d.canLay0 = true -> ∃ as, Reads s.heap u d as
 | _, _, u, .non, r, _ => by cases (show u = Value.none from r); exact ⟨_, .none⟩
 | _, _, u, .bl b, r, _ => by cases (show u = Value.bool b from r); exact ⟨_, .bool b⟩
 | _, _, u, .int i, r, _ => by obtain ⟨t, q⟩ := (show ∃ t, u = Value.int i t from r); cases q; exact ⟨_, .int i t⟩
 | _, _, u, .str x, r, _ => by obtain ⟨t, q⟩ := (show ∃ t, u = Value.str x t from r); cases q; exact ⟨_, .str x t⟩
 | _, _, u, .lst (a := a) h ds, r, cl => by
  cases (show u = Value.ref a from r)
  obtain ⟨its, rv, ⟨o, n, h1, h2, _, h3⟩, _⟩ := I.list h
  obtain ⟨as, q⟩ := DenAll.reads I ds rv cl
  exact ⟨_, .list h1 h2 h3 (by simpa using q)⟩
 | _, _, u, .tup (a := a) h ds, r, cl => by
  cases (show u = Value.ref a from r)
  obtain ⟨its, rv, ⟨o, h1, h2, n, h3⟩, _⟩ := I.tuple h
  obtain ⟨as, q⟩ := DenAll.reads I ds rv cl
  exact ⟨_, .tuple h1 h2 h3 (by simpa using q)⟩
 | _, _, _, .dct _, _, cl => absurd (show false = true from cl) Bool.false_ne_true
theorem DenAll.reads (I : Inv X pins σ H s) : ∀ {xs : List V} {ds : LP} {us : List Value}, DenAll X.K H xs ds -> Vals xs us -> PyData.canLayAll0 ds = true -> ∃ as, ReadsAll s.heap us ds as
 | _, _, _, .nil, .nil, _ => ⟨_, .nil⟩
 | _, d :: ds, _, .cons h t, .cons r rs, cl => by
  have cl' : (d.canLay0 && PyData.canLayAll0 ds) = true := cl
  rw [Bool.and_eq_true] at cl'
  obtain ⟨as, q⟩ := Den.reads I h r cl'.1
  obtain ⟨bs, q'⟩ := DenAll.reads I t rs cl'.2
  exact ⟨_, .cons q q'⟩
end
end
section
variable {X : Cx}
def rEqD (K : PySem.W.Frag) : R2 := fun x y H Q => ∃ dx dy, Den K H x dx /\ Den K H y dy /\ dx.canLay0 = true /\ dy.canLay0 = true /\ dx.depth <= 60 /\ Q (.bl (PyData.eqv dx dy)) H
def rNeD (K : PySem.W.Frag) : R2 := fun x y H Q => ∃ dx dy, Den K H x dx /\ Den K H y dy /\ dx.canLay0 = true /\ dy.canLay0 = true /\ dx.depth <= 60 /\ Q (.bl (!PyData.eqv dx dy)) H
theorem B61 (hu : X.A.units + 64 < cLine) : OpR X (compareOp .Eq) (rEqD X.K) := by
 intro pins s σ H x y v u Q I rx ry h
 obtain ⟨dx, dy, h1, h2, c1, c2, hd, q⟩ := h
 obtain ⟨as, r1⟩ := h1.reads I rx c1
 obtain ⟨bs, r2⟩ := h2.reads I ry c2
 exact PySem.SeqAt.compareEq_reads r1 r2 c1 c2 (by omega) ⟨.bl _, H, I, rfl, q⟩
theorem B6y (hu : X.A.units + 64 < cLine) : OpR X (compareOp .NotEq) (rNeD X.K) := by
 intro pins s σ H x y v u Q I rx ry h
 obtain ⟨dx, dy, h1, h2, c1, c2, hd, q⟩ := h
 obtain ⟨as, r1⟩ := h1.reads I rx c1
 obtain ⟨bs, r2⟩ := h2.reads I ry c2
 exact PySem.SeqAt.compareNe_reads r1 r2 c1 c2 (by omega) ⟨.bl _, H, I, rfl, q⟩
end
def Kp (p : Addr) (H H' : Hp) : Prop := ∀ b o, b ≠ p -> H b = some o -> H' b = some o
theorem Kp.upd {p : Addr} {H : Hp} {o : HO} : Kp p H (upd H p o) := fun b u n e => by rw [D8 n]; exact e
theorem Kp.trans {p : Addr} {H H1 H2 : Hp} (a : Kp p H H1) (b : Kp p H1 H2) : Kp p H H2 := fun c o n e => b c o n (a c o n e)
theorem Kp.refl {p : Addr} {H : Hp} : Kp p H H := fun _ _ _ e => e
theorem Same.kp {p : Addr} {H H' : Hp} (a : Same H H') : Kp p H H' := fun b o _ e => a b o e
theorem Same.upd {p : Addr} {H : Hp} {o : HO} (h : H p = none) : Same H (upd H p o) := fun b u e => by rw [D8 (F4 e h)]; exact e
theorem SqT.same {K : PySem.W.Frag} {H H' : Hp} {a : Addr} {xs : List V} (e : Same H H') (h : SqT K H a xs) : SqT K H' a xs := by
 rcases h with (h | ⟨o, h⟩) | h
 ·exact .inl (.inl (e _ _ h))
 ·exact .inl (.inr ⟨o, e _ _ h⟩)
 ·exact .inr h
theorem at0 {α : Type} {x : α} {xs : List α} : atI (x :: xs) 0 = some x := L4 (j := 0) rfl
theorem at1 {α : Type} {x y : α} {xs : List α} : atI (x :: y :: xs) 1 = some y := L4 (j := 1) rfl
theorem at2 {α : Type} {x y z : α} {xs : List α} : atI (x :: y :: z :: xs) 2 = some z := L4 (j := 2) rfl
end L2
namespace L2
open PySem PySem.Spec PyProof.Rows
theorem A03 {prog : Program} {w : World} {A : Around} {R : Result -> Shared -> Prop} {s : Shared} {elt target iter : Expr} {ifs : List Expr} {scope : Scope} {pos : Pos} {it acc : Value} {env : Env} (I : Nat -> Shared -> Prop)
    (turn : ∀ n s, I n s -> wpAny (model prog w) A (pyNext it) (fun r s₁ => match r with
      | none => R (.ok .next) s₁
      | some v => wpAny (model prog w) A (letOwnedTupleGo target it v) (fun _ s₁' => wpAny (model prog w) A (assign target env v) (fun _ s₂ =>
          wpAny (model prog w) A (forIn ifs true fun c r => if r = true then do let ok <- isTrue c env (eval c env); pure (ForInStep.yield ok) else pure (ForInStep.yield r)) (fun ok s₃ =>
            if ok = true then wpAny (model prog w) A (eval elt env) (fun x s₄ =>
              wpAny (model prog w) A (call (.builtin "list.append") [acc, x]) (fun _ s₅ => ∃ m, m < n /\ I m s₅) (fun _ _ => False) s₄) (fun _ _ => False) s₃
            else ∃ m, m < n /\ I m s₃) (fun _ _ => False) s₂) (fun _ _ => False) s₁') (fun _ _ => False) s₁) (fun _ _ => False) s)
    (n : Nat) (h : I n s) : codeAny (model prog w) A (.compLoop (.ListComp elt [⟨target, iter, ifs, 0⟩] scope pos) 0 it acc env) R s := by
  refine codeAny_loop rfl I (fun n s hI => ?_) n h
  show wpAny _ A ((compTurn (.ListComp elt [⟨target, iter, ifs, 0⟩] scope pos) 0 it acc env).onRaise (fun x => do noteFrame x env; theTreesLotGoes x)) _ _ s
  refine wpAny_noted ?_
  rw [compTurn_list]
  refine wpAny_bind (wpAny_standAt (wpAny_bind (wpAny_mono (turn n s hI) (fun r s₁ h₁ => ?_) fun _ _ h' => h'.elim)))
  cases r with
  | none => exact wpAny_pure h₁
  | some v =>
    refine wpAny_bind (wpAny_mono h₁ (fun _ s₁' h₁' => ?_) fun _ _ h' => h'.elim)
    refine wpAny_bind (wpAny_mono h₁' (fun _ s₂ h₂ => wpAny_bind (wpAny_mono h₂ (fun ok s₃ h₃ => ?_) fun _ _ h' => h'.elim)) fun _ _ h' => h'.elim)
    cases ok with
    | false => exact wpAny_pure ⟨rfl, h₃⟩
    | true =>
      exact wpAny_bind (wpAny_bind (wpAny_mono h₃ (fun x s₄ h₄ => wpAny_bind (wpAny_mono h₄ (fun _ s₅ h₅ => wpAny_pure (wpAny_pure ⟨rfl, h₅⟩)) fun _ _ h' => h'.elim)) fun _ _ h' => h'.elim))
def PTs (X : Cx) (ifs : List Expr) (t : TT) : Prop :=
 ∀ (pins : List (Addr × Obj)) (s : Shared) (σ : St) (H : Hp) (Q : Bool -> Hp -> Prop), Inv X pins σ H s -> t σ H Q ->
  wpAny (model X.prog X.w) X.A (forIn ifs true fun c r => if r = true then do let ok <- isTrue c X.env (eval c X.env); pure (ForInStep.yield ok) else pure (ForInStep.yield r)) (TP X pins σ Q) X.xe s
def tYes : TT := fun _ H Q => Q true H
theorem B3b {X : Cx} : PTs X [] tYes := fun pins s σ H Q I h => wpAny_tests_nil ⟨H, I, h⟩
theorem B3a {X : Cx} {c : Expr} {t : TT} (h : PT X c t) : PTs X [c] t := fun pins s σ H Q I hw => wpAny_tests_one (h pins s σ H Q I hw)
def Cx.block (X : Cx) (scope : Scope) (cl : List (Str × Addr)) (N' : List Str) (s2 : Shared) (H2 : Hp) (fp : List Addr) : Cx where
 prog := X.prog
 w := X.w
 K := X.K
 mg := X.mg
 base := X.base
 A := X.A
 N := N'
 s₀ := s2
 H₀ := H2
 env := compEnvC scope cl s2.heap.objs.size X.env
 outer := X.stack
 stack := X.stack
 ex := fp
 fn := fun _ => false
 calm := X.calm
 pn := []
 xe := fun _ _ => False
structure CompSc (X : Cx) (scope : Scope) (cl : List (Str × Addr)) (N' : List Str) (cap : List (Option Nat)) : Prop where
 clos : closureFor scope X.env = pure cl
 sub : ∀ x c, cl.lookup x = some c -> X.env.cells.lookup x = some c
 has : ∀ x, ((relabel scope X.env).names.lookup x = some .cell \/ (relabel scope X.env).names.lookup x = some .free) -> ∃ c, cl.lookup x = some c
 kind : scope.kind = .function
 cell : ∀ y ∈ scope.names, y.2 ≠ .cell
 names : ∀ y ∈ scope.names, y.2 = .local -> scope.names.lookup y.1 = some .local
 nd : N'.Nodup
 len : cap.length = N'.length
 noloc : ∀ x c, cl.lookup x = some c -> X.env.kindOf x ≠ some .local
 capt : ∀ (i : Nat) (x : Str) (j : Nat), N'[i]? = some x -> cap[i]? = some (some j) -> X.N[j]? = some x /\ ((relabel scope X.env).names.lookup x = some .cell \/ (relabel scope X.env).names.lookup x = some .free) /\ Vis X.env.scope x /\ ∃ c, cl.lookup x = some c
def capσ (cap : List (Option Nat)) (σ : St) : St := cap.map fun o => o.bind fun j => (σ[j]?).join
section
variable {X : Cx} {pins : List (Addr × Obj)} {σ : St} {H : Hp} {s : Shared} {scope : Scope} {cl : List (Str × Addr)} {N' : List Str} {cap : List (Option Nat)} {fp : List Addr}
theorem B0p (I : Inv X pins σ H s) (C : CompSc X scope cl N' cap) (hf : ∀ b ∈ fp, FpOk X pins H b) (ho : ∀ b ∈ fp, ∃ o, s.heap.get? b = some o) : (X.block scope cl N' s H fp).Ok where
 mod := I.ok.mod
 kind := C.kind
 glob := I.ok.glob
 blt := I.ok.blt
 above := Nat.le_refl _
 inj := fun x y c h1 h2 => I.ok.inj x y c (C.sub x c h1) (C.sub y c h2)
 has := fun x h => C.has x h
 cab := fun x c h _ => absurd (show false = true from h) Bool.false_ne_true
 hd := I.ok.hd
 frames := I.ok.frames
 stk := .inl rfl
 exf := fun b hb => ⟨fun z => by
  obtain ⟨o, e⟩ := ho b hb
  exact absurd (Heap.lt_size e) (by rw [z]; exact Nat.lt_irrefl _), fun x c h => (hf b hb).2.2.2.2.1 x c (C.sub x c h)⟩
 bs := I.bs
 bsz := Nat.le_trans I.ok.bsz I.sz
 noex := fun b o e hb => by
  rcases (hf b hb).2.2.2.1 with z | z
  ·exact I.ok.noex b o e z
  ·exact absurd (Nat.lt_of_lt_of_le (Heap.lt_size e) (Nat.le_trans I.ok.bsz z)) (Nat.lt_irrefl _)
 exfs := fun b hb z => by
  rcases List.mem_cons.mp (I.stkSub b z) with e | e
  ·exact (hf b hb).2.1 e
  ·exact (hf b hb).2.2.1 e
 funs := I.stack
 frf := I.stkFree
theorem A8x {h1 : Heap} {tk : Nat} {m : Str -> Option Value} (I : Inv X pins σ H s) (C : CompSc X scope cl N' cap) (hf : ∀ b ∈ fp, FpOk X pins H b) (ho : ∀ b ∈ fp, ∃ o, s.heap.get? b = some o)
  (hn : h1.Ns s.heap.objs.size m) (hk : ∀ b o, s.heap.get? b = some o -> h1.get? b = some o) : Inv (X.block scope cl N' s H fp) [] (capσ cap σ) H { s with heap := h1, toks := tk } where
 ok := B0p I C hf ho
 os := rfl
 bare := I.bare
 base := Un.kept hk
 loc := ⟨m, hn, fun i x v h1' h2 h3 => by
  unfold capσ at h2
  rw [List.getElem?_map] at h2
  cases e : cap[i]? with
  | none => rw [e] at h2; cases h2
  | some o =>
   rw [e] at h2
   cases o with
   | none => cases h2
   | some j =>
    obtain ⟨q1, q2, q3, c, q4⟩ := C.capt i x j h1' e
    have hv : (σ[j]?).join = some v := Option.some.inj h2
    have hσ : σ[j]? = some (some v) := by
     cases z : σ[j]? with
     | none => rw [z] at hv; cases hv
     | some y => rw [z] at hv; cases (show y = some v from hv); rfl
    obtain ⟨m0, hn0, hl0⟩ := I.loc
    obtain ⟨u, r, l⟩ := hl0 j x v q1 hσ q3
    refine ⟨u, r, .inr ⟨q2, c, q4, ?_⟩⟩
    rcases l with ⟨l1, _⟩ | ⟨_, c', l2, l3⟩
    ·exact absurd l1 (C.noloc x c q4)
    ·have := C.sub x c q4
     rw [l2] at this
     cases this
     exact l3.keeps hk⟩
 cell := fun x c h => by
  obtain ⟨v, z⟩ := I.cell x c (C.sub x c h)
  exact ⟨v, z.keeps hk⟩
 free := I.hok.fresh (Nat.le_refl _)
 freeC := fun x c h => I.freeC x c (C.sub x c h)
 pin := fun p hp => absurd (show p ∈ ([] : List (Addr × Obj)) from hp) (by simp)
 hok := I.hok.kept hk
 len := by unfold capσ; rw [List.length_map]; exact C.len
theorem A8w {H' : Hp} {s' : Shared} {h' : Heap} {σ' : St} {pl : List (Addr × Obj)} (I : Inv X pins σ H s) (J : Inv (X.block scope cl N' s H fp) pl σ' H' s') (hf : ∀ b ∈ fp, FpOk X pins H b) (hs : Heap.SameBut s.heap.objs.size s'.heap h') :
  Inv X pins σ H' { s' with heap := h' } := by
 have ne : ∀ b o, s.heap.get? b = some o -> b ≠ s.heap.objs.size := fun b o e => Nat.ne_of_lt (Heap.lt_size e)
 have B : Un (frs X.stack) fp H H' s.heap s'.heap := J.base
 refine I.call' (s' := { s' with heap := h' }) (ch := fp) J.os ⟨fun b o e n h1 h2 => ?_, fun b o e n h1 h2 => ?_, B.free, fun b o e h2 => ?_, B.tups, B.frzs, B.tbls⟩ ?_ J.bare (fun b hb => ?_)
 ·show h'.get? b = some o
  rw [hs.2 b (ne b o e)]; exact B.keep b o e n h1 h2
 ·show ∃ sl, h'.get? b = _
  rw [hs.2 b (ne b o e)]; exact B.slot b o e n h1 h2
 ·show ∃ o', h'.get? b = _
  rw [hs.2 b (ne b o e)]; exact B.there b o e h2
 ·intro b u e
  have hfree : H' s.heap.objs.size = none := J.free
  have nC : ∀ c v, H' c = some v -> c ≠ s.heap.objs.size := fun c v q z => by rw [z, hfree] at q; cases q
  refine (J.hok b u e).stay (fun c v hc q => ?_) (fun _ q => q) fun _ _ q => q
  show h'.get? c = some v
  have : c ≠ s.heap.objs.size := by
   rcases hc with z | z
   ·rw [z]; exact nC b u e
   ·exact nC c _ z
  rw [hs.2 c this]; exact q
 ·obtain ⟨f0, f1, f2, f3, f4, f5⟩ := hf b hb
  exact ⟨f3, f1, f4, f5⟩
end
def A04 (J : It) (g : TG) (tt : TT) (te : TE) (D : Addr) (Fin : Hp -> Prop) (σ0 : St) (H1 : Hp) : Prop :=
 ∃ W : Nat -> Nat -> St -> Hp -> List V -> Prop, (∃ m, W 0 m σ0 (upd H1 D (.lst [])) []) /\ ∀ i m σ' H' ys, W i m σ' H' ys -> H' D = some (.lst ys) /\ ys.length < sizeLine /\
  ((J.stop i H' /\ Fin H') \/ (J.go i H' /\ ∀ x H2, J.yld i H' x H2 -> g x σ' H2 fun σ2 H3 => tt σ2 H3 fun b H4 => if b = true then
   te σ2 H4 fun y H5 => ∃ zs, H5 D = some (.lst zs) /\ zs.length < sizeLine /\ ∃ m', m' < m /\ W (i + 1) m' σ2 (upd H5 D (.lst (zs ++ [y]))) (zs ++ [y])
   else ∃ m', m' < m /\ W (i + 1) m' σ2 H4 ys))
def A87 (wi : TI) (g : TG) (tt : TT) (te : TE) (cap : List (Option Nat)) : TE := fun σ H Q => wi σ H fun J H1 => ∀ D, H1 D = none -> A04 J g tt te D (fun H' => Q (.ref D) H') (capσ cap σ) H1
section
variable {X : Cx} {scope : Scope} {cl : List (Str × Addr)} {N' : List Str} {cap : List (Option Nat)} {elt tg iter : Expr} {ifs : List Expr} {wi : TI} {g : TG} {tt : TT} {te : TE} {pos : Pos}
theorem A1c {pins : List (Addr × Obj)} {σ : St} {H2 : Hp} {s2 : Shared} {it : Addr} {fp : List Addr} {tn : Nat -> Heap -> Prop} {J : It} {E : Value -> Shared -> Prop} {RR : Value -> Addr -> Result -> Shared -> Prop} {Fin : Addr -> Hp -> Prop}
  (hc : X.calm = true) (C : CompSc X scope cl N' cap) (I2 : Inv X pins σ H2 s2) (T : Turn X.prog X.w X.K tg J fp it tn) (st2 : tn 0 s2.heap) (f2 : ∀ b ∈ fp, FpOk X pins H2 b)
  (hg : ∀ s3 H3 fp, PG (X.block scope cl N' s3 H3 fp) tg g) (ht : ∀ s3 H3 fp, PTs (X.block scope cl N' s3 H3 fp) ifs tt) (he : ∀ s3 H3 fp, PE (X.block scope cl N' s3 H3 fp) elt te)
  (go : ∀ D, H2 D = none -> A04 J g tt te D (Fin D) (capσ cap σ) H2)
  (out : ∀ (D C : Addr) (s' : Shared) (m : Str -> Option Value) (H' : Hp), s'.heap.Ns C m -> C ≠ X.env.locals -> H' C = none -> X.s₀.heap.objs.size <= C -> (∀ x c, X.env.cells.lookup x = some c -> c ≠ C) -> (∀ p ∈ X.pn ++ pins, p.1 ≠ C) -> Fin D H' -> Inv X pins σ H' s' -> RR (.ref D) C (.ok .next) s') :
  wpAny (model X.prog X.w) X.A (newList []) (fun acc s₃ => wpAny (model X.prog X.w) X.A (newFunctionEnv scope X.env.globals cl [] X.env.qual none .none (some X.env)) (fun cenv s₄ =>
   codeAny (model X.prog X.w) X.A (.compStart (.ListComp elt [⟨tg, iter, ifs, 0⟩] scope pos) 0 (.ref it) acc { cenv with scope := relabel scope X.env }) (RR acc cenv.locals) s₄) E s₃) E s2 := by
 refine wpAny_newObj_type (wpAny_newFunctionEnv C.cell (by intro y hy; simp at hy) (fun h₁ hns₁ hsb₁ => ?_) C.kind)
 have hD : H2 s2.heap.objs.size = none := I2.hok.fresh (Nat.le_refl _)
 obtain ⟨W, ⟨m0, w0⟩, turn⟩ := go _ hD
 have I3 : Inv X pins σ (upd H2 s2.heap.objs.size (.lst [])) { s2 with heap := s2.heap.push { cls := .type "list", dict := none, data := .seq ([] : List Value).toArray } } :=
  I2.laid (t' := s2.toks) (o := .lst []) (fun b u e => Heap.get?_push_of_some _ e) (Nat.le_refl _) ⟨Nat.zero_le _, [], 0, .nil, Heap.get?_push_size _ rfl⟩
 have f3 : ∀ b ∈ fp, FpOk X pins (upd H2 s2.heap.objs.size (.lst [])) b := fun b hb => by
  obtain ⟨f0, fr⟩ := f2 b hb
  obtain ⟨o, e, _⟩ := T.obj _ _ st2 b hb
  exact ⟨by rw [D8 (Nat.ne_of_lt (Heap.lt_size e))]; exact f0, fr⟩
 generalize hs3 : ({ s2 with heap := s2.heap.push { cls := .type "list", dict := none, data := .seq ([] : List Value).toArray } } : Shared) = s3 at hns₁ hsb₁ I3 ⊢
 have o3 : ∀ b o, s2.heap.get? b = some o -> s3.heap.get? b = some o := fun b o e => by rw [<- hs3]; exact Heap.get?_push_of_some _ e
 have hk : ∀ b o, s3.heap.get? b = some o -> h₁.get? b = some o := fun b o e => by
  rw [hsb₁.2 b (Nat.ne_of_lt (Heap.lt_size e))]; exact Heap.get?_push_of_some _ e
 have st3 : tn 0 s3.heap := T.keep _ _ _ st2 fun b _ o e => o3 b o e
 have ho : ∀ b ∈ fp, ∃ o, s3.heap.get? b = some o := fun b hb => let ⟨o, e, _⟩ := T.obj _ _ st3 b hb; ⟨o, e⟩
 have I4 := A8x (tk := s3.toks + ([] : List (Str × Value)).length) I3 C f3 ho hns₁ hk
 have st4 : tn 0 h₁ := T.keep _ _ _ st3 fun b _ o e => hk b o e
 have hX : ∀ {H' : Hp} {pl : List (Addr × Obj)}, (∀ b ∈ fp, H' b = none) -> (∀ p ∈ pl, p.1 ∉ fp) -> ∀ b ∈ fp, FpOk (X.block scope cl N' s3 (upd H2 s2.heap.objs.size (.lst [])) fp) pl H' b := fun {H' pl} hn hp b hb => by
  refine ⟨hn b hb, I4.ok.exf b hb |>.1, I4.ok.exfs b hb, .inl hb, (I4.ok.exf b hb).2, fun p hp' z => ?_⟩
  have hp'' : p ∈ pl := by simpa [Cx.block] using hp'
  exact hp p hp'' (by rw [z]; exact hb)
 have fr3 : ∀ b ∈ fp, (upd H2 s2.heap.objs.size (.lst [])) b = none := fun b hb => (f3 b hb).1
 have loop : ∀ s₅ : Shared, s₅ = { s3 with heap := h₁, toks := s3.toks + ([] : List (Str × Value)).length } ->
   codeAny (model X.prog X.w) X.A (.compLoop (.ListComp elt [⟨tg, iter, ifs, 0⟩] scope pos) 0 (.ref it) (.ref s2.heap.objs.size) (compEnvC scope cl s3.heap.objs.size X.env)) (RR (.ref s2.heap.objs.size) s3.heap.objs.size) s₅ := by
  rintro s₅ rfl
  refine A03 (fun n s' => ∃ i σ' H' ys, Inv (X.block scope cl N' s3 (upd H2 s2.heap.objs.size (.lst [])) fp) [] σ' H' s' /\ tn i s'.heap /\ (∀ b ∈ fp, H' b = none) /\ W i n σ' H' ys) ?_ m0 ⟨0, _, _, [], I4, st4, fr3, w0⟩
  rintro n s6 ⟨i, σ6, H6, ys, I6, st6, fr6, w6⟩
  obtain ⟨hl6, hz6, hgo⟩ := turn i n σ6 H6 ys w6
  rcases hgo with ⟨stop, fin⟩ | ⟨go', step⟩
  ·refine wpAny_mono (T.done (X.block scope cl N' s3 (upd H2 s2.heap.objs.size (.lst [])) fp) rfl rfl rfl hc i [] s6 σ6 H6 (fun _ _ => False) I6 (hX fr6 (fun _ z => nomatch z)) st6 stop) (fun r s7 ⟨hr, I7⟩ => ?_) fun _ _ z => z.elim
   subst hr
   obtain ⟨m7, hn7, _⟩ := id I7.loc
   refine out _ _ s7 m7 H6 hn7 (Nat.ne_of_gt I3.lt) I7.free I3.sz (fun x c e z => ?_) (fun p hp z => ?_) fin (A8w I3 I7 f3 (.refl ..))
   ·obtain ⟨v, q⟩ := I3.cell x c e
    exact absurd q.lt (by rw [z]; exact Nat.lt_irrefl _)
   ·exact absurd (Heap.lt_size (I3.pin p hp).1) (by rw [z]; exact Nat.lt_irrefl _)
  ·refine wpAny_mono (T.item (X.block scope cl N' s3 (upd H2 s2.heap.objs.size (.lst [])) fp) rfl rfl rfl hc i [] s6 σ6 H6 (fun _ _ => False) I6 (hX fr6 (fun _ z => nomatch z)) st6 go') (fun r s7 ⟨u, hr, h7⟩ => ?_) fun _ _ z => z.elim
   subst hr
   refine wpAny_mono h7 (fun _ s8 ⟨x, H8, I8, r8, y8, st8, fr8⟩ => ?_) fun _ _ z => z.elim
   have I8' := I8.pinned (hX fr8 (fun _ z => nomatch z)) (T.obj _ _ st8)
   have again : ∀ {s9 : Shared} {σ9 : St} {H9 : Hp}, Inv (X.block scope cl N' s3 (upd H2 s2.heap.objs.size (.lst [])) fp) ([] ++ A0g fp s8.heap) σ9 H9 s9 -> ∀ {zs : List V}, (∃ m', m' < n /\ W (i + 1) m' σ9 H9 zs) ->
     ∃ m, m < n /\ ∃ i σ' H' ys, Inv (X.block scope cl N' s3 (upd H2 s2.heap.objs.size (.lst [])) fp) [] σ' H' s9 /\ tn i s9.heap /\ (∀ b ∈ fp, H' b = none) /\ W i m σ' H' ys := fun {s9 σ9 H9} I9 {zs} ⟨m', hm, w9⟩ => by
    refine ⟨m', hm, i + 1, σ9, H9, zs, I9.unpinned, T.keep _ _ _ st8 fun b hb o e => (I9.pin (b, o) (List.mem_append_right _ (List.mem_append_right _ (N7 hb e)))).1, fun b hb => ?_, w9⟩
    obtain ⟨o, e, d⟩ := T.obj _ _ st8 b hb
    exact (I9.pin (b, o) (List.mem_append_right _ (List.mem_append_right _ (N7 hb e)))).2.1
   refine wpAny_mono (hg _ _ _ _ s8 σ6 H8 x u _ I8' r8 (step x H8 y8)) (fun _ s9 ⟨σ9, H9, I9, q9⟩ => ?_) fun _ _ z => z.elim
   refine wpAny_mono (ht _ _ _ _ s9 σ9 H9 _ I9 q9) (fun ok s10 ⟨H10, I10, q10⟩ => ?_) fun _ _ z => z.elim
   cases ok with
   | false => exact again I10 q10
   | true =>
    rw [if_pos rfl]
    refine wpAny_mono (he _ _ _ _ s10 σ9 H10 _ I10 q10) (fun yv s11 ⟨y, H11, I11, r11, zs, hz, hlen, q11⟩ => ?_) fun _ _ z => z.elim
    refine wpAny_mono (D5 (X := X.block scope cl N' s3 (upd H2 s2.heap.objs.size (.lst [])) fp) _ s11 σ9 H11 (.ref s2.heap.objs.size) [y] (.ref s2.heap.objs.size) [yv] (fun _ H' => ∃ m', m' < n /\ W (i + 1) m' σ9 H' (zs ++ [y])) I11 rfl (.cons r11 .nil) ⟨_, zs, y, rfl, rfl, hz, hlen, q11⟩) (fun _ s12 ⟨_, H12, I12, _, q12⟩ => ?_) fun _ _ z => z.elim
    exact again I12 q12
 exact codeAny_compStart_list (loop _ rfl) (T.self _ 0 _ _ _ st4 (loop _ rfl))
theorem B3n (hc : X.calm = true) (C : CompSc X scope cl N' cap) (hi : PI X tg iter wi) (hg : ∀ s3 H3 fp, PG (X.block scope cl N' s3 H3 fp) tg g) (ht : ∀ s3 H3 fp, PTs (X.block scope cl N' s3 H3 fp) ifs tt)
  (he : ∀ s3 H3 fp, PE (X.block scope cl N' s3 H3 fp) elt te) (hs : ∀ x, foldedSetIterable iter X.env x = pure x := by intro _; rfl) : PE X (.ListComp elt [⟨tg, iter, ifs, 0⟩] scope pos) (A87 wi g tt te cap) := by
 intro pins s σ H Q I h
 rw [eval_ListComp]
 refine wpAny_comprehension_free (use := none) rfl hs C.clos C.kind C.names (thn (hi pins s σ H _ I h) fun v s1 h1 => thn h1 fun itv s2 h2 => ?_)
 obtain ⟨it, fp, tn, J, H2, e, I2, T, st2, f2, go⟩ := h2
 subst e
 refine A1c (RR := fun acc C => compPost (model X.prog X.w) X.A X.xe none (EP X pins σ Q) acc C) (Fin := fun D H' => Q (.ref D) H') hc C I2 T st2 f2 hg ht he go ?_
 intro D C' s' m H' hn n1 n2 n3 n4 n5 fin inv
 exact ⟨m, hn, fun h' hs' => ⟨.ref D, H', inv.turned (t' := s'.toks) (fun b o hb e => (hs'.2 b hb).trans e) n2 n1 (.inr n3) n4 n5, rfl, fin⟩⟩
end
end L2
namespace L2
open PySem PySem.Spec PyProof.Rows
def A06 (env : Env) : List (Str × NameKind) -> List (Str × Addr) -> List (Str × Addr)
 | [], acc => acc
 | (n, k) :: r, acc => A06 env r (if (k == .free) = true then (n, (env.cells.lookup n).getD 0) :: acc else acc)
theorem Z1 {env : Env} : ∀ (l : List (Str × NameKind)) (acc : List (Str × Addr)), (∀ p ∈ l, p.2 = .free -> (env.cells.lookup p.1).isSome = true) ->
  (forIn l acc (fun x s => match x with
   | (name, kind) => if (kind == NameKind.free) = true then do
     let a <- cellOf env name
     pure (ForInStep.yield ((name, a) :: s))
    else pure (ForInStep.yield s)) : Sem (List (Str × Addr))) = pure (A06 env l acc)
 | [], acc, _ => rfl
 | (n, k) :: r, acc, h => by
  rw [List.forIn_cons]
  have hr := fun p hp => h p (List.mem_cons_of_mem _ hp)
  by_cases hk : (k == NameKind.free) = true
  ·have h1 := h (n, k) List.mem_cons_self (by simpa using hk)
   obtain ⟨c, hc⟩ := Option.isSome_iff_exists.mp h1
   have hc : env.cells.lookup n = some c := hc
   have e1 : cellOf env n = pure c := by unfold cellOf; rw [hc]
   simp only [hk, if_true, e1, pure_bind]
   rw [Z1 r _ hr]
   show _ = pure (A06 env r (if (k == .free) = true then (n, (env.cells.lookup n).getD 0) :: acc else acc))
   rw [if_pos hk, hc]
   rfl
  ·simp only [hk, Bool.false_eq_true, if_false, pure_bind]
   rw [Z1 r _ hr]
   show _ = pure (A06 env r (if (k == .free) = true then (n, (env.cells.lookup n).getD 0) :: acc else acc))
   rw [if_neg hk]
theorem A05 {env : Env} : ∀ (l : List (Str × NameKind)) (acc : List (Str × Addr)) (p : Str × Addr), p ∈ A06 env l acc -> p ∈ acc \/ ((p.1, NameKind.free) ∈ l /\ p.2 = (env.cells.lookup p.1).getD 0)
 | [], acc, p, h => .inl h
 | (n, k) :: r, acc, p, h => by
  rcases A05 r _ p h with z | ⟨z, e⟩
  ·by_cases hk : (k == NameKind.free) = true
   ·rw [if_pos hk] at z
    rcases List.mem_cons.mp z with rfl | z
    ·right
     have : k = .free := by simpa using hk
     subst this
     exact ⟨List.mem_cons_self, rfl⟩
    ·exact .inl z
   ·rw [if_neg hk] at z
    exact .inl z
  ·exact .inr ⟨List.mem_cons_of_mem _ z, e⟩
theorem U2 {env : Env} : ∀ (l : List (Str × NameKind)) (acc : List (Str × Addr)) (x : Str), ((∃ c, (x, c) ∈ acc) \/ (x, NameKind.free) ∈ l) -> ∃ c, (x, c) ∈ A06 env l acc
 | [], acc, x, h => by
  rcases h with h | h
  ·exact h
  ·exact absurd h (by simp)
 | (n, k) :: r, acc, x, h => by
  refine U2 r _ x ?_
  rcases h with ⟨c, h⟩ | h
  ·left
   by_cases hk : (k == NameKind.free) = true
   ·rw [if_pos hk]; exact ⟨c, List.mem_cons_of_mem _ h⟩
   ·rw [if_neg hk]; exact ⟨c, h⟩
  ·rcases List.mem_cons.mp h with e | h
   ·left
    cases e
    rw [if_pos (by rfl)]
    exact ⟨_, List.mem_cons_self⟩
   ·exact .inr h
theorem M5 {β : Type} {x : Str} : ∀ {l : List (Str × β)} {c : β}, (x, c) ∈ l -> ∃ c', l.lookup x = some c'
 | (n, d) :: r, c, h => by
  by_cases e : x = n
  ·subst e; exact ⟨d, by simp [List.lookup_cons]⟩
  ·rcases List.mem_cons.mp h with z | z
   ·cases z; exact absurd rfl e
   ·obtain ⟨c', q⟩ := M5 z
    refine ⟨c', ?_⟩
    rw [List.lookup_cons]
    have : (x == n) = false := by simpa using e
    rw [this]; exact q
theorem N9 {scope : Scope} {env : Env} {x : Str} {k : NameKind} (hcell : ∀ y ∈ scope.names, y.2 ≠ .cell) (h : (relabel scope env).names.lookup x = some k) (hk : k = .cell \/ k = .free) : (x, NameKind.free) ∈ scope.names := by
 have h1 := PySem.mem_of_lookup h
 obtain ⟨⟨n, k'⟩, hm, e⟩ := List.mem_map.mp (show (x, k) ∈ scope.names.map _ from h1)
 dsimp only at e
 split at e
 ·rename_i q
  cases e
  simp only [Bool.and_eq_true] at q
  have : k' = .free := by simpa using q.1.1
  subst this
  exact hm
 ·cases e
  rcases hk with rfl | rfl
  ·exact absurd rfl (hcell _ hm)
  ·exact hm
theorem N0 {env : Env} {x : Str} : ∀ {l : List (Str × NameKind)}, l.lookup x = some .free ->
  (l.map fun (n, k) => if (k == NameKind.free && env.scope.kind == .function && env.kindOf n == some .cell) then (n, NameKind.cell) else (n, k)).lookup x = some .cell \/
  (l.map fun (n, k) => if (k == NameKind.free && env.scope.kind == .function && env.kindOf n == some .cell) then (n, NameKind.cell) else (n, k)).lookup x = some .free
 | [], h => by simp at h
 | (n, k) :: r, h => by
  rw [List.lookup_cons] at h
  rw [List.map_cons]
  dsimp only
  by_cases e : (x == n) = true
  ·rw [e] at h
   have hk : k = .free := by simpa using h
   subst hk
   by_cases q : (NameKind.free == NameKind.free && env.scope.kind == .function && env.kindOf n == some .cell) = true
   ·left; rw [if_pos q, List.lookup_cons, e]
   ·right; rw [if_neg q, List.lookup_cons, e]
  ·have e' : (x == n) = false := by simpa using e
   rw [e'] at h
   have := N0 (env := env) h
   by_cases q : (k == NameKind.free && env.scope.kind == .function && env.kindOf n == some .cell) = true
   ·rw [if_pos q, List.lookup_cons, e']; exact this
   ·rw [if_neg q, List.lookup_cons, e']; exact this
theorem Z9 {scope : Scope} {env : Env} {x : Str} (h : scope.names.lookup x = some .free) : (relabel scope env).names.lookup x = some .cell \/ (relabel scope env).names.lookup x = some .free := N0 h
theorem E7 {X : Cx} {scope : Scope} {N' : List Str} {cap : List (Option Nat)}
  (h1 : scope.names.all (fun p => !(p.2 == .free) || ((X.env.cells.lookup p.1).isSome && !(X.env.kindOf p.1 == some .local))) = true)
  (hk : scope.kind = .function) (h2 : scope.names.all (fun p => !(p.2 == .cell)) = true) (h3 : scope.names.all (fun p => !(p.2 == .local) || scope.names.lookup p.1 == some .local) = true)
  (nd : N'.Nodup) (len : cap.length = N'.length)
  (h4 : (N'.zip cap).all (fun q => match q.2 with | none => true | some j => (X.N[j]? == some q.1) && (scope.names.lookup q.1 == some .free) && (X.env.scope.names.lookup q.1 == some .cell || X.env.scope.names.lookup q.1 == some .free)) = true) :
  CompSc X scope (A06 X.env scope.names []) N' cap := by
 have hfree : ∀ p ∈ scope.names, p.2 = .free -> (X.env.cells.lookup p.1).isSome = true /\ X.env.kindOf p.1 ≠ some .local := fun p hp e => by
  have := List.all_eq_true.mp h1 p hp
  rw [e] at this
  have this : ((X.env.cells.lookup p.1).isSome && !(X.env.kindOf p.1 == some .local)) = true := this
  rw [Bool.and_eq_true] at this
  refine ⟨this.1, fun z => ?_⟩
  rw [z] at this
  exact absurd this.2 (by decide)
 have hcell : ∀ y ∈ scope.names, y.2 ≠ .cell := fun y hy e => by
  have := List.all_eq_true.mp h2 y hy
  rw [e] at this
  exact absurd this (by decide)
 have memsub : ∀ x c, (A06 X.env scope.names []).lookup x = some c -> (x, NameKind.free) ∈ scope.names /\ X.env.cells.lookup x = some c := fun x c h => by
  rcases A05 _ _ _ (PySem.mem_of_lookup h) with z | ⟨z, e⟩
  ·exact absurd z (by simp)
  ·refine ⟨z, ?_⟩
   obtain ⟨c', hc'⟩ := Option.isSome_iff_exists.mp (hfree _ z rfl).1
   have hc' : X.env.cells.lookup x = some c' := hc'
   have e : c = (X.env.cells.lookup x).getD 0 := e
   rw [hc'] at e ⊢
   exact congrArg some e.symm
 refine ⟨?_, fun x c h => (memsub x c h).2, fun x h => ?_, hk, hcell, fun y hy e => ?_, nd, len, fun x c h => (hfree _ (memsub x c h).1 rfl).2, fun i x j hi hc => ?_⟩
 ·unfold closureFor
  show (forIn scope.names [] _ >>= fun r => pure r) = _
  rw [Z1 scope.names [] fun p hp e => (hfree p hp e).1]
  rfl
 ·have hm : (x, NameKind.free) ∈ scope.names := by
   rcases h with h | h
   ·exact N9 hcell h (.inl rfl)
   ·exact N9 hcell h (.inr rfl)
  obtain ⟨c, hc⟩ := U2 (env := X.env) scope.names [] x (.inr hm)
  exact M5 hc
 ·have := List.all_eq_true.mp h3 y hy
  rw [e] at this
  simpa using this
 ·have hz : (x, some j) ∈ N'.zip cap := by
   refine List.mem_iff_getElem?.mpr ⟨i, ?_⟩
   rw [List.getElem?_zip_eq_some]
   exact ⟨hi, hc⟩
  have := List.all_eq_true.mp h4 _ hz
  simp only [Bool.and_eq_true, Bool.or_eq_true, beq_iff_eq] at this
  obtain ⟨⟨q1, q2⟩, q3⟩ := this
  refine ⟨q1, Z9 q2, ?_, ?_⟩
  ·rcases q3 with q | q
   ·exact .inr (.inl q)
   ·exact .inr (.inr q)
  ·obtain ⟨c, hc⟩ := U2 (env := X.env) scope.names [] x (.inr (PySem.mem_of_lookup q2))
   exact M5 hc
def R7 (wi : TI) (g : TG) (tt : TT) (te : TE) (cap : List (Option Nat)) (i : Nat) : TS := fun D σ H => wi σ H fun J H1 => ∀ l, H1 l = none -> A04 J g tt te l (fun H' => D.nx (σ.set i (some (.ref l))) H') (capσ cap σ) H1
section
variable {X : Cx} {scope : Scope} {cl : List (Str × Addr)} {N' : List Str} {cap : List (Option Nat)} {elt tg iter : Expr} {ifs : List Expr} {wi : TI} {g : TG} {tt : TT} {te : TE} {pos spos py : Pos} {y : Str} {i : Nat}
theorem A38 (hc : X.calm = true) (hN : X.N.Nodup) (hi : X.N[i]? = some y) (hy : X.env.scope.names.lookup y = some .local) (C : CompSc X scope cl N' cap) (hit : PI X tg iter wi) (hg : ∀ s3 H3 fp, PG (X.block scope cl N' s3 H3 fp) tg g)
  (ht : ∀ s3 H3 fp, PTs (X.block scope cl N' s3 H3 fp) ifs tt) (he : ∀ s3 H3 fp, PE (X.block scope cl N' s3 H3 fp) elt te)
  (hsw : swapsWith (.ListComp elt [⟨tg, iter, ifs, 0⟩] scope pos) (some (.Name y py)) spos.line X.env = pure true) (hs : ∀ x, foldedSetIterable iter X.env x = pure x := by intro _; rfl) :
  PS X (.Assign [.Name y py] (.ListComp elt [⟨tg, iter, ifs, 0⟩] scope pos) spos) (R7 wi g tt te cap i) := by
 intro pins s σ H D I h
 rw [exec_Assign_Name_used _ _ _ _ hsw]
 refine wpAny_bind (wpAny_standAt (wpAny_bind ?_))
 show wpAny _ X.A (do let _ <- comprehension (.ListComp elt [⟨tg, iter, ifs, 0⟩] scope pos) scope X.env _ (newList []) false (eval iter X.env) (some (assign (.Name y py) X.env))) _ _ s
 refine wpAny_bind (wpAny_mono (wpAny_comprehension_free (use := some (assign (.Name y py) X.env)) (Q := fun _ s' => SP X pins D .next s') rfl hs C.clos C.kind C.names
  (thn (hit pins s σ H _ I h) fun v s1 h1 => thn h1 fun itv s2 h2 => ?_)) (fun _ s' hq => wpAny_pure (wpAny_pure hq)) fun _ _ e => e)
 obtain ⟨it, fp, tn, J, H2, e, I2, T, st2, f2, go⟩ := h2
 subst e
 refine A1c (RR := fun acc C => compPost (model X.prog X.w) X.A X.xe (some (assign (.Name y py) X.env)) (fun _ s' => SP X pins D .next s') acc C) (Fin := fun l H' => D.nx (σ.set i (some (.ref l))) H') hc C I2 T st2 f2 hg ht he go ?_
 intro l C' s' m H' hn n1 n2 n3 n4 n5 fin inv
 show wpAny _ X.A (assign (.Name y py) X.env (.ref l)) _ _ _
 refine wpAny_assign_Name (Z6 (v := .ref l) inv hN hi (.inl hy) rfl (fun s'' I'' ⟨a, sb, ha⟩ => ?_) (.inr hy))
 have na : C' ≠ a := by
  rcases ha with e | e
  ·rw [e]; exact n1
  ·exact (n4 _ _ e).symm
 exact ⟨m, hn.sameBut sb na, fun h' hs' => ⟨_, H', I''.turned (t' := s''.toks) (fun b o hb e => (hs'.2 b hb).trans e) n2 n1 (.inr n3) n4 n5, fin⟩⟩
end
section
variable {X : Cx} {K : PySem.W.Frag}
theorem B0d (h : X.K = K) : IxR X (rIxL K) := by subst h; exact ix_list
theorem B3l {pos : Pos} {es : List Expr} {k : Nat} {t : TGs} {n : Nat} (h : X.K = K) (hc : X.calm = true) (hg : PGs X es t)
  (hn : (assignEach es X.env).length = n := by rfl) (hst : (assignEach es X.env).findIdx? (·.1) = none := by rfl) : PG X (.Tuple es k pos) (gTup K n t) := by subst h; exact B6i hc hg hn hst
end
end L2
namespace Prf
open PySem L2 My
abbrev Hpp := L2.Hp
structure StAt (H : Hpp) (p : Addr) : Prop where
 ex : ∃ (c m : Int) (f : Bool), H p = some (.lst [.int c, .int m, .bl f]) /\ 0 <= m /\ m < 2147483648
theorem StAt.same {H H' : Hpp} {p : Addr} (h : StAt H p) (e : Same H H') : StAt H' p := by
 obtain ⟨c, m, f, h, r⟩ := h.ex; exact ⟨c, m, f, e _ _ h, r⟩
theorem StAt.kp {H H' : Hpp} {p l : Addr} (h : StAt H p) (n : p ≠ l) (e : Kp l H H') : StAt H' p := by
 obtain ⟨c, m, f, h, r⟩ := h.ex; exact ⟨c, m, f, e _ _ n h, r⟩
def A43 : Sp := fun vs H Q _ => ∃ (p : Addr) (n : Int), vs = [.ref p, .int n] /\ StAt H p /\ 0 < n /\ Sm 4000 n /\ ∀ d H', 0 <= d -> d < n -> StAt H' p -> Kp p H H' -> Q (.int d) H'
def B2y (K : PySem.W.Frag) : Sp := fun vs H Q _ => ∃ (a : Addr) (ns : List Int), vs = [.ref a] /\ SqL K H a (ns.map V.int) /\ ns.length <= 63 /\ ∀ H', Q (.bl true) H'
theorem sm32 {m : Int} (h0 : 0 <= m) (h1 : m < 2147483648) : Sm 8000 m := Sm.mono (k := 32) (by unfold Sm; omega) (by decide)
theorem U9 {m : Int} (n : Nat) (h : m.natAbs < 2 ^ 64 := by decide) : Sm 8000 m := Sm.mono (k := 64) h (by decide)
theorem A44 {k : Nat} {t b : Int} (h : Sm k b) (hb : b ≠ 0) : Sm k ((Int.gcd t b : Nat) : Int) := by
 have h1 : Int.gcd t b ∣ b.natAbs := Nat.gcd_dvd_right _ _
 have h2 := Nat.le_of_dvd (by omega) h1
 exact h.le (by simpa using h2)
theorem B5s {k : Nat} {t b : Int} (h : Sm k b) (hb : b ≠ 0) : Sm k (sh t b) := by
 have h1 : Int.gcd t b ∣ b.natAbs := Nat.gcd_dvd_right _ _
 have h2 := Nat.le_of_dvd (by omega) h1
 exact h.le (by rw [B5x]; exact h2)
end Prf
namespace Prf
open PySem L2 My
theorem A8k (n : Nat) (h : (n : Int) <= 1000000 := by decide) : CPow 10 (n : Int) := ⟨by omega, h, by decide⟩
theorem sm4 (n : Int) (h : n.natAbs < 2 ^ 64 := by decide) : Sm 4000 n := Sm.mono (k := 64) h (by decide)
theorem B5t (b : Bool) : Sm 8000 (if b = true then (1 : Int) else 0) := by cases b <;> exact U9 0
theorem B13 : kitB "tuple" "tuple" = some true := by decide +kernel
theorem B19 : kitB "int" "bool" = some false := by decide +kernel
end Prf
namespace Prf
open PySem L2 My
inductive R2L {α : Type} (P : Addr -> α -> Prop) : List V -> List α -> Prop
 | nil : R2L P [] []
 | cons {a : Addr} {q : α} {rs : List V} {qs : List α} : P a q -> R2L P rs qs -> R2L P (.ref a :: rs) (q :: qs)
section
variable {α : Type} {P P' : Addr -> α -> Prop}
theorem R2L.get : ∀ {rs qs} {i : Nat} {x : V}, R2L P rs qs -> rs[i]? = some x -> ∃ a q, x = .ref a /\ qs[i]? = some q /\ P a q
 | _, _, _, _, .nil, e => by simp at e
 | _, _, 0, _, .cons h _, e => by simp at e; subst e; exact ⟨_, _, rfl, rfl, h⟩
 | _, _, i + 1, x, .cons _ t, e => by
  obtain ⟨a, q, h1, h2, h3⟩ := R2L.get (i := i) (x := x) t (by simpa using e)
  exact ⟨a, q, h1, by simpa using h2, h3⟩
end
structure OfOk (cs : LR) (a b c d : Nat) : Prop where
 ne : 1 <= cs.length
 le : cs.length <= 5
 dec : Dec cs
 sm : ∀ x ∈ cs, SmR a b x.1 /\ SmR c d x.2
def dq (q : Rat) : PyData := .tuple [.int q.num, .int q.den]
def dcn (c : Rat × Rat) : PyData := .tuple [dq c.1, dq c.2]
theorem A8j : ∀ cs : LR, PyData.canLayAll0 (cs.map dcn) = true
 | [] => rfl
 | c :: r => by
  show ((dcn c).canLay0 && PyData.canLayAll0 (r.map dcn)) = true
  rw [show (dcn c).canLay0 = true from rfl, A8j r]; rfl
theorem A01 : ∀ cs : LR, PyData.depthAll (cs.map dcn) <= 2
 | [] => Nat.zero_le _
 | c :: r => by
  show max (dcn c).depth (PyData.depthAll (r.map dcn)) <= 2
  have h1 := A01 r
  have h2 : (dcn c).depth = 2 := rfl
  omega
theorem J9 {k : Nat} {z : Int} {B : Nat} (h0 : -(B : Int) <= z) (h1 : z <= B) (hB : B < 2 ^ k) : Sm k z := by
 unfold Sm; omega
end Prf
set_option maxHeartbeats 4000000
namespace L2
open PySem
mutual
theorem Den.same {K : PySem.W.Frag} {F F' : Hp} (e : Same F F') : ∀ {v : V} {x : PyData}, Den K F v x -> Den K F' v x
 | _, _, .non => .non
 | _, _, .bl b => .bl b
 | _, _, .int i => .int i
 | _, _, .str x => .str x
 | _, _, .lst h t => .lst (e.seq h) (DenAll.same e t)
 | _, _, .tup h t => .tup (SqT.same e h) (DenAll.same e t)
 | _, _, .dct h => .dct (e _ _ h)
theorem DenAll.same {K : PySem.W.Frag} {F F' : Hp} (e : Same F F') : ∀ {vs : List V} {xs : LP}, DenAll K F vs xs -> DenAll K F' vs xs
 | _, _, .nil => .nil
 | _, _, .cons h t => .cons (Den.same e h) (DenAll.same e t)
end
section
variable {K : PySem.W.Frag} {F : Hp}
theorem Den.intE {v : V} {i : Int} (h : Den K F v (.int i)) : v = .int i := by cases h; rfl
theorem Den.blE {v : V} {b : Bool} (h : Den K F v (.bool b)) : v = .bl b := by cases h; rfl
theorem Den.nonE {v : V} (h : Den K F v .none) : v = .non := by cases h; rfl
theorem Den.tupE {v : V} {xs : LP} (h : Den K F v (.tuple xs)) : ∃ a vs, v = .ref a /\ SqT K F a vs /\ DenAll K F vs xs := by cases h; exact ⟨_, _, rfl, ‹_›, ‹_›⟩
theorem Den.lstE {v : V} {xs : LP} (h : Den K F v (.list xs)) : ∃ a vs, v = .ref a /\ SqL K F a vs /\ DenAll K F vs xs := by cases h; exact ⟨_, _, rfl, ‹_›, ‹_›⟩
theorem DenAll.len : ∀ {vs : List V} {xs : LP}, DenAll K F vs xs -> vs.length = xs.length
 | _, _, .nil => rfl
 | _, _, .cons _ t => congrArg (· + 1) (DenAll.len t)
theorem DenAll.get : ∀ {vs : List V} {xs : LP} {i : Nat} {v : V}, DenAll K F vs xs -> vs[i]? = some v -> ∃ x, xs[i]? = some x /\ Den K F v x
 | _, _, _, _, .nil, e => by simp at e
 | _, _, 0, _, .cons h _, e => by simp at e; subst e; exact ⟨_, rfl, h⟩
 | _, _, i + 1, v, .cons _ t, e => by
  obtain ⟨x, h1, h2⟩ := DenAll.get (i := i) (v := v) t (by simpa using e)
  exact ⟨x, by simpa using h1, h2⟩
theorem DenAll.at : ∀ {vs : List V} {xs : LP} {i : Nat} {x : PyData}, DenAll K F vs xs -> xs[i]? = some x -> ∃ v, vs[i]? = some v /\ Den K F v x
 | _, _, _, _, .nil, e => by simp at e
 | _, _, 0, _, .cons h _, e => by simp at e; subst e; exact ⟨_, rfl, h⟩
 | _, _, i + 1, x, .cons _ t, e => by
  obtain ⟨v, h1, h2⟩ := DenAll.at (i := i) (x := x) t (by simpa using e)
  exact ⟨v, by simpa using h1, h2⟩
theorem DenAll.app : ∀ {vs us : List V} {xs ys : LP}, DenAll K F vs xs -> DenAll K F us ys -> DenAll K F (vs ++ us) (xs ++ ys)
 | _, _, _, _, .nil, h => h
 | _, _, _, _, .cons h t, h' => .cons h (DenAll.app t h')
theorem DenAll.drop : ∀ {vs : List V} {xs : LP} (n : Nat), DenAll K F vs xs -> DenAll K F (vs.drop n) (xs.drop n)
 | _, _, 0, h => by simpa using h
 | _, _, _ + 1, .nil => by simpa using DenAll.nil
 | _, _, n + 1, .cons _ t => by simpa using DenAll.drop n t
theorem DenAll.take : ∀ {vs : List V} {xs : LP} (n : Nat), DenAll K F vs xs -> DenAll K F (vs.take n) (xs.take n)
 | _, _, 0, _ => by simpa using DenAll.nil
 | _, _, _ + 1, .nil => by simpa using DenAll.nil
 | _, _, n + 1, .cons h t => by simpa using DenAll.cons h (DenAll.take n t)
theorem DenAll.dropLast {vs : List V} {xs : LP} (h : DenAll K F vs xs) : DenAll K F vs.dropLast xs.dropLast := by
 rw [List.dropLast_eq_take, List.dropLast_eq_take, h.len]; exact h.take _
theorem DenAll.atIE {vs : List V} {xs : LP} {i : Int} {x : PyData} (h : DenAll K F vs xs) (e : L2.atI xs i = some x) : ∃ v, L2.atI vs i = some v /\ Den K F v x := by
 unfold L2.atI at *
 rw [h.len]
 cases q : ixN xs.length i with
 | none => rw [q] at e; cases e
 | some j => rw [q] at e; exact DenAll.at h e
end
end L2
namespace Pu
open PySem L2 My Prf
abbrev Frag := PySem.W.Frag
inductive OT where
 | leaf (x : PyData) | nd (b : Bool) (a : Addr) (k : OT) | nil | cons (h t : OT)
def OT.fp : OT -> List Addr
 | .leaf _ => []
 | .nd _ a k => a :: k.fp
 | .nil => []
 | .cons h t => h.fp ++ t.fp
def OT.dat : OT -> LP
 | .leaf x => [x]
 | .nd true _ k => [.list k.dat]
 | .nd false _ k => [.tuple k.dat]
 | .nil => []
 | .cons h t => h.dat ++ t.dat
inductive SV where
 | d (x : PyData) | own (xs : LP) | bor (xs : LP) | st | tr (t : OT) | bt (t : OT) | al (a : Addr)
def SV.foot (v : V) : SV -> Addr -> Prop
 | .own _, a => v = .ref a
 | .tr t, a => a ∈ t.fp
 | _, _ => False
def SV.isRes : SV -> Bool
 | .bor _ => false
 | .bt _ => false
 | .al _ => false
 | _ => true
abbrev PEnv := List (Option SV)
structure Wd where
 M : Addr -> Prop
 H : Hpp
 F : Hpp
structure Wd.Ok (w : Wd) : Prop where
 sub : Same w.F w.H
 st : ∀ p, w.M p -> StAt w.H p
 nf : ∀ p, w.M p -> w.F p = none
structure Lw (w w' : Wd) : Prop where
 f : Same w.F w'.F
 h : ∀ b o, w.H b = some o -> ¬ w.M b -> w'.H b = some o
 m : ∀ b, w.M b -> w'.M b
 mn : ∀ b, w'.M b -> w.M b \/ w.H b = none
 dom : ∀ b, w'.H b = none -> w.H b = none
structure Le (w w' : Wd) : Prop extends Lw w w' where
 n : ∀ a o, w'.F a = some o -> w.F a = some o \/ w.H a = none
theorem Lw.refl (w : Wd) : Lw w w := ⟨Same.refl _, fun _ _ h _ => h, fun _ h => h, fun _ h => .inl h, fun _ h => h⟩
theorem Le.refl (w : Wd) : Le w w := ⟨Lw.refl w, fun _ _ h => .inl h⟩
theorem Lw.nm {w w' : Wd} (a : Lw w w') {b : Addr} (h : w.H b ≠ none) (n : ¬ w.M b) : ¬ w'.M b := fun z => (a.mn b z).elim n h
theorem Lw.trans {w w1 w2 : Wd} (a : Lw w w1) (b : Lw w1 w2) : Lw w w2 :=
 ⟨a.f.trans b.f, fun c o h n => b.h c o (a.h c o h n) (a.nm (by rw [h]; simp) n), fun c h => b.m c (a.m c h),
  fun c h => (b.mn c h).elim (a.mn c) fun z => .inr (a.dom c z), fun c h => a.dom c (b.dom c h)⟩
theorem Le.trans {w w1 w2 : Wd} (a : Le w w1) (b : Le w1 w2) : Le w w2 :=
 ⟨a.toLw.trans b.toLw, fun c o h => (b.n c o h).elim (a.n c o) fun z => .inr (a.dom c z)⟩
theorem Le.fnone {w w' : Wd} (a : Le w w') {l : Addr} (h : w.F l = none) (h' : w.H l ≠ none) : w'.F l = none := by
  cases q : w'.F l with
  | none => rfl
  | some o => rcases a.n l o q with z | z
              · rw [h] at z; cases z
              · exact absurd z h'
structure Ct where
 K : Frag
 w0 : Wd
 Z : Addr -> Prop
def VV (K : Frag) (w : Wd) (v : V) (x : PyData) : Prop := Den K w.F v x \/ ∃ l vs xs, v = .ref l /\ x = .list xs /\ w.H l = some (.lst vs) /\ ¬ w.M l /\ DenAll K w.F vs xs
def ho : Bool -> List V -> HO
 | true, vs => .lst vs
 | false, vs => .tup vs
def Tre (K : Frag) (w : Wd) : OT -> List V -> Prop
 | .leaf x, vs => ∃ v, vs = [v] /\ Den K w.F v x
 | .nd b a k, vs => vs = [.ref a] /\ ∃ us, w.H a = some (ho b us) /\ Tre K w k us
 | .nil, vs => vs = []
 | .cons h t, vs => ∃ v r, vs = v :: r /\ Tre K w h [v] /\ Tre K w t r
theorem Tre.mono {K : Frag} {w w' : Wd} (a : Lw w w') : ∀ {t : OT} {vs : List V}, Tre K w t vs -> (∀ a ∈ t.fp, ¬ w.M a) -> Tre K w' t vs
 | .leaf _, _, ⟨v, e, h⟩, _ => ⟨v, e, Den.same a.f h⟩
 | .nd _ p _, _, ⟨e, us, h, k⟩, n => ⟨e, us, a.h _ _ h (n p (by simp [OT.fp])), Tre.mono a k fun q hq => n q (by simp [OT.fp, hq])⟩
 | .nil, _, e, _ => e
 | .cons _ _, _, ⟨v, r, e, h, t⟩, n => ⟨v, r, e, Tre.mono a h fun q hq => n q (by simp [OT.fp, hq]), Tre.mono a t fun q hq => n q (by simp [OT.fp, hq])⟩
theorem Tre.sameF {K : Frag} {M : Addr -> Prop} {H F F' : Hpp} (e : Same F F') : ∀ {t : OT} {vs : List V}, Tre K ⟨M, H, F⟩ t vs -> Tre K ⟨M, H, F'⟩ t vs
 | .leaf _, _, ⟨v, q, h⟩ => ⟨v, q, Den.same e h⟩
 | .nd _ _ _, _, ⟨q, us, h, k⟩ => ⟨q, us, h, Tre.sameF e k⟩
 | .nil, _, q => q
 | .cons _ _, _, ⟨v, r, q, h, t⟩ => ⟨v, r, q, Tre.sameF e h, Tre.sameF e t⟩
def VR (c : Ct) (w : Wd) (v : V) : SV -> Prop
 | .d x => Den c.K w.F v x
 | .own xs => ∃ l vs, v = .ref l /\ w.H l = some (.lst vs) /\ w.F l = none /\ ¬ w.M l /\ c.w0.H l = none /\ DenAll c.K w.F vs xs
 | .bor xs => Den c.K w.F v (.list xs) \/ ∃ l vs, v = .ref l /\ c.w0.H l = some (.lst vs) /\ ¬ c.w0.M l /\ DenAll c.K w.F vs xs
 | .st => ∃ p, v = .ref p /\ w.M p
 | .tr t => Tre c.K w t [v] /\ (∀ a ∈ t.fp, w.H a ≠ none /\ w.F a = none /\ ¬ w.M a /\ c.w0.H a = none) /\ t.fp.Nodup
 | .bt t => Tre c.K ⟨c.w0.M, c.w0.H, w.F⟩ t [v] /\ ∀ a ∈ t.fp, ¬ c.w0.M a
 | .al a => v = .ref a
theorem A85 {H : Hpp} {p b : Addr} {o : HO} (h : upd H p o b = none) : H b = none := by
 unfold upd at h; split at h
 ·cases h
 ·exact h
theorem VR.foot {c : Ct} {w : Wd} {v : V} {a : Addr} : ∀ {s : SV}, VR c w v s -> s.foot v a -> w.H a ≠ none /\ w.F a = none /\ ¬ w.M a /\ c.w0.H a = none
 | .own _, ⟨l, vs, e, h1, h2, h3, h4, _⟩, f => by
  have : V.ref l = .ref a := e.symm.trans f
  cases this
  exact ⟨by rw [h1]; simp, h2, h3, h4⟩
 | .tr _, h, f => h.2.1 a f
theorem VV.mono {K : Frag} {w w' : Wd} {v : V} {x : PyData} (a : Lw w w') (h : VV K w v x) : VV K w' v x := by
 rcases h with h | ⟨l, vs, xs, e, e', h1, h2, h3⟩
 ·exact .inl (Den.same a.f h)
 ·exact .inr ⟨l, vs, xs, e, e', a.h _ _ h1 h2, a.nm (by rw [h1]; simp) h2, DenAll.same a.f h3⟩
theorem VV.den {K : Frag} {w : Wd} {v : V} {x : PyData} (o : w.Ok) (h : VV K w v x) : Den K w.H v x := by
 rcases h with h | ⟨l, vs, xs, e, e', h1, h2, h3⟩
 ·exact Den.same o.sub h
 ·rw [e, e']; exact .lst (SqL.of h1) (DenAll.same o.sub h3)
theorem VR.mono {c : Ct} {w w' : Wd} {v : V} (a : Le w w') : ∀ {s : SV}, VR c w v s -> VR c w' v s
 | .d _, h => Den.same a.f h
 | .own xs, ⟨l, vs, e, h1, h2, h3, h4, h5⟩ => ⟨l, vs, e, a.h _ _ h1 h3, a.fnone h2 (by rw [h1]; simp), a.nm (by rw [h1]; simp) h3, h4, DenAll.same a.f h5⟩
 | .bor xs, .inl h => .inl (Den.same a.f h)
 | .bor xs, .inr ⟨l, vs, e, h1, h2, h3⟩ => .inr ⟨l, vs, e, h1, h2, DenAll.same a.f h3⟩
 | .st, ⟨p, e, h⟩ => ⟨p, e, a.m p h⟩
 | .bt t, ⟨h, o⟩ => ⟨h.sameF a.f, o⟩
 | .al _, h => h
 | .tr t, ⟨h, o, d⟩ => ⟨h.mono a.toLw fun q hq => (o q hq).2.2.1, fun q hq => let ⟨h1, h2, h3, h4⟩ := o q hq; ⟨fun z => h1 (a.dom q z), a.fnone h2 h1, a.nm h1 h3, h4⟩, d⟩
theorem Tre.writ {K : Frag} {w : Wd} {l : Addr} {us : List V} : ∀ {t : OT} {vs : List V}, Tre K w t vs -> l ∉ t.fp -> Tre K ⟨w.M, upd w.H l (.lst us), w.F⟩ t vs
 | .leaf _, _, h, _ => h
 | .nd _ p _, _, ⟨e, ys, h, k⟩, n => ⟨e, ys, by show upd w.H l _ p = _; rw [D8 (fun z => n (by simp [OT.fp, z]))]; exact h, Tre.writ k fun q => n (by simp [OT.fp, q])⟩
 | .nil, _, e, _ => e
 | .cons _ _, _, ⟨v, r, e, h, t⟩, n => ⟨v, r, e, Tre.writ h fun q => n (by simp [OT.fp, q]), Tre.writ t fun q => n (by simp [OT.fp, q])⟩
theorem VR.writ {c : Ct} {w : Wd} {v : V} {l : Addr} {us : List V} (hl : w.H l ≠ none) : ∀ {s : SV}, VR c w v s -> ¬ s.foot v l -> VR c ⟨w.M, upd w.H l (.lst us), w.F⟩ v s
 | .d _, h, _ => h
 | .own _, ⟨l', vs, e, k1, k2, k3, k4, k5⟩, n => ⟨l', vs, e, by show upd w.H l _ l' = _; rw [D8 (fun z => n (by rw [<- z]; exact e))]; exact k1, k2, k3, k4, k5⟩
 | .bor _, h, _ => h
 | .st, h, _ => h
 | .bt _, h, _ => h
 | .al _, h, _ => h
 | .tr _, ⟨h, o, d⟩, n => ⟨h.writ n, fun a ha => ⟨fun z => (o a ha).1 (A85 z), (o a ha).2⟩, d⟩
structure EnvOk (c : Ct) (w : Wd) (env : PEnv) (σ : St) : Prop where
 wok : w.Ok
 le0 : Le c.w0 w
 len : env.length = σ.length
 at' : ∀ (i : Nat) s, env[i]? = some (some s) -> ∃ v, σ[i]? = some (some v) /\ VR c w v s
 own : ∀ (i j : Nat) s t v u a, env[i]? = some (some s) -> env[j]? = some (some t) -> σ[i]? = some (some v) -> σ[j]? = some (some u) -> s.foot v a -> t.foot u a -> i = j
 zf : ∀ a, c.Z a -> w.F a = none /\ w.H a ≠ none /\ ¬ w.M a
 zo : ∀ a (j : Nat) t u, c.Z a -> env[j]? = some (some t) -> σ[j]? = some (some u) -> ¬ t.foot u a
def New (c : Ct) (env : PEnv) (σ : St) (v : V) (s : SV) : Prop := ∀ a, s.foot v a -> (∀ (j : Nat) t u, env[j]? = some (some t) -> σ[j]? = some (some u) -> ¬ t.foot u a) /\ ¬ c.Z a
theorem EnvOk.look {c : Ct} {w : Wd} {env : PEnv} {σ : St} (E : EnvOk c w env σ) {j : Nat} {t : SV} {u : V} (h : env[j]? = some (some t)) (hu : σ[j]? = some (some u)) : VR c w u t := by
 obtain ⟨v, h1, h2⟩ := E.at' j t h
 rw [hu] at h1; cases h1; exact h2
theorem EnvOk.fresh {c : Ct} {w : Wd} {env : PEnv} {σ : St} (E : EnvOk c w env σ) {p : Addr} (hp : w.H p = none) : (∀ (j : Nat) t u, env[j]? = some (some t) -> σ[j]? = some (some u) -> ¬ t.foot u p) /\ ¬ c.Z p :=
 ⟨fun _ _ _ h hu f => ((E.look h hu).foot f).1 hp, fun z => (E.zf p z).2.1 hp⟩
theorem Lw.hsome {w w' : Wd} (a : Lw w w') {l : Addr} (h : w.H l ≠ none) : w'.H l ≠ none := fun z => h (a.dom l z)
theorem EnvOk.mono {c : Ct} {w w' : Wd} {env : PEnv} {σ : St} (E : EnvOk c w env σ) (ok : w'.Ok) (a : Le w w') : EnvOk c w' env σ :=
 ⟨ok, E.le0.trans a, E.len, fun i s e => let ⟨v, h1, h2⟩ := E.at' i s e; ⟨v, h1, h2.mono a⟩, E.own, fun b z => let ⟨h1, h2, h3⟩ := E.zf b z; ⟨a.fnone h1 h2, a.hsome h2, a.nm h2 h3⟩, E.zo⟩
structure Res (c : Ct) (w : Wd) (env : PEnv) (σ : St) (w' : Wd) (v : V) (s : SV) : Prop where
 ev : EnvOk c w' env σ
 lw : Lw w w'
 val : VR c w' v s
 new : New c env σ v s
 res : s.isRes = true
theorem Res.data {c : Ct} {w : Wd} {env : PEnv} {σ : St} {v : V} {x : PyData} (E : EnvOk c w env σ) (h : Den c.K w.F v x) : Res c w env σ w v (.d x) :=
 ⟨E, Lw.refl w, h, fun _ e => (nomatch e), rfl⟩
def Wd.tup (w : Wd) (p : Addr) (o : HO) : Wd := ⟨w.M, upd w.H p o, upd w.F p o⟩
def Wd.lay (w : Wd) (p : Addr) (o : HO) : Wd := ⟨w.M, upd w.H p o, w.F⟩
theorem Wd.Ok.fnone {w : Wd} (o : w.Ok) {p : Addr} (h : w.H p = none) : w.F p = none := by
 cases q : w.F p with
 | none => rfl
 | some u => have := o.sub p u q; rw [h] at this; cases this
theorem Wd.Ok.mne {w : Wd} (o : w.Ok) {p q : Addr} (h : w.H p = none) (hq : w.M q) : q ≠ p := by
 obtain ⟨c, m, f, e, _⟩ := (o.st q hq).ex
 exact F4 e h
theorem L8 {H : Hpp} {p b : Addr} {o : HO} (h : upd H p o b = none) : H b = none := by
 unfold upd at h; split at h
 ·cases h
 ·exact h
theorem Wd.tup_ok {w : Wd} {p : Addr} {o : HO} (ok : w.Ok) (h : w.H p = none) : (w.tup p o).Ok :=
 ⟨fun b u e => by
  show upd w.H p o b = some u
  have e' : upd w.F p o b = some u := e
  unfold upd at e' ⊢
  split at e'
  ·rename_i z; rw [if_pos z]; exact e'
  ·rename_i z; rw [if_neg z]; exact ok.sub b u e',
  fun q hq => (ok.st q hq).same (Same.upd h), fun q hq => by
  show upd w.F p o q = none
  rw [D8 (ok.mne h hq)]; exact ok.nf q hq⟩
theorem Wd.lay_ok {w : Wd} {p : Addr} {o : HO} (ok : w.Ok) (h : w.H p = none) : (w.lay p o).Ok :=
 ⟨ok.sub.trans (Same.upd h), fun q hq => (ok.st q hq).same (Same.upd h), ok.nf⟩
theorem Wd.tup_le {w : Wd} {p : Addr} {o : HO} (ok : w.Ok) (h : w.H p = none) : Le w (w.tup p o) :=
 ⟨⟨Same.upd (ok.fnone h), fun b u e _ => Same.upd h b u e, fun _ z => z, fun _ z => .inl z, fun b z => L8 z⟩, fun a u e => by
  have e' : upd w.F p o a = some u := e
  unfold upd at e'
  split at e'
  ·rename_i z; rw [z]; exact .inr h
  ·exact .inl e'⟩
theorem Wd.lay_le {w : Wd} {p : Addr} {o : HO} (h : w.H p = none) : Le w (w.lay p o) :=
 ⟨⟨Same.refl _, fun b u e _ => Same.upd h b u e, fun _ z => z, fun _ z => .inl z, fun b z => L8 z⟩, fun a u e => .inl e⟩
theorem Res.tup {c : Ct} {w : Wd} {env : PEnv} {σ : St} {p : Addr} {vs : List V} {xs : LP} (E : EnvOk c w env σ) (h : w.H p = none) (hd : DenAll c.K w.F vs xs) : Res c w env σ (w.tup p (.tup vs)) (.ref p) (.d (.tuple xs)) :=
 ⟨E.mono (Wd.tup_ok E.wok h) (Wd.tup_le E.wok h), (Wd.tup_le E.wok h).toLw, .tup (SqT.of D6) (DenAll.same (Wd.tup_le E.wok h).f hd), fun _ e => (nomatch e), rfl⟩
theorem Res.lst {c : Ct} {w : Wd} {env : PEnv} {σ : St} {p : Addr} {vs : List V} {xs : LP} (E : EnvOk c w env σ) (h : w.H p = none) (hd : DenAll c.K w.F vs xs) : Res c w env σ (w.lay p (.lst vs)) (.ref p) (.own xs) :=
 ⟨E.mono (Wd.lay_ok E.wok h) (Wd.lay_le h), (Wd.lay_le h).toLw, ⟨p, vs, rfl, D6, E.wok.fnone h, fun z => E.wok.mne h z rfl, E.le0.dom p h, hd⟩,
  fun a f => (by
  have : V.ref p = .ref a := f
  cases this
  exact E.fresh h), rfl⟩
theorem Res.frz {c : Ct} {w w1 : Wd} {env : PEnv} {σ : St} {v : V} {xs : LP} (R : Res c w env σ w1 v (.own xs)) : ∃ w', w'.H = w1.H /\ EnvOk c w' env σ /\ Lw w w' /\ Den c.K w'.F v (.list xs) := by
 obtain ⟨E, lw, ⟨l, vs, e, h1, h2, h3, h4, h5⟩, new, _⟩ := R
 subst e
 obtain ⟨n1, n2⟩ := new l rfl
 have up : Same w1.F (upd w1.F l (.lst vs)) := Same.upd h2
 have lw' : Lw w1 ⟨w1.M, w1.H, upd w1.F l (.lst vs)⟩ := ⟨up, fun _ _ h _ => h, fun _ h => h, fun _ h => .inl h, fun _ h => h⟩
 refine ⟨⟨w1.M, w1.H, upd w1.F l (.lst vs)⟩, rfl, ⟨⟨fun b u q => ?_, E.wok.st, fun p hp => ?_⟩, ⟨E.le0.toLw.trans lw', fun a u q => ?_⟩, E.len, fun i s q => ?_, E.own, fun a za => ?_, E.zo⟩, lw.trans lw', .lst (SqL.of D6) (DenAll.same up h5)⟩
 ·have q' : upd w1.F l (.lst vs) b = some u := q
  unfold upd at q'
  split at q'
  ·rename_i z; rw [z]; exact h1.trans q'
  ·exact E.wok.sub b u q'
 ·show upd w1.F l (.lst vs) p = none
  rw [D8 (fun z => h3 (by rw [<- z]; exact hp))]; exact E.wok.nf p hp
 ·have q' : upd w1.F l (.lst vs) a = some u := q
  unfold upd at q'
  split at q'
  ·rename_i z; rw [z]; exact .inr h4
  ·exact E.le0.n a u q'
 ·obtain ⟨v, g1, g2⟩ := E.at' i s q
  refine ⟨v, g1, ?_⟩
  cases s with
  | d x => exact Den.same up g2
  | own ys =>
   obtain ⟨l', us, e', k1, k2, k3, k4, k5⟩ := g2
   subst e'
   refine ⟨l', us, rfl, k1, ?_, k3, k4, DenAll.same up k5⟩
   show upd w1.F l (.lst vs) l' = none
   rw [D8 (fun z => n1 i _ _ q g1 (by subst z; rfl))]; exact k2
  | bor ys =>
   rcases g2 with g | ⟨l', us, e', k1, k2, k3⟩
   ·exact .inl (Den.same up g)
   ·exact .inr ⟨l', us, e', k1, k2, DenAll.same up k3⟩
  | st => exact g2
  | bt t => exact ⟨g2.1.sameF up, g2.2⟩
  | al a => exact g2
  | tr t =>
   obtain ⟨k1, k2, k3⟩ := g2
   refine ⟨k1.mono lw' fun p hp => (k2 p hp).2.2.1, fun p hp => ⟨(k2 p hp).1, ?_, (k2 p hp).2.2⟩, k3⟩
   show upd w1.F l (.lst vs) p = none
   rw [D8 (fun z => n1 i _ _ q g1 (by subst z; exact hp))]; exact (k2 p hp).2.1
 ·obtain ⟨z1, z2, z3⟩ := E.zf a za
  refine ⟨?_, z2, z3⟩
  show upd w1.F l (.lst vs) a = none
  rw [D8 (fun z => n2 (by subst z; exact za))]; exact z1
theorem EnvOk.set {c : Ct} {w : Wd} {env : PEnv} {σ : St} {v : V} {s : SV} {i : Nat} (E : EnvOk c w env σ) (h : VR c w v s) (new : New c env σ v s) :
  EnvOk c w (env.set i (some s)) (σ.set i (some v)) := by
 have hl := E.len
 have hd : ∀ {j : Nat} {t : SV} {u : V}, (env.set i (some s))[j]? = some (some t) -> (σ.set i (some v))[j]? = some (some u) -> (i = j /\ t = s /\ u = v) \/ (i ≠ j /\ env[j]? = some (some t) /\ σ[j]? = some (some u)) := by
  intro j t u q q'
  rw [List.getElem?_set] at q q'
  by_cases e : i = j
  ·subst e
   rw [if_pos rfl] at q q'
   split at q
   ·rename_i z
    rw [if_pos (by omega)] at q'
    cases q; cases q'; exact .inl ⟨rfl, rfl, rfl⟩
   ·cases q
  ·rw [if_neg e] at q q'
   exact .inr ⟨e, q, q'⟩
 refine ⟨E.wok, E.le0, by simpa using hl, fun j t q => ?_, fun j k s1 t1 v1 u1 a q1 q2 q3 q4 f1 f2 => ?_, E.zf, fun a j t u za q q' => ?_⟩
 ·rw [List.getElem?_set] at q ⊢
  by_cases e : i = j
  ·subst e
   rw [if_pos rfl] at q ⊢
   split at q
   ·rename_i z
    rw [if_pos (by omega)]
    cases q
    exact ⟨v, rfl, h⟩
   ·cases q
  ·rw [if_neg e] at q ⊢
   exact E.at' j t q
 ·rcases hd q1 q3 with ⟨e1, rfl, rfl⟩ | ⟨e1, p1, p3⟩
  ·rcases hd q2 q4 with ⟨e2, rfl, rfl⟩ | ⟨e2, q2, q4⟩
   ·exact e1.symm.trans e2
   ·exact absurd f2 ((new a f1).1 k _ _ q2 q4)
  ·rcases hd q2 q4 with ⟨e2, rfl, rfl⟩ | ⟨e2, p2, p4⟩
   ·exact absurd f1 ((new a f2).1 j _ _ p1 p3)
   ·exact E.own j k _ _ _ _ a p1 p2 p3 p4 f1 f2
 ·rcases hd q q' with ⟨_, rfl, rfl⟩ | ⟨_, q, q'⟩
  ·exact fun f => (new a f).2 za
  ·exact E.zo a j t u za q q'
end Pu
namespace Pu
open PySem L2 My Prf
abbrev PX := PEnv -> (SV -> PEnv -> Prop) -> Prop
abbrev PDt := PEnv -> (PyData -> PEnv -> Prop) -> Prop
abbrev PTt := PEnv -> (Bool -> PEnv -> Prop) -> Prop
abbrev PAr := PEnv -> (LP -> PEnv -> Prop) -> Prop
abbrev PAs := PEnv -> (List SV -> PEnv -> Prop) -> Prop
theorem Res.pre {c : Ct} {w w1 w2 : Wd} {env : PEnv} {σ : St} {v : V} {s : SV} (a : Lw w w1) (R : Res c w1 env σ w2 v s) : Res c w env σ w2 v s := ⟨R.ev, a.trans R.lw, R.val, R.new, R.res⟩
class RE (K : Frag) (te : TE) (pe : outParam PX) : Prop where
 ok : ∀ (c : Ct) (w : Wd) (env : PEnv) (σ : St) (Qp : SV -> PEnv -> Prop) (Q : VK), c.K = K -> EnvOk c w env σ -> pe env Qp -> (∀ v s env' w', Res c w env' σ w' v s -> Qp s env' -> Q v w'.H) -> te σ w.H Q
class RD (K : Frag) (te : TE) (pd : outParam PDt) : Prop where
 ok : ∀ (c : Ct) (w : Wd) (env : PEnv) (σ : St) (Qp : PyData -> PEnv -> Prop) (Q : VK), c.K = K -> EnvOk c w env σ -> pd env Qp -> (∀ v x env' w', EnvOk c w' env' σ -> Lw w w' -> Den K w'.F v x -> Qp x env' -> Q v w'.H) -> te σ w.H Q
class RW (K : Frag) (te : TE) (pd : outParam PDt) : Prop where
 ok : ∀ (c : Ct) (w : Wd) (env : PEnv) (σ : St) (Qp : PyData -> PEnv -> Prop) (Q : VK), c.K = K -> EnvOk c w env σ -> pd env Qp -> (∀ v x env' w', EnvOk c w' env' σ -> Lw w w' -> VV K w' v x -> Qp x env' -> Q v w'.H) -> te σ w.H Q
def SV.asD (s : SV) (k : PyData -> Prop) : Prop := match s with
 | .d x => k x
 | .own xs => k (.list xs)
 | _ => False
def pdat (pe : PX) (env : PEnv) (Q : PyData -> PEnv -> Prop) : Prop := pe env fun s e => s.asD fun x => Q x e
instance rd_of {K : Frag} {te : TE} {pe : PX} [h : RE K te pe] : RD K te (pdat pe) where
 ok := by
  rintro c w env σ Qp Q rfl E p k
  refine h.ok c w env σ _ Q rfl E p fun v s env' w' R q => ?_
  cases s with
  | d x => exact k v x env' w' R.ev R.lw R.val q
  | own xs =>
   obtain ⟨w2, e, E2, l2, d2⟩ := R.frz
   rw [<- e]
   exact k v _ env' w2 E2 l2 d2 q
  | bor xs => exact (show False from q).elim
  | st => exact (show False from q).elim
  | tr t => exact (show False from q).elim
  | bt t => exact (show False from q).elim
  | al t => exact (show False from q).elim
instance (priority := low) rw_of {K : Frag} {te : TE} {pd : PDt} [h : RD K te pd] : RW K te pd where
 ok := fun c w env σ Qp Q e E p k => h.ok c w env σ Qp Q e E p fun v x env' w' E' l d q => k v x env' w' E' l (.inl d) q
def pVar (i : Nat) (env : PEnv) (Q : SV -> PEnv -> Prop) : Prop := match env[i]? with
 | some (some (.d x)) => Q (.d x) env
 | some (some (.own xs)) => Q (.d (.list xs)) (env.set i (some (.d (.list xs))))
 | some (some .st) => Q .st env
 | _ => False
def B3s (i : Nat) (env : PEnv) (Q : PyData -> PEnv -> Prop) : Prop := match env[i]? with
 | some (some (.d x)) => Q x env
 | some (some (.own xs)) => Q (.list xs) env
 | some (some (.bor xs)) => Q (.list xs) env
 | _ => False
theorem EnvOk.frz {c : Ct} {w : Wd} {env : PEnv} {σ : St} {i : Nat} {xs : LP} (E : EnvOk c w env σ) (h : env[i]? = some (some (.own xs))) :
  ∃ w' v, w'.H = w.H /\ σ[i]? = some (some v) /\ EnvOk c w' (env.set i (some (.d (.list xs)))) σ /\ Lw w w' /\ Den c.K w'.F v (.list xs) := by
 obtain ⟨v, hv, hV⟩ := E.at' i _ h
 have hV' := hV
 obtain ⟨l, vs, e, h1, h2, h3, h4, h5⟩ := hV'
 have up : ∀ {j : Nat} {t : SV}, (env.set i none)[j]? = some (some t) -> i ≠ j /\ env[j]? = some (some t) := by
  intro j t q
  rw [List.getElem?_set] at q
  split at q
  ·split at q <;> cases q
  ·rename_i z; exact ⟨z, q⟩
 have E' : EnvOk c w (env.set i none) σ := ⟨E.wok, E.le0, by simpa using E.len, fun j s q => E.at' j s (up q).2, fun j k s t v u a q1 q2 => E.own j k s t v u a (up q1).2 (up q2).2, E.zf, fun a j t u za q => E.zo a j t u za (up q).2⟩
 have R : Res c w (env.set i none) σ w v (.own xs) := ⟨E', Lw.refl w, hV, fun a f => ⟨fun j t u q z g => (up q).1 (E.own i j _ _ _ _ a h (up q).2 hv z f g), fun za => E.zo a i _ _ za h hv f⟩, rfl⟩
 obtain ⟨w', e', E2, l2, d2⟩ := R.frz
 refine ⟨w', v, e', hv, ?_, l2, d2⟩
 have E3 := E2.set (i := i) (v := v) (s := .d (.list xs)) d2 (fun _ z => nomatch z)
 rw [List.set_set] at E3
 have hi : i < σ.length := (List.getElem?_eq_some_iff.mp hv).1
 rwa [show σ.set i (some v) = σ by
  refine List.ext_getElem? fun j => ?_
  rw [List.getElem?_set]
  split
  ·rename_i z; subst z; simp [hv]
  ·rfl] at E3
instance re_var {K : Frag} {i : Nat} : RE K (tVar i) (pVar i) where
 ok := by
  rintro c w env σ Qp Q rfl E p k
  unfold pVar at p
  split at p
  ·rename_i x e
   obtain ⟨v, h1, h2⟩ := E.at' i _ e
   exact ⟨v, h1, k v _ env w (Res.data E h2) p⟩
  ·rename_i xs e
   obtain ⟨w', v, e', hv, E', l, d⟩ := E.frz e
   refine ⟨v, hv, ?_⟩
   rw [<- e']
   exact k v (.d (.list xs)) _ w' ⟨E', l, d, fun _ z => (nomatch z), rfl⟩ p
  ·rename_i e
   obtain ⟨v, h1, h2⟩ := E.at' i _ e
   exact ⟨v, h1, k v _ env w ⟨E, Lw.refl w, h2, fun _ z => (nomatch z), rfl⟩ p⟩
  ·exact p.elim
theorem VR.vv {c : Ct} {w : Wd} {v : V} {xs : LP} (l : Le c.w0 w) (h : VR c w v (.bor xs)) : VV c.K w v (.list xs) := by
 rcases h with h | ⟨l', vs, e, h1, h2, h3⟩
 ·exact .inl h
 ·exact .inr ⟨l', vs, xs, e, rfl, l.h _ _ h1 h2, l.nm (by rw [h1]; simp) h2, h3⟩
instance rw_var {K : Frag} {i : Nat} : RW K (tVar i) (B3s i) where
 ok := by
  rintro c w env σ Qp Q rfl E p k
  unfold B3s at p
  split at p
  ·rename_i x e
   obtain ⟨v, h1, h2⟩ := E.at' i _ e
   exact ⟨v, h1, k v _ env w E (Lw.refl w) (.inl h2) p⟩
  ·rename_i xs e
   obtain ⟨v, h1, l, vs, e', g1, g2, g3, g4, g5⟩ := E.at' i _ e
   exact ⟨v, h1, k v _ env w E (Lw.refl w) (.inr ⟨l, vs, xs, e', rfl, g1, g3, g5⟩) p⟩
  ·rename_i xs e
   obtain ⟨v, h1, h2⟩ := E.at' i _ e
   exact ⟨v, h1, k v _ env w E (Lw.refl w) (h2.vv E.le0) p⟩
  ·exact p.elim
def pC (x : PyData) (env : PEnv) (Q : SV -> PEnv -> Prop) : Prop := Q (.d x) env
theorem O8 {K : Frag} {v : V} {x : PyData} (h : ∀ F, Den K F v x) : RE K (tC v) (pC x) where
 ok := by
  rintro c w env σ Qp Q rfl E p k
  exact k _ _ env w (Res.data E (h _)) p
instance re_int {K : Frag} {i : Int} : RE K (tC (.int i)) (pC (.int i)) := O8 fun _ => .int i
instance re_bl {K : Frag} {b : Bool} : RE K (tC (.bl b)) (pC (.bool b)) := O8 fun _ => .bl b
instance re_non {K : Frag} : RE K (tC .non) (pC .none) := O8 fun _ => .non
instance re_str {K : Frag} {x : Str} : RE K (tC (.str x)) (pC (.str x)) := O8 fun _ => .str x
class GD (K : Frag) (a : Addr) (x : outParam PyData) : Prop where
 ok : ∀ F, Den K F (.ref a) x
instance re_glob {K : Frag} {a : Addr} {x : PyData} [h : GD K a x] : RE K (tC (.ref a)) (pC x) := O8 h.ok
class RO (K : Frag) (r : R2) (pr : outParam (PyData -> PyData -> (SV -> Prop) -> Prop)) : Prop where
 ok : ∀ (c : Ct) (w : Wd) (env : PEnv) (σ : St) (x y : V) (dx dy : PyData) (Qp : SV -> Prop) (Q : VK), c.K = K -> EnvOk c w env σ -> VV K w x dx -> VV K w y dy -> pr dx dy Qp -> (∀ v s w', Res c w env σ w' v s -> Qp s -> Q v w'.H) -> r x y w.H Q
def pOp (pr : PyData -> PyData -> (SV -> Prop) -> Prop) (pa pb : PDt) (env : PEnv) (Q : SV -> PEnv -> Prop) : Prop := pa env fun x e1 => pb e1 fun y e2 => pr x y fun s => Q s e2
instance re_op {K : Frag} {r : R2} {ta tb : TE} {pr : PyData -> PyData -> (SV -> Prop) -> Prop} {pa pb : PDt} [h : RO K r pr] [ha : RW K ta pa] [hb : RW K tb pb] : RE K (tOp r ta tb) (pOp pr pa pb) where
 ok := by
  rintro c w env σ Qp Q rfl E p k
  refine ha.ok c w env σ _ _ rfl E p fun x dx e1 w1 E1 l1 v1 q1 => ?_
  refine hb.ok c w1 e1 σ _ _ rfl E1 q1 fun y dy e2 w2 E2 l2 v2 q2 => ?_
  exact h.ok c w2 e2 σ x y dx dy _ _ rfl E2 (v1.mono l2) v2 q2 fun v s w' R q => k v s e2 w' (R.pre (l1.trans l2)) q
class SG (g : Int -> Int -> V) (gd : outParam (Int -> Int -> PyData)) : Prop where
 ok : ∀ i j K F, Den K F (g i j) (gd i j)
instance sg_int {f : Int -> Int -> Int} : SG (fun i j => .int (f i j)) (fun i j => .int (f i j)) := ⟨fun _ _ _ _ => .int _⟩
instance sg_bl {f : Int -> Int -> Bool} : SG (fun i j => .bl (f i j)) (fun i j => .bool (f i j)) := ⟨fun _ _ _ _ => .bl _⟩
def pI (C : Int -> Int -> Prop) (gd : Int -> Int -> PyData) (x y : PyData) (Q : SV -> Prop) : Prop := match x, y with
 | .int i, .int j => C i j /\ Q (.d (gd i j))
 | _, _ => False
def pI0 (gd : Int -> Int -> PyData) (x y : PyData) (Q : SV -> Prop) : Prop := match x, y with
 | .int i, .int j => Q (.d (gd i j))
 | _, _ => False
theorem VV.intE {K : Frag} {w : Wd} {v : V} {i : Int} (h : VV K w v (.int i)) : v = .int i := by
 rcases h with h | ⟨l, vs, xs, e, e', _⟩
 ·exact h.intE
 ·cases e'
theorem VV.blE {K : Frag} {w : Wd} {v : V} {b : Bool} (h : VV K w v (.bool b)) : v = .bl b := by
 rcases h with h | ⟨l, vs, xs, e, e', _⟩
 ·exact h.blE
 ·cases e'
instance ro_I {K : Frag} {C : Int -> Int -> Prop} {g : Int -> Int -> V} {gd : Int -> Int -> PyData} [s : SG g gd] : RO K (rI C g) (pI C gd) where
 ok := by
  rintro c w env σ x y dx dy Qp Q rfl E vx vy p k
  unfold pI at p
  split at p
  ·rename_i i j
   exact ⟨i, j, vx.intE, vy.intE, p.1, k _ _ w (Res.data E (s.ok i j _ _)) p.2⟩
  ·exact p.elim
instance ro_I0 {K : Frag} {g : Int -> Int -> V} {gd : Int -> Int -> PyData} [s : SG g gd] : RO K (rI0 g) (pI0 gd) where
 ok := by
  rintro c w env σ x y dx dy Qp Q rfl E vx vy p k
  unfold pI0 at p
  split at p
  ·rename_i i j
   exact ⟨i, j, vx.intE, vy.intE, k _ _ w (Res.data E (s.ok i j _ _)) p⟩
  ·exact p.elim
def pEqD (x y : PyData) (Q : SV -> Prop) : Prop := x.canLay0 = true /\ y.canLay0 = true /\ x.depth <= 60 /\ Q (.d (.bool (PyData.eqv x y)))
def pNeD (x y : PyData) (Q : SV -> Prop) : Prop := x.canLay0 = true /\ y.canLay0 = true /\ x.depth <= 60 /\ Q (.d (.bool (!PyData.eqv x y)))
def isNo : PyData -> Bool
 | .none => true
 | _ => false
def rIsN : R2 := fun x y H Q => y = .non /\ Q (.bl (decide (x = .non))) H
def B55 : R2 := fun x y H Q => y = .non /\ Q (.bl (!decide (x = .non))) H
theorem A1y {X : Cx} : OpR X (compareOp .Is) rIsN := B6z
theorem S3 {X : Cx} : OpR X (compareOp .IsNot) B55 := B4c
theorem Den.no {K : Frag} {F : Hpp} {v : V} {x : PyData} (h : Den K F v x) : decide (v = .non) = isNo x := by cases h <;> rfl
theorem VV.no {K : Frag} {w : Wd} {v : V} {x : PyData} (h : VV K w v x) : decide (v = .non) = isNo x := by
 rcases h with h | ⟨l, vs, xs, e, e', _⟩
 ·exact Den.no h
 ·subst e; subst e'; rfl
def pIsN (x y : PyData) (Q : SV -> Prop) : Prop := y = .none /\ Q (.d (.bool (isNo x)))
def B3y (x y : PyData) (Q : SV -> Prop) : Prop := y = .none /\ Q (.d (.bool (!isNo x)))
theorem VV.nonE {K : Frag} {w : Wd} {v : V} (h : VV K w v .none) : v = .non := by
 rcases h with h | ⟨l, vs, xs, e, e', _⟩
 ·exact h.nonE
 ·cases e'
instance ro_isN {K : Frag} : RO K rIsN pIsN where
 ok := by
  rintro c w env σ x y dx dy Qp Q rfl E vx vy ⟨rfl, p⟩ k
  refine ⟨vy.nonE, k _ _ w (Res.data E ?_) p⟩
  rw [vx.no]; exact .bl _
instance ro_notN {K : Frag} : RO K B55 B3y where
 ok := by
  rintro c w env σ x y dx dy Qp Q rfl E vx vy ⟨rfl, p⟩ k
  refine ⟨vy.nonE, k _ _ w (Res.data E ?_) p⟩
  rw [vx.no]; exact .bl _
def pGet (xs : LP) (i : Int) (Q : SV -> Prop) : Prop := match atI xs i with
 | some z => Q (.d z)
 | none => False
def pIx (x y : PyData) (Q : SV -> Prop) : Prop := match x, y with
 | .list xs, .int i => pGet xs i Q
 | .tuple xs, .int i => pGet xs i Q
 | _, _ => False
theorem VV.lst {K : Frag} {w : Wd} {v : V} {xs : LP} (o : w.Ok) (h : VV K w v (.list xs)) : ∃ a vs, v = .ref a /\ SqL K w.H a vs /\ DenAll K w.F vs xs := by
 rcases h with h | ⟨l, vs, ys, e, e', h1, h2, h3⟩
 ·obtain ⟨a, vs, e, h1, h2⟩ := h.lstE
  exact ⟨a, vs, e, o.sub.seq h1, h2⟩
 ·cases e'; exact ⟨l, vs, e, SqL.of h1, h3⟩
theorem VV.tup {K : Frag} {w : Wd} {v : V} {xs : LP} (o : w.Ok) (h : VV K w v (.tuple xs)) : ∃ a vs, v = .ref a /\ SqT K w.H a vs /\ DenAll K w.F vs xs := by
 rcases h with h | ⟨l, vs, ys, e, e', h1, h2, h3⟩
 ·obtain ⟨a, vs, e, h1, h2⟩ := h.tupE
  exact ⟨a, vs, e, SqT.same o.sub h1, h2⟩
 ·cases e'
instance ro_ix {K : Frag} : RO K (rIx K) pIx where
 ok := by
  rintro c w env σ x y dx dy Qp Q rfl E vx vy p k
  unfold pIx at p
  split at p
  ·rename_i xs i
   unfold pGet at p
   split at p
   ·rename_i z hz
    obtain ⟨a, vs, e, h1, h2⟩ := vx.lst E.wok
    obtain ⟨v, g1, g2⟩ := h2.atIE hz
    exact .inl ⟨a, vs, i, v, e, vy.intE, h1, g1, k _ _ w (Res.data E g2) p⟩
   ·exact p.elim
  ·rename_i xs i
   unfold pGet at p
   split at p
   ·rename_i z hz
    obtain ⟨a, vs, e, h1, h2⟩ := vx.tup E.wok
    obtain ⟨v, g1, g2⟩ := h2.atIE hz
    exact .inr (.inl ⟨a, vs, i, v, e, vy.intE, h1, g1, k _ _ w (Res.data E g2) p⟩)
   ·exact p.elim
  ·exact p.elim
theorem A5 {X : Cx} {K : Frag} (h : X.K = K) : IxR X (rIx K) := by subst h; exact B7v
def pU (gd : Int -> PyData) (x : PyData) (Q : SV -> Prop) : Prop := match x with
 | .int i => Q (.d (gd i))
 | _ => False
def pUn (f : PyData -> (SV -> Prop) -> Prop) (pa : PDt) (env : PEnv) (Q : SV -> PEnv -> Prop) : Prop := pa env fun x e => f x fun s => Q s e
instance re_neg {K : Frag} {ta : TE} {pa : PDt} {f : Int -> Int} [ha : RW K ta pa] : RE K (tUn (rU fun i => .int (f i)) ta) (pUn (pU fun i => .int (f i)) pa) where
 ok := by
  rintro c w env σ Qp Q rfl E p k
  refine ha.ok c w env σ _ _ rfl E p fun x dx e1 w1 E1 l1 v1 q1 => ?_
  unfold pU at q1
  split at q1
  ·rename_i i
   exact ⟨i, v1.intE, k _ _ e1 w1 ((Res.data E1 (.int _)).pre l1) q1⟩
  ·exact q1.elim
inductive VVs (K : Frag) (w : Wd) : List V -> LP -> Prop
 | nil : VVs K w [] []
 | cons {v : V} {x : PyData} {vs : List V} {xs : LP} : VV K w v x -> VVs K w vs xs -> VVs K w (v :: vs) (x :: xs)
class RAv (K : Frag) (ta : TA) (pa : outParam PAr) : Prop where
 ok : ∀ (c : Ct) (w : Wd) (env : PEnv) (σ : St) (Qp : LP -> PEnv -> Prop) (Q : List V -> Hpp -> Prop), c.K = K -> EnvOk c w env σ -> pa env Qp -> (∀ vs xs env' w', EnvOk c w' env' σ -> Lw w w' -> VVs K w' vs xs -> Qp xs env' -> Q vs w'.H) -> ta σ w.H Q
class RAd (K : Frag) (ta : TA) (pa : outParam PAr) : Prop where
 ok : ∀ (c : Ct) (w : Wd) (env : PEnv) (σ : St) (Qp : LP -> PEnv -> Prop) (Q : List V -> Hpp -> Prop), c.K = K -> EnvOk c w env σ -> pa env Qp -> (∀ vs xs env' w', EnvOk c w' env' σ -> Lw w w' -> DenAll K w'.F vs xs -> Qp xs env' -> Q vs w'.H) -> ta σ w.H Q
def pNil (env : PEnv) (Q : LP -> PEnv -> Prop) : Prop := Q [] env
def A6o (pa : PDt) (pr : PAr) (env : PEnv) (Q : LP -> PEnv -> Prop) : Prop := pa env fun x e1 => pr e1 fun xs e2 => Q (x :: xs) e2
instance rav_nil {K : Frag} : RAv K tNil pNil := ⟨fun c w env σ Qp Q _ E p k => k [] [] env w E (Lw.refl w) .nil p⟩
instance rad_nil {K : Frag} : RAd K tNil pNil := ⟨fun c w env σ Qp Q _ E p k => k [] [] env w E (Lw.refl w) .nil p⟩
instance rav_cons {K : Frag} {ta : TE} {tr : TA} {pa : PDt} {pr : PAr} [ha : RW K ta pa] [hr : RAv K tr pr] : RAv K (K6 ta tr) (A6o pa pr) where
 ok := by
  rintro c w env σ Qp Q rfl E p k
  refine ha.ok c w env σ _ _ rfl E p fun x dx e1 w1 E1 l1 v1 q1 => ?_
  refine hr.ok c w1 e1 σ _ _ rfl E1 q1 fun vs xs e2 w2 E2 l2 v2 q2 => ?_
  exact k _ _ e2 w2 E2 (l1.trans l2) (.cons (v1.mono l2) v2) q2
instance rad_cons {K : Frag} {ta : TE} {tr : TA} {pa : PDt} {pr : PAr} [ha : RD K ta pa] [hr : RAd K tr pr] : RAd K (K6 ta tr) (A6o pa pr) where
 ok := by
  rintro c w env σ Qp Q rfl E p k
  refine ha.ok c w env σ _ _ rfl E p fun x dx e1 w1 E1 l1 v1 q1 => ?_
  refine hr.ok c w1 e1 σ _ _ rfl E1 q1 fun vs xs e2 w2 E2 l2 v2 q2 => ?_
  exact k _ _ e2 w2 E2 (l1.trans l2) (.cons (Den.same l2.f v1) v2) q2
def pTup (pa : PAr) (env : PEnv) (Q : SV -> PEnv -> Prop) : Prop := pa env fun xs e => xs.length <= 1000 /\ Q (.d (.tuple xs)) e
def pLst (pa : PAr) (env : PEnv) (Q : SV -> PEnv -> Prop) : Prop := pa env fun xs e => xs.length <= 1000 /\ Q (.own xs) e
instance re_tup {K : Frag} {ta : TA} {pa : PAr} [ha : RAd K ta pa] : RE K (tTup ta) (pTup pa) where
 ok := by
  rintro c w env σ Qp Q rfl E p k
  refine ha.ok c w env σ _ _ rfl E p fun vs xs e1 w1 E1 l1 v1 q1 => ⟨?_, fun p hp => ?_⟩
  ·rw [v1.len]; exact Nat.le_of_lt (O7 q1.1)
  ·exact k _ _ e1 _ ((Res.tup E1 hp v1).pre l1) q1.2
instance re_lst {K : Frag} {ta : TA} {pa : PAr} [ha : RAd K ta pa] : RE K (tLst ta) (pLst pa) where
 ok := by
  rintro c w env σ Qp Q rfl E p k
  refine ha.ok c w env σ _ _ rfl E p fun vs xs e1 w1 E1 l1 v1 q1 => ⟨?_, fun p hp => ?_⟩
  ·rw [v1.len]; exact Nat.le_of_lt (O7 q1.1)
  ·exact k _ _ e1 _ ((Res.lst E1 hp v1).pre l1) q1.2
class RB (K : Frag) (r : List V -> Hpp -> VK -> Prop) (pr : outParam (LP -> (SV -> Prop) -> Prop)) : Prop where
 ok : ∀ (c : Ct) (w : Wd) (env : PEnv) (σ : St) (vs : List V) (xs : LP) (Qp : SV -> Prop) (Q : VK), c.K = K -> EnvOk c w env σ -> VVs K w vs xs -> pr xs Qp -> (∀ v s w', Res c w env σ w' v s -> Qp s -> Q v w'.H) -> r vs w.H Q
def pCB (pr : LP -> (SV -> Prop) -> Prop) (pa : PAr) (env : PEnv) (Q : SV -> PEnv -> Prop) : Prop := pa env fun xs e => pr xs fun s => Q s e
instance re_cb {K : Frag} {r : List V -> Hpp -> VK -> Prop} {ta : TA} {pr : LP -> (SV -> Prop) -> Prop} {pa : PAr} [h : RB K r pr] [ha : RAv K ta pa] : RE K (tCB r ta) (pCB pr pa) where
 ok := by
  rintro c w env σ Qp Q rfl E p k
  refine ha.ok c w env σ _ _ rfl E p fun vs xs e1 w1 E1 l1 v1 q1 => ?_
  exact h.ok c w1 e1 σ vs xs _ _ rfl E1 v1 q1 fun v s w' R q => k v s e1 w' (R.pre l1) q
def rAbs : List V -> Hpp -> VK -> Prop := fun xs H Q => ∃ i, xs = [.int i] /\ Q (.int (if i < 0 then -i else i)) H
def rMax : List V -> Hpp -> VK -> Prop := fun xs H Q => ∃ i j, xs = [.int i, .int j] /\ Q (.int (if j > i then j else i)) H
def rMin : List V -> Hpp -> VK -> Prop := fun xs H Q => ∃ i j, xs = [.int i, .int j] /\ Q (.int (if j < i then j else i)) H
def rInt : List V -> Hpp -> VK -> Prop := fun xs H Q => (∃ i, xs = [.int i] /\ Q (.int i) H) \/ ∃ k, xs = [.bl k] /\ Q (.int (if k then 1 else 0)) H
def B05 (K : Frag) : List V -> Hpp -> VK -> Prop := fun xs H Q => ∃ p ys, xs = [.ref p] /\ (SqL K H p ys \/ SqT K H p ys) /\ ∀ l, H l = none -> Q (.ref l) (upd H l (.lst ys))
def rIsi (K : Frag) : List V -> Hpp -> VK -> Prop := fun xs H Q => ∃ x c T b, xs = [x, .ty c] /\ TyV K H x T /\ kitB T c = some b /\ Q (.bl b) H
section
variable {X : Cx}
theorem A1b : CallR X (.builtin "abs") rAbs := B0l
theorem A8r (hc : X.calm = true) : CallR X (.builtin "max") rMax := A8s hc
theorem A8p (hc : X.calm = true) : CallR X (.builtin "min") rMin := A8q hc
theorem U3 : CallR X (.type "int") rInt := A1a
theorem A07 {K : Frag} (h : X.K = K) : CallR X (.type "list") (B05 K) := by subst h; exact A08
theorem L3 {K : Frag} (h : X.K = K) : CallR X (.builtin "isinstance") (rIsi K) := by subst h; exact A2a
end
def pLen (xs : LP) (Q : SV -> Prop) : Prop := match xs with
 | [.list ys] => Q (.d (.int ys.length))
 | [.tuple ys] => Q (.d (.int ys.length))
 | _ => False
def pAbs (xs : LP) (Q : SV -> Prop) : Prop := match xs with
 | [.int i] => Q (.d (.int (if i < 0 then -i else i)))
 | _ => False
def pMax (xs : LP) (Q : SV -> Prop) : Prop := match xs with
 | [.int i, .int j] => Q (.d (.int (if j > i then j else i)))
 | _ => False
def pMin (xs : LP) (Q : SV -> Prop) : Prop := match xs with
 | [.int i, .int j] => Q (.d (.int (if j < i then j else i)))
 | _ => False
def pInt (xs : LP) (Q : SV -> Prop) : Prop := match xs with
 | [.int i] => Q (.d (.int i))
 | [.bool k] => Q (.d (.int (if k then 1 else 0)))
 | _ => False
def A6a (xs : LP) (Q : SV -> Prop) : Prop := match xs with
 | [.list ys] => Q (.own ys)
 | [.tuple ys] => Q (.own ys)
 | _ => False
instance rb_abs {K : Frag} : RB K rAbs pAbs where
 ok := by
  rintro c w env σ vs xs Qp Q rfl E vv p k
  unfold pAbs at p
  split at p
  ·cases vv with | cons h t => cases t; exact ⟨_, by rw [h.intE], k _ _ w (Res.data E (.int _)) p⟩
  ·exact p.elim
instance rb_max {K : Frag} : RB K rMax pMax where
 ok := by
  rintro c w env σ vs xs Qp Q rfl E vv p k
  unfold pMax at p
  split at p
  ·cases vv with | cons h t => cases t with | cons h' t => cases t; exact ⟨_, _, by rw [h.intE, h'.intE], k _ _ w (Res.data E (.int _)) p⟩
  ·exact p.elim
instance rb_min {K : Frag} : RB K rMin pMin where
 ok := by
  rintro c w env σ vs xs Qp Q rfl E vv p k
  unfold pMin at p
  split at p
  ·cases vv with | cons h t => cases t with | cons h' t => cases t; exact ⟨_, _, by rw [h.intE, h'.intE], k _ _ w (Res.data E (.int _)) p⟩
  ·exact p.elim
instance rb_int {K : Frag} : RB K rInt pInt where
 ok := by
  rintro c w env σ vs xs Qp Q rfl E vv p k
  unfold pInt at p
  split at p
  ·cases vv with | cons h t => cases t; exact .inl ⟨_, by rw [h.intE], k _ _ w (Res.data E (.int _)) p⟩
  ·cases vv with | cons h t => cases t; exact .inr ⟨_, by rw [h.blE], k _ _ w (Res.data E (.int _)) p⟩
  ·exact p.elim
instance rb_lst {K : Frag} : RB K (B05 K) A6a where
 ok := by
  rintro c w env σ vs xs Qp Q rfl E vv p k
  unfold A6a at p
  split at p
  ·cases vv with | cons h t => cases t; obtain ⟨a, us, e, h1, h2⟩ := h.lst E.wok; exact ⟨a, us, by rw [e], .inl h1, fun l hl => k _ _ _ (Res.lst E hl h2) p⟩
  ·cases vv with | cons h t => cases t; obtain ⟨a, us, e, h1, h2⟩ := h.tup E.wok; exact ⟨a, us, by rw [e], .inr h1, fun l hl => k _ _ _ (Res.lst E hl h2) p⟩
  ·exact p.elim
def tyD : PyData -> String
 | .none => "NoneType"
 | .bool _ => "bool"
 | .int _ => "int"
 | .str _ => "str"
 | .list _ => "list"
 | .tuple _ => "tuple"
 | .dict _ => "dict"
theorem Den.ty {K : Frag} {H : Hpp} {v : V} {x : PyData} (h : Den K H v x) : TyV K H v (tyD x) := by
 cases h with
 | non => rfl
 | bl => rfl
 | int => rfl
 | str => rfl
 | lst h _ => exact .inl ⟨rfl, _, h⟩
 | tup h _ => exact .inr (.inl ⟨rfl, _, h⟩)
 | dct h => exact .inr (.inr ⟨rfl, _, h⟩)
def pIsi (c : String) (pa : PDt) (env : PEnv) (Q : SV -> PEnv -> Prop) : Prop := pa env fun x e => match kitB (tyD x) c with
 | some b => Q (.d (.bool b)) e
 | none => False
instance (priority := high) re_isi {K : Frag} {ta : TE} {pa : PDt} {c : String} [ha : RW K ta pa] : RE K (tCB (rIsi K) (K6 ta (K6 (tC (.ty c)) tNil))) (pIsi c pa) where
 ok := by
  rintro ct w env σ Qp Q rfl E p k
  refine ha.ok ct w env σ _ _ rfl E p fun x dx e1 w1 E1 l1 v1 q1 => ?_
  split at q1
  ·rename_i b hb
   exact ⟨x, c, _, b, rfl, Den.ty (v1.den E1.wok), hb, k _ _ e1 w1 ((Res.data E1 (.bl _)).pre l1) q1⟩
  ·exact q1.elim
end Pu
namespace Pu
open PySem L2 My Prf
class RT (K : Frag) (tt : TT) (pt : outParam PTt) : Prop where
 ok : ∀ (c : Ct) (w : Wd) (env : PEnv) (σ : St) (Qp : Bool -> PEnv -> Prop) (Q : Bool -> Hpp -> Prop), c.K = K -> EnvOk c w env σ -> pt env Qp -> (∀ b env' w', EnvOk c w' env' σ -> Lw w w' -> Qp b env' -> Q b w'.H) -> tt σ w.H Q
def asB (x : PyData) (k : Bool -> Prop) : Prop := match x with
 | .bool b => k b
 | _ => False
def A9q (pa : PDt) (env : PEnv) (Q : Bool -> PEnv -> Prop) : Prop := pa env fun x e => asB x fun b => Q b e
instance rt_test {K : Frag} {ta : TE} {pa : PDt} [ha : RW K ta pa] : RT K (B2s ta) (A9q pa) where
 ok := by
  rintro c w env σ Qp Q rfl E p k
  refine ha.ok c w env σ _ _ rfl E p fun x dx e1 w1 E1 l1 v1 q1 => ?_
  unfold asB at q1
  split at q1
  ·exact ⟨_, v1.blE, k _ e1 w1 E1 l1 q1⟩
  ·exact q1.elim
instance rt_B {K : Frag} {ta : TE} {pa : PDt} [ha : RW K ta pa] : RT K (tB ta) (A9q pa) where
 ok := by
  rintro c w env σ Qp Q rfl E p k
  refine ha.ok c w env σ _ _ rfl E p fun x dx e1 w1 E1 l1 v1 q1 => ?_
  unfold asB at q1
  split at q1
  ·exact ⟨_, v1.blE, k _ e1 w1 E1 l1 q1⟩
  ·exact q1.elim
def pYes (env : PEnv) (Q : Bool -> PEnv -> Prop) : Prop := Q true env
instance rt_yes {K : Frag} : RT K tYes pYes := ⟨fun c w env σ Qp Q _ E p k => k true env w E (Lw.refl w) p⟩
def pNot (pa : PTt) (env : PEnv) (Q : Bool -> PEnv -> Prop) : Prop := pa env fun b e => Q (!b) e
def pAnd (pa pb : PTt) (env : PEnv) (Q : Bool -> PEnv -> Prop) : Prop := pa env fun b e => if b = true then pb e Q else Q false e
def pOr (pa pb : PTt) (env : PEnv) (Q : Bool -> PEnv -> Prop) : Prop := pa env fun b e => if b = true then Q true e else pb e Q
instance rt_not {K : Frag} {ta : TT} {pa : PTt} [ha : RT K ta pa] : RT K (tNot ta) (pNot pa) where
 ok := by
  rintro c w env σ Qp Q rfl E p k
  exact ha.ok c w env σ _ _ rfl E p fun b e1 w1 E1 l1 q1 => k _ e1 w1 E1 l1 q1
instance rt_and {K : Frag} {ta tb : TT} {pa pb : PTt} [ha : RT K ta pa] [hb : RT K tb pb] : RT K (tAnd ta tb) (pAnd pa pb) where
 ok := by
  rintro c w env σ Qp Q rfl E p k
  refine ha.ok c w env σ _ _ rfl E p fun b e1 w1 E1 l1 q1 => ?_
  cases b with
  | true => exact hb.ok c w1 e1 σ _ _ rfl E1 q1 fun b e2 w2 E2 l2 q2 => k _ e2 w2 E2 (l1.trans l2) q2
  | false => exact k _ e1 w1 E1 l1 q1
instance rt_or {K : Frag} {ta tb : TT} {pa pb : PTt} [ha : RT K ta pa] [hb : RT K tb pb] : RT K (tOr ta tb) (pOr pa pb) where
 ok := by
  rintro c w env σ Qp Q rfl E p k
  refine ha.ok c w env σ _ _ rfl E p fun b e1 w1 E1 l1 q1 => ?_
  cases b with
  | false => exact hb.ok c w1 e1 σ _ _ rfl E1 q1 fun b e2 w2 E2 l2 q2 => k _ e2 w2 E2 (l1.trans l2) q2
  | true => exact k _ e1 w1 E1 l1 q1
def B4a (pa : PDt) (pb : PX) (env : PEnv) (Q : SV -> PEnv -> Prop) : Prop := pa env fun x e => asB x fun b => if b = true then pb e Q else Q (.d (.bool false)) e
instance re_andV {K : Frag} {ta tb : TE} {pa : PDt} {pb : PX} [ha : RW K ta pa] [hb : RE K tb pb] : RE K (B2v ta tb) (B4a pa pb) where
 ok := by
  rintro c w env σ Qp Q rfl E p k
  refine ha.ok c w env σ _ _ rfl E p fun x dx e1 w1 E1 l1 v1 q1 => ?_
  unfold asB at q1
  split at q1
  ·rename_i b
   refine ⟨_, v1.blE, ?_⟩
   cases b with
   | true => exact hb.ok c w1 e1 σ _ _ rfl E1 q1 fun v s e2 w2 R q2 => k _ _ e2 w2 (R.pre l1) q2
   | false => exact k _ _ e1 w1 ((Res.data E1 (.bl _)).pre l1) q1
  ·exact q1.elim
def pIfE (pt : PTt) (pa pb : PX) (env : PEnv) (Q : SV -> PEnv -> Prop) : Prop := pt env fun b e => if b = true then pa e Q else pb e Q
instance re_if {K : Frag} {tt : TT} {ta tb : TE} {pt : PTt} {pa pb : PX} [ht : RT K tt pt] [ha : RE K ta pa] [hb : RE K tb pb] : RE K (tIf tt ta tb) (pIfE pt pa pb) where
 ok := by
  rintro c w env σ Qp Q rfl E p k
  refine ht.ok c w env σ _ _ rfl E p fun b e1 w1 E1 l1 q1 => ?_
  cases b with
  | true => exact ha.ok c w1 e1 σ _ _ rfl E1 q1 fun v s e2 w2 R q2 => k _ _ e2 w2 (R.pre l1) q2
  | false => exact hb.ok c w1 e1 σ _ _ rfl E1 q1 fun v s e2 w2 R q2 => k _ _ e2 w2 (R.pre l1) q2
inductive Md where
 | dat | vw | st | bt
def TV (K : Frag) (w : Wd) (v : V) (t : OT) : Prop := Tre K w t [v] /\ ∀ a ∈ t.fp, ¬ w.M a
theorem TV.mono {K : Frag} {w w' : Wd} {v : V} {t : OT} (a : Lw w w') (h : TV K w v t) (hs : ∀ a ∈ t.fp, w.H a ≠ none) : TV K w' v t :=
 ⟨h.1.mono a h.2, fun b hb => a.nm (hs b hb) (h.2 b hb)⟩
theorem Tre.has {K : Frag} {w : Wd} : ∀ {t : OT} {vs : List V}, Tre K w t vs -> ∀ a ∈ t.fp, w.H a ≠ none
 | .leaf _, _, _, _, z => nomatch z
 | .nd _ p _, _, ⟨_, _, h, k⟩, a, z => (List.mem_cons.mp z).elim (fun e => by rw [e, h]; simp) (Tre.has k a)
 | .nil, _, _, _, z => nomatch z
 | .cons _ _, _, ⟨_, _, _, h, t⟩, a, z => (List.mem_append.mp z).elim (Tre.has h a) (Tre.has t a)
inductive Args (K : Frag) (w : Wd) : List Md -> List V -> List SV -> Prop
 | nil : Args K w [] [] []
 | dat {v : V} {x : PyData} {md : List Md} {vs : List V} {as : List SV} : Den K w.F v x -> Args K w md vs as -> Args K w (.dat :: md) (v :: vs) (.d x :: as)
 | vw {v : V} {xs : LP} {md : List Md} {vs : List V} {as : List SV} : VV K w v (.list xs) -> Args K w md vs as -> Args K w (.vw :: md) (v :: vs) (.bor xs :: as)
 | bt {v : V} {t : OT} {md : List Md} {vs : List V} {as : List SV} : TV K w v t -> Args K w md vs as -> Args K w (.bt :: md) (v :: vs) (.bt t :: as)
 | st {v : V} {md : List Md} {vs : List V} {as : List SV} : (∃ p, v = .ref p /\ w.M p) -> Args K w md vs as -> Args K w (.st :: md) (v :: vs) (.st :: as)
theorem Args.len {K : Frag} {w : Wd} : ∀ {md vs as}, Args K w md vs as -> vs.length = md.length
 | _, _, _, .nil => rfl
 | _, _, _, .dat _ t => congrArg (· + 1) (Args.len t)
 | _, _, _, .vw _ t => congrArg (· + 1) (Args.len t)
 | _, _, _, .st _ t => congrArg (· + 1) (Args.len t)
 | _, _, _, .bt _ t => congrArg (· + 1) (Args.len t)
abbrev PSp := List SV -> (SV -> Prop) -> Prop
def noZ : Addr -> Prop := fun _ => False
def spOf (K : Frag) (md : List Md) (psp : PSp) : Sp := fun vs H Q _ => ∃ (w : Wd) (as : List SV) (Qp : SV -> Prop), w.H = H /\ w.Ok /\ Args K w md vs as /\ psp as Qp /\
 ∀ v s w', w'.Ok -> Le w w' -> VR ⟨K, w, noZ⟩ w' v s -> s.isRes = true -> Qp s -> Q v w'.H
theorem spOf.len {K : Frag} {md : List Md} {psp : PSp} {n : Nat} (h : md.length = n) : ∀ vs H Q E, spOf K md psp vs H Q E -> vs.length = n := by
 rintro vs H Q E ⟨w, as, Qp, _, _, a, _⟩
 exact a.len.trans h
class RAm (K : Frag) (md : List Md) (ta : TA) (pa : outParam PAs) : Prop where
 ok : ∀ (c : Ct) (w : Wd) (env : PEnv) (σ : St) (Qp : List SV -> PEnv -> Prop) (Q : List V -> Hpp -> Prop), c.K = K -> EnvOk c w env σ -> pa env Qp -> (∀ vs as env' w', EnvOk c w' env' σ -> Lw w w' -> Args K w' md vs as -> Qp as env' -> Q vs w'.H) -> ta σ w.H Q
def B30 (env : PEnv) (Q : List SV -> PEnv -> Prop) : Prop := Q [] env
def A6m (pa : PDt) (pr : PAs) (env : PEnv) (Q : List SV -> PEnv -> Prop) : Prop := pa env fun x e1 => pr e1 fun as e2 => Q (.d x :: as) e2
def asL (x : PyData) (k : LP -> Prop) : Prop := match x with
 | .list xs => k xs
 | _ => False
def A6k (pa : PDt) (pr : PAs) (env : PEnv) (Q : List SV -> PEnv -> Prop) : Prop := pa env fun x e1 => asL x fun xs => pr e1 fun as e2 => Q (.bor xs :: as) e2
def isSt (o : Option (Option SV)) (k : Prop) : Prop := match o with
 | some (some .st) => k
 | _ => False
def A27 (i : Nat) (pr : PAs) (env : PEnv) (Q : List SV -> PEnv -> Prop) : Prop := isSt env[i]? (pr env fun as e2 => Q (.st :: as) e2)
instance ram_nil {K : Frag} : RAm K [] tNil B30 := ⟨fun c w env σ Qp Q _ E p k => k [] [] env w E (Lw.refl w) .nil p⟩
instance ram_dat {K : Frag} {md : List Md} {ta : TE} {tr : TA} {pa : PDt} {pr : PAs} [ha : RD K ta pa] [hr : RAm K md tr pr] : RAm K (.dat :: md) (K6 ta tr) (A6m pa pr) where
 ok := by
  rintro c w env σ Qp Q rfl E p k
  refine ha.ok c w env σ _ _ rfl E p fun x dx e1 w1 E1 l1 v1 q1 => ?_
  refine hr.ok c w1 e1 σ _ _ rfl E1 q1 fun vs xs e2 w2 E2 l2 v2 q2 => ?_
  exact k _ _ e2 w2 E2 (l1.trans l2) (.dat (Den.same l2.f v1) v2) q2
instance ram_vw {K : Frag} {md : List Md} {ta : TE} {tr : TA} {pa : PDt} {pr : PAs} [ha : RW K ta pa] [hr : RAm K md tr pr] : RAm K (.vw :: md) (K6 ta tr) (A6k pa pr) where
 ok := by
  rintro c w env σ Qp Q rfl E p k
  refine ha.ok c w env σ _ _ rfl E p fun x dx e1 w1 E1 l1 v1 q1 => ?_
  unfold asL at q1
  split at q1
  ·refine hr.ok c w1 e1 σ _ _ rfl E1 q1 fun vs xs e2 w2 E2 l2 v2 q2 => ?_
   exact k _ _ e2 w2 E2 (l1.trans l2) (.vw (v1.mono l2) v2) q2
  ·exact q1.elim
instance ram_st {K : Frag} {md : List Md} {i : Nat} {tr : TA} {pr : PAs} [hr : RAm K md tr pr] : RAm K (.st :: md) (K6 (tVar i) tr) (A27 i pr) where
 ok := by
  rintro c w env σ Qp Q rfl E p k
  unfold A27 isSt at p
  split at p
  ·rename_i e
   obtain ⟨v, h1, h2⟩ := E.at' i _ e
   refine ⟨v, h1, ?_⟩
   refine hr.ok c w env σ _ _ rfl E p fun vs xs e2 w2 E2 l2 v2 q2 => ?_
   obtain ⟨q, e', hm⟩ := h2
   exact k _ _ e2 w2 E2 l2 (.st ⟨q, e', l2.m _ hm⟩ v2) q2
  ·exact p.elim
def B6w (psp : PSp) (pa : PAs) (env : PEnv) (Q : SV -> PEnv -> Prop) : Prop := pa env fun as e => psp as fun s => Q s e
theorem Res.called {c : Ct} {w w' : Wd} {env : PEnv} {σ : St} {v : V} {s : SV} (E : EnvOk c w env σ) (ok : w'.Ok) (l : Le w w') (h : VR ⟨c.K, w, noZ⟩ w' v s) (r : s.isRes = true) : Res c w env σ w' v s := by
 refine ⟨E.mono ok l, l.toLw, ?_, fun a f => E.fresh (h.foot f).2.2.2, r⟩
 cases s with
 | d x => exact h
 | own xs => obtain ⟨a, vs, e, h1, h2, h3, h4, h5⟩ := h; exact ⟨a, vs, e, h1, h2, h3, E.le0.dom _ h4, h5⟩
 | bor xs => cases r
 | bt t => cases r
 | al t => cases r
 | st => exact h
 | tr t => exact ⟨h.1, fun a f => ⟨(h.2.1 a f).1, (h.2.1 a f).2.1, (h.2.1 a f).2.2.1, E.le0.dom _ (h.2.1 a f).2.2.2⟩, h.2.2⟩
instance re_call {K : Frag} {md : List Md} {psp : PSp} {E0' : XK} {ta : TA} {pa : PAs} [ha : RAm K md ta pa] : RE K (A1o (spOf K md psp) [] E0' ta) (B6w psp pa) where
 ok := by
  rintro c w env σ Qp Q rfl E p k
  refine ha.ok c w env σ _ _ rfl E p fun vs as e1 w1 E1 l1 a1 q1 => ?_
  rw [List.append_nil]
  exact ⟨w1, as, _, rfl, E1.wok, a1, q1, fun v s w' ok l h r q => k v s e1 w' ((Res.called E1 ok l h r).pre l1) q⟩
structure PEnds where
 nx : PEnv -> Prop
 rt : SV -> PEnv -> Prop
 bk : PEnv -> Prop
 ct : PEnv -> Prop
abbrev PSt := PEnds -> PEnv -> Prop
structure EndsOk (c : Ct) (w : Wd) (Dp : PEnds) (D : Ends) : Prop where
 nx : ∀ env σ w', EnvOk c w' env σ -> Same w.F w'.F -> Dp.nx env -> D.nx σ w'.H
 rt : ∀ v s env σ w', EnvOk c w' env σ -> VR c w' v s -> s.isRes = true -> Dp.rt s env -> D.rt v w'.H
 bk : ∀ env σ w', EnvOk c w' env σ -> Same w.F w'.F -> Dp.bk env -> D.bk σ w'.H
 ct : ∀ env σ w', EnvOk c w' env σ -> Same w.F w'.F -> Dp.ct env -> D.ct σ w'.H
theorem EndsOk.on {c : Ct} {w w1 : Wd} {Dp : PEnds} {D : Ends} (h : EndsOk c w Dp D) (s : Same w.F w1.F) : EndsOk c w1 Dp D :=
 ⟨fun e σ w' E s' => h.nx e σ w' E (s.trans s'), h.rt, fun e σ w' E s' => h.bk e σ w' E (s.trans s'), fun e σ w' E s' => h.ct e σ w' E (s.trans s')⟩
class RS (K : Frag) (ts : TS) (ps : outParam PSt) : Prop where
 ok : ∀ (c : Ct) (w : Wd) (env : PEnv) (σ : St) (Dp : PEnds) (D : Ends), c.K = K -> EnvOk c w env σ -> EndsOk c w Dp D -> ps Dp env -> ts D σ w.H
def B31 (D : PEnds) (env : PEnv) : Prop := D.nx env
def B6r (_ : PEnds) (_ : PEnv) : Prop := False
def pSeq (p q : PSt) (D : PEnds) (env : PEnv) : Prop := p { D with nx := q D } env
instance rs_next {K : Frag} : RS K B2u B31 := ⟨fun c w env σ Dp D _ E h p => h.nx env σ w E (Same.refl _) p⟩
instance rs_never {K : Frag} : RS K A40 B6r := ⟨fun c w env σ Dp D _ E h p => p.elim⟩
instance rs_seq {K : Frag} {t u : TS} {p q : PSt} [ht : RS K t p] [hu : RS K u q] : RS K (tSeq t u) (pSeq p q) where
 ok := by
  rintro c w env σ Dp D rfl E h pr
  refine ht.ok c w env σ { Dp with nx := q Dp } _ rfl E ⟨fun e1 σ1 w1 E1 s1 n1 => ?_, h.rt, h.bk, h.ct⟩ pr
  exact hu.ok c w1 e1 σ1 Dp D rfl E1 (h.on s1) n1
def B38 (pe : PX) (D : PEnds) (env : PEnv) : Prop := pe env fun _ e => D.nx e
instance (priority := low) rs_drop {K : Frag} {te : TE} {pe : PX} [he : RE K te pe] : RS K (A86 te) (B38 pe) where
 ok := by
  rintro c w env σ Dp D rfl E h p
  exact he.ok c w env σ _ _ rfl E p fun v s e1 w1 R q => h.nx e1 σ w1 R.ev R.lw.f q
def pRet (pe : PX) (D : PEnds) (env : PEnv) : Prop := pe env fun s e => D.rt s e
instance (priority := low) rs_ret {K : Frag} {te : TE} {pe : PX} [he : RE K te pe] : RS K (tRet te) (pRet pe) where
 ok := by
  rintro c w env σ Dp D rfl E h p
  exact he.ok c w env σ _ _ rfl E p fun v s e1 w1 R q => h.rt v s e1 σ w1 R.ev R.val R.res q
def B3w (i : Nat) (D : PEnds) (env : PEnv) : Prop := match env[i]? with
 | some (some (.bor _)) => False
 | some (some (.bt _)) => False
 | some (some (.al _)) => False
 | some (some s) => D.rt s env
 | _ => False
instance rs_retV {K : Frag} {i : Nat} : RS K (tRet (tVar i)) (B3w i) where
 ok := by
  rintro c w env σ Dp D rfl E h p
  unfold B3w at p
  split at p
  ·exact p.elim
  ·exact p.elim
  ·exact p.elim
  ·rename_i s hn hn2 hn3 e
   obtain ⟨v, h1, h2⟩ := E.at' i _ e
   refine ⟨v, h1, h.rt v s env σ w E h2 ?_ p⟩
   cases s with
   | bor xs => exact absurd rfl (hn xs)
   | bt t => exact absurd rfl (hn2 t)
   | al t => exact absurd rfl (hn3 t)
   | _ => rfl
  ·exact p.elim
def pIf (pt : PTt) (p q : PSt) (D : PEnds) (env : PEnv) : Prop := pt env fun b e => if b = true then p D e else q D e
instance rs_if {K : Frag} {tt : TT} {t u : TS} {pt : PTt} {p q : PSt} [hc : RT K tt pt] [ht : RS K t p] [hu : RS K u q] : RS K (tIfS tt t u) (pIf pt p q) where
 ok := by
  rintro c w env σ Dp D rfl E h pr
  refine hc.ok c w env σ _ _ rfl E pr fun b e1 w1 E1 l1 q1 => ?_
  cases b with
  | true => exact ht.ok c w1 e1 σ Dp D rfl E1 (h.on l1.f) q1
  | false => exact hu.ok c w1 e1 σ Dp D rfl E1 (h.on l1.f) q1
def pAsg (pe : PX) (i : Nat) (D : PEnds) (env : PEnv) : Prop := pe env fun s e => D.nx (e.set i (some s))
instance rs_asg {K : Frag} {te : TE} {pe : PX} {i : Nat} [he : RE K te pe] : RS K (tAsg te (R5 i)) (pAsg pe i) where
 ok := by
  rintro c w env σ Dp D rfl E h p
  exact he.ok c w env σ _ _ rfl E p fun v s e1 w1 R q => h.nx _ _ w1 (R.ev.set R.val R.new) R.lw.f q
class RG (K : Frag) (g : TG) (pg : outParam (PyData -> PEnv -> (PEnv -> Prop) -> Prop)) : Prop where
 ok : ∀ (c : Ct) (w : Wd) (env : PEnv) (σ : St) (v : V) (x : PyData) (Qp : PEnv -> Prop) (Q : St -> Hpp -> Prop), c.K = K -> EnvOk c w env σ -> Den K w.F v x -> pg x env Qp -> (∀ env' σ', EnvOk c w env' σ' -> Qp env' -> Q σ' w.H) -> g v σ w.H Q
class RGs (K : Frag) (g : TGs) (pg : outParam (LP -> PEnv -> (PEnv -> Prop) -> Prop)) : Prop where
 ok : ∀ (c : Ct) (w : Wd) (env : PEnv) (σ : St) (vs : List V) (xs : LP) (Qp : PEnv -> Prop) (Q : St -> Hpp -> Prop), c.K = K -> EnvOk c w env σ -> DenAll K w.F vs xs -> pg xs env Qp -> (∀ env' σ', EnvOk c w env' σ' -> Qp env' -> Q σ' w.H) -> g vs σ w.H Q
def B26 (i : Nat) (x : PyData) (env : PEnv) (Q : PEnv -> Prop) : Prop := Q (env.set i (some (.d x)))
instance rg_name {K : Frag} {i : Nat} : RG K (R5 i) (B26 i) where
 ok := by
  rintro c w env σ v x Qp Q rfl E d p k
  exact k _ _ (E.set (s := .d x) d (fun _ z => nomatch z)) p
def qNil (xs : LP) (env : PEnv) (Q : PEnv -> Prop) : Prop := match xs with
 | [] => Q env
 | _ => False
def B27 (pg : PyData -> PEnv -> (PEnv -> Prop) -> Prop) (pr : LP -> PEnv -> (PEnv -> Prop) -> Prop) (xs : LP) (env : PEnv) (Q : PEnv -> Prop) : Prop := match xs with
 | x :: r => pg x env fun e => pr r e Q
 | [] => False
def qTup (n : Nat) (pr : LP -> PEnv -> (PEnv -> Prop) -> Prop) (x : PyData) (env : PEnv) (Q : PEnv -> Prop) : Prop := match x with
 | .tuple xs => xs.length = n /\ pr xs env Q
 | _ => False
instance rgs_nil {K : Frag} : RGs K gNil qNil where
 ok := by
  rintro c w env σ vs xs Qp Q rfl E d p k
  unfold qNil at p
  split at p
  ·cases d; exact ⟨rfl, k env σ E p⟩
  ·exact p.elim
instance rgs_cons {K : Frag} {g : TG} {gs : TGs} {pg : PyData -> PEnv -> (PEnv -> Prop) -> Prop} {pr : LP -> PEnv -> (PEnv -> Prop) -> Prop} [hg : RG K g pg] [hr : RGs K gs pr] : RGs K (A16 g gs) (B27 pg pr) where
 ok := by
  rintro c w env σ vs xs Qp Q rfl E d p k
  unfold B27 at p
  split at p
  ·cases d with
   | cons h t =>
    refine ⟨_, _, rfl, hg.ok c w env σ _ _ _ _ rfl E h p fun e1 σ1 E1 q1 => ?_⟩
    exact hr.ok c w e1 σ1 _ _ _ _ rfl E1 t q1 k
  ·exact p.elim
instance rg_tup {K : Frag} {n : Nat} {gs : TGs} {pr : LP -> PEnv -> (PEnv -> Prop) -> Prop} [hr : RGs K gs pr] : RG K (gTup K n gs) (qTup n pr) where
 ok := by
  rintro c w env σ v x Qp Q rfl E d p k
  unfold qTup at p
  split at p
  ·obtain ⟨a, vs, e, h1, h2⟩ := d.tupE
   exact ⟨a, vs, e, SqT.same E.wok.sub h1, h2.len.trans p.1, hr.ok c w env σ _ _ _ _ rfl E h2 p.2 k⟩
  ·exact p.elim
def B39 (pd : PDt) (n : Nat) (pr : LP -> PEnv -> (PEnv -> Prop) -> Prop) (D : PEnds) (env : PEnv) : Prop := pd env fun x e => qTup n pr x e D.nx
instance rs_asgT {K : Frag} {te : TE} {pd : PDt} {n : Nat} {gs : TGs} {pr : LP -> PEnv -> (PEnv -> Prop) -> Prop} [he : RD K te pd] [hr : RGs K gs pr] : RS K (tAsg te (gTup K n gs)) (B39 pd n pr) where
 ok := by
  rintro c w env σ Dp D rfl E h p
  refine he.ok c w env σ _ _ rfl E p fun v x e1 w1 E1 l1 d1 q1 => ?_
  exact rg_tup.ok c w1 e1 σ v x _ _ rfl E1 d1 q1 fun e2 σ2 E2 q2 => h.nx e2 σ2 w1 E2 l1.f q2
def pPar (i j : Nat) (pa : PAr) (D : PEnds) (env : PEnv) : Prop := pa env fun xs e => match xs with
 | [x, y] => D.nx ((e.set i (some (.d x))).set j (some (.d y)))
 | _ => False
instance rs_par {K : Frag} {ta : TA} {pa : PAr} {i j : Nat} [ha : RAd K ta pa] : RS K (tPar i j ta) (pPar i j pa) where
 ok := by
  rintro c w env σ Dp D rfl E h p
  refine ha.ok c w env σ _ _ rfl E p fun vs xs e1 w1 E1 l1 d1 q1 => ?_
  split at q1
  ·cases d1 with
   | cons a t => cases t with
    | cons b t =>
     cases t
     exact ⟨_, _, rfl, h.nx _ _ w1 ((E1.set (s := .d _) a (fun _ z => nomatch z)).set (s := .d _) b (fun _ z => nomatch z)) l1.f q1⟩
  ·exact q1.elim
def Z3 (o : Option (Option SV)) (k : LP -> Prop) : Prop := match o with
 | some (some (.own xs)) => k xs
 | _ => False
theorem EnvOk.writeAt {c : Ct} {w : Wd} {env : PEnv} {σ : St} {i : Nat} {s s' : SV} {l : Addr} {us : List V} {v : V} (E : EnvOk c w env σ) (e : env[i]? = some (some s)) (hσ : σ[i]? = some (some v)) (hf : s.foot v l) (hf' : ∀ a, s'.foot v a -> s.foot v a)
  (hd : VR c ⟨w.M, upd w.H l (.lst us), w.F⟩ v s') : EnvOk c ⟨w.M, upd w.H l (.lst us), w.F⟩ (env.set i (some s')) σ := by
 obtain ⟨h1, h2, h3, h4⟩ := (E.look e hσ).foot hf
 have ne : ∀ b, w.M b -> b ≠ l := fun b hb z => h3 (z ▸ hb)
 have hd' : ∀ {j : Nat} {t : SV}, (env.set i (some s'))[j]? = some (some t) -> (i = j /\ t = s') \/ (i ≠ j /\ env[j]? = some (some t)) := by
  intro j t q
  rw [List.getElem?_set] at q
  split at q
  ·rename_i z
   split at q
   ·cases q; exact .inl ⟨z, rfl⟩
   ·cases q
  ·rename_i z; exact .inr ⟨z, q⟩
 have ft : ∀ {j : Nat} {t : SV} {u : V} {a : Addr}, (env.set i (some s'))[j]? = some (some t) -> σ[j]? = some (some u) -> t.foot u a -> ∃ t', env[j]? = some (some t') /\ t'.foot u a := by
  intro j t u a q qu f
  rcases hd' q with ⟨rfl, rfl⟩ | ⟨_, q⟩
  ·rw [hσ] at qu; cases qu; exact ⟨s, e, hf' a f⟩
  ·exact ⟨t, q, f⟩
 refine ⟨⟨fun b o q => ?_, fun p hp => (E.wok.st p hp).kp (ne p hp) Kp.upd, E.wok.nf⟩, ⟨⟨E.le0.f, fun b o q n => ?_, E.le0.m, E.le0.mn, fun b q => E.le0.dom b (L8 q)⟩, E.le0.n⟩, by simpa using E.len, fun j t q => ?_, fun j k s1 t1 v1 u1 a q1 q2 q3 q4 f1 f2 => ?_, fun a za => ?_, fun a j t u za q q' f => ?_⟩
 ·show upd w.H l (.lst us) b = some o
  rw [D8 (fun z => by rw [z, h2] at q; cases q)]; exact E.wok.sub b o q
 ·show upd w.H l (.lst us) b = some o
  rw [D8 (fun z => by rw [z, h4] at q; cases q)]; exact E.le0.h b o q n
 ·rcases hd' q with ⟨rfl, rfl⟩ | ⟨z, q⟩
  ·exact ⟨v, hσ, hd⟩
  ·obtain ⟨u, g1, g2⟩ := E.at' j t q
   exact ⟨u, g1, g2.writ h1 fun f => z (E.own i j _ _ _ _ l e q hσ g1 hf f)⟩
 ·obtain ⟨_, p1, g1⟩ := ft q1 q3 f1
  obtain ⟨_, p2, g2⟩ := ft q2 q4 f2
  exact E.own j k _ _ _ _ a p1 p2 q3 q4 g1 g2
 ·obtain ⟨z1, z2, z3⟩ := E.zf a za
  exact ⟨z1, fun q => z2 (L8 q), z3⟩
 ·obtain ⟨_, p, g⟩ := ft q q' f
  exact E.zo a j _ _ za p q' g
theorem EnvOk.write {c : Ct} {w : Wd} {env : PEnv} {σ : St} {i : Nat} {xs ys : LP} {l : Addr} {vs us : List V} (E : EnvOk c w env σ) (e : env[i]? = some (some (.own xs))) (hσ : σ[i]? = some (some (.ref l))) (h1 : w.H l = some (.lst vs)) (h2 : w.F l = none) (h3 : ¬ w.M l) (h4 : c.w0.H l = none)
  (hd : DenAll c.K w.F us ys) : EnvOk c ⟨w.M, upd w.H l (.lst us), w.F⟩ (env.set i (some (.own ys))) σ :=
 E.writeAt e hσ rfl (fun _ f => f) ⟨l, us, rfl, D6, h2, h3, h4, hd⟩
def pApp (i : Nat) (pd : PDt) (D : PEnds) (env : PEnv) : Prop := Z3 env[i]? fun _ => pd env fun x e => Z3 e[i]? fun xs => xs.length < 1000000 /\ D.nx (e.set i (some (.own (xs ++ [x]))))
theorem Z7 {n : Nat} (h : n < 1000000) : n < sizeLine := Nat.lt_of_lt_of_le h (by decide)
instance rs_app {K : Frag} {i : Nat} {te : TE} {pd : PDt} [he : RD K te pd] : RS K (A86 (tBM K "list" A5b (tVar i) (K6 te tNil))) (pApp i pd) where
 ok := by
  rintro c w env σ Dp D rfl E h p
  unfold pApp Z3 at p
  split at p
  ·rename_i xs0 e0
   obtain ⟨v, g0, l, vs, ev, h1, h2, h3, h4, h5⟩ := E.at' i _ e0
   subst ev
   refine ⟨_, g0, .inl ⟨rfl, _, SqL.of h1⟩, ?_⟩
   refine he.ok c w env σ _ _ rfl E p fun y x e1 w1 E1 l1 d1 q1 => ?_
   split at q1
   ·rename_i xs e
    obtain ⟨v', g0', l', vs', ev', k1, k2, k3, k4, k5⟩ := E1.at' i _ e
    rw [g0] at g0'; cases g0'; cases ev'
    refine ⟨l, vs', y, rfl, rfl, k1, by rw [k5.len]; exact Z7 q1.1, ?_⟩
    exact h.nx _ σ ⟨w1.M, upd w1.H l (.lst (vs' ++ [y])), w1.F⟩ (E1.write e g0 k1 k2 k3 k4 (k5.app (.cons d1 .nil))) l1.f q1.2
   ·exact q1.elim
  ·exact p.elim
end Pu
namespace L2
open PySem PySem.Spec PyProof.Rows
section
variable {X : Cx} {tg : Expr}
def iSq (K : PySem.W.Frag) (tl : TE) : TI := fun σ H R => tl σ H fun x H1 => (∃ a, x = .ref a /\ (∃ xs, SqL K H1 a xs) /\ R (Itl K a) H1) \/ ∃ a, x = .ref a /\ (∃ xs, SqT K H1 a xs) /\ R (Itt K a) H1
theorem B8y {l : Expr} {tl : TE} (hl : PE X l tl) : PI X tg l (iSq X.K tl) := by
 intro pins s σ H R I h
 refine thn (hl pins s σ H _ I h) fun v s1 ⟨x, H1, I1, r1, q1⟩ => ?_
 rcases q1 with ⟨a, e, ⟨xs, hq⟩, q⟩ | ⟨a, e, ⟨xs, hq⟩, q⟩
 ·subst e
  cases r1
  obtain ⟨its, rv, p, hz⟩ := I1.list hq
  refine wpAny_pyIter_list p.isList ?_
  refine ⟨s1.heap.objs.size, [s1.heap.objs.size], _, _, H1, rfl, I1.kept (t' := s1.toks) fun b o e => Heap.get?_push_of_some _ e, A4w a _, ⟨_, Heap.get?_push_size _ rfl, rfl, rfl⟩, fun b hb => ?_, q⟩
  have e : b = s1.heap.objs.size := by simpa using hb
  subst e
  exact I1.fpOk (Nat.le_refl _) (I1.hok.fresh (Nat.le_refl _))
 ·subst e
  cases r1
  obtain ⟨its, rv, p, hz⟩ := I1.tuple hq
  refine wpAny_pyIter_tuple (show s1.heap.IsTuple a its.toArray from p) ?_
  refine ⟨s1.heap.objs.size, [s1.heap.objs.size], _, _, H1, rfl, I1.kept (t' := s1.toks) fun b o e => Heap.get?_push_of_some _ e, A31 a _, ⟨_, Heap.get?_push_size _ rfl, rfl, rfl⟩, fun b hb => ?_, q⟩
  have e : b = s1.heap.objs.size := by simpa using hb
  subst e
  exact I1.fpOk (Nat.le_refl _) (I1.hok.fresh (Nat.le_refl _))
theorem B6h {K : PySem.W.Frag} {l : Expr} {tl : TE} (h : X.K = K) (hl : PE X l tl) : PI X tg l (iSq K tl) := by subst h; exact B8y hl
theorem D4 {K : PySem.W.Frag} (h : X.K = K) (hu : X.A.units + 64 < cLine) : OpR X (compareOp .Eq) (rEqD K) := by subst h; exact B61 hu
theorem K1 {K : PySem.W.Frag} (h : X.K = K) (hu : X.A.units + 64 < cLine) : OpR X (compareOp .NotEq) (rNeD K) := by subst h; exact B6y hu
theorem R9 {K : PySem.W.Frag} (h : X.K = K) : SlR X (rSlL K) := by subst h; exact B21
end
end L2
namespace Pu
open PySem L2 My Prf
def A50 (pt : PTt) (pb : PSt) (D : PEnds) (env : PEnv) : Prop := ∃ Inv : Nat -> PEnv -> Prop, (∃ m, Inv m env) /\ ∀ m e, Inv m e -> pt e fun b e2 => if b = true then pb ⟨fun e3 => ∃ m', m' < m /\ Inv m' e3, D.rt, D.nx, fun e3 => ∃ m', m' < m /\ Inv m' e3⟩ e2 else D.nx e2
instance rs_while {K : Frag} {tt : TT} {tb : TS} {pt : PTt} {pb : PSt} [ht : RT K tt pt] [hb : RS K tb pb] : RS K (A4z tt tb) (A50 pt pb) where
 ok := by
  rintro c w env σ Dp D rfl E h ⟨Inv, ⟨m0, i0⟩, step⟩
  refine ⟨fun m σ' H' => ∃ e w', w'.H = H' /\ EnvOk c w' e σ' /\ Same w.F w'.F /\ Inv m e, ⟨m0, env, w, rfl, E, Same.refl _, i0⟩, ?_⟩
  rintro m σ1 _ ⟨e1, w1, rfl, E1, s1, i1⟩
  refine ht.ok c w1 e1 σ1 _ _ rfl E1 (step m e1 i1) fun b e2 w2 E2 l2 q2 => ?_
  cases b with
  | true =>
   refine ⟨fun σ' H' => ∃ e w', w'.H = H' /\ EnvOk c w' e σ' /\ Same w.F w'.F /\ ∃ m', m' < m /\ Inv m' e, fun σ' H' ⟨e, w', e1, E', s', m', hm, i'⟩ => ⟨m', hm, e, w', e1, E', s', i'⟩, ?_⟩
   refine hb.ok c w2 e2 σ1 ⟨fun e3 => ∃ m', m' < m /\ Inv m' e3, Dp.rt, Dp.nx, fun e3 => ∃ m', m' < m /\ Inv m' e3⟩ _ rfl E2 ⟨fun e3 σ3 w3 E3 s3 n3 => ⟨e3, w3, rfl, E3, s1.trans (l2.f.trans s3), n3⟩, h.rt, fun e3 σ3 w3 E3 s3 n3 => h.nx e3 σ3 w3 E3 (s1.trans (l2.f.trans s3)) n3, fun e3 σ3 w3 E3 s3 n3 => ⟨e3, w3, rfl, E3, s1.trans (l2.f.trans s3), n3⟩⟩ q2
  | false => exact h.nx e2 σ1 w2 E2 (s1.trans l2.f) q2
def Walk (c : Ct) (w1 : Wd) (J : It) (xs : LP) : Prop :=
 ∀ w', w'.Ok -> Le c.w0 w' -> Same w1.F w'.F -> (∀ i, i < xs.length -> J.go i w'.H) /\ J.stop xs.length w'.H /\ ∀ i v H', J.yld i w'.H v H' -> i < xs.length -> ∃ w2 x, w2.H = H' /\ w2.Ok /\ Le w' w2 /\ xs[i]? = some x /\ Den c.K w2.F v x
class RI (K : Frag) (wi : TI) (pi : outParam PAr) : Prop where
 ok : ∀ (c : Ct) (w : Wd) (env : PEnv) (σ : St) (Qp : LP -> PEnv -> Prop) (R : It -> Hpp -> Prop), c.K = K -> EnvOk c w env σ -> pi env Qp -> (∀ J xs env' w', EnvOk c w' env' σ -> Lw w w' -> Walk c w' J xs -> Qp xs env' -> R J w'.H) -> wi σ w.H R
theorem K5 {c : Ct} {w1 : Wd} {a : Addr} {vs : List V} {xs : LP} (d : DenAll c.K w1.F vs xs) (h : ∀ w', w'.Ok -> Le c.w0 w' -> Same w1.F w'.F -> SqL c.K w'.H a vs) : Walk c w1 (Itl c.K a) xs := by
 intro w' ok l s
 have q := h w' ok l s
 have hl := d.len
 refine ⟨fun i hi => ⟨vs, vs[i]'(by omega), q, List.getElem?_eq_getElem _⟩, ⟨vs, q, by omega⟩, fun i v H' y hi => ?_⟩
 obtain ⟨e, y⟩ := y
 obtain ⟨x, g1, g2⟩ := d.get (y vs q)
 exact ⟨w', x, e.symm, ok, Le.refl w', g1, Den.same s g2⟩
theorem A2k {c : Ct} {w1 : Wd} {a : Addr} {vs : List V} {xs : LP} (d : DenAll c.K w1.F vs xs) (h : ∀ w', w'.Ok -> Le c.w0 w' -> Same w1.F w'.F -> SqT c.K w'.H a vs) : Walk c w1 (Itt c.K a) xs := by
 intro w' ok l s
 have q := h w' ok l s
 have hl := d.len
 refine ⟨fun i hi => ⟨vs, vs[i]'(by omega), q, List.getElem?_eq_getElem _⟩, ⟨vs, q, by omega⟩, fun i v H' y hi => ?_⟩
 obtain ⟨e, y⟩ := y
 obtain ⟨x, g1, g2⟩ := d.get (y vs q)
 exact ⟨w', x, e.symm, ok, Le.refl w', g1, Den.same s g2⟩
def U6 (x : PyData) (k : LP -> Prop) : Prop := match x with
 | .list xs => k xs
 | .tuple xs => k xs
 | _ => False
def B34 (pd : PDt) (env : PEnv) (Q : LP -> PEnv -> Prop) : Prop := pd env fun x e => U6 x fun xs => Q xs e
instance (priority := low) ri_sq {K : Frag} {tl : TE} {pd : PDt} [hl : RD K tl pd] : RI K (iSq K tl) (B34 pd) where
 ok := by
  rintro c w env σ Qp R rfl E p k
  refine hl.ok c w env σ _ _ rfl E p fun v x e1 w1 E1 l1 d1 q1 => ?_
  unfold U6 at q1
  split at q1
  ·obtain ⟨a, vs, e, h1, h2⟩ := d1.lstE
   exact .inl ⟨a, e, ⟨vs, E1.wok.sub.seq h1⟩, k _ _ e1 w1 E1 l1 (K5 h2 fun w' ok l s => (s.trans ok.sub).seq h1) q1⟩
  ·obtain ⟨a, vs, e, h1, h2⟩ := d1.tupE
   exact .inr ⟨a, e, ⟨vs, SqT.same E1.wok.sub h1⟩, k _ _ e1 w1 E1 l1 (A2k h2 fun w' ok l s => SqT.same (s.trans ok.sub) h1) q1⟩
  ·exact q1.elim
def A6h (i : Nat) (env : PEnv) (Q : LP -> PEnv -> Prop) : Prop := match env[i]? with
 | some (some (.d x)) => U6 x fun xs => Q xs env
 | some (some (.own xs)) => Q xs (env.set i (some (.d (.list xs))))
 | some (some (.bor xs)) => Q xs env
 | _ => False
instance ri_var {K : Frag} {i : Nat} : RI K (iSq K (tVar i)) (A6h i) where
 ok := by
  rintro c w env σ Qp R rfl E p k
  unfold A6h at p
  split at p
  ·rename_i x e
   obtain ⟨v, h1, h2⟩ := E.at' i _ e
   refine ⟨v, h1, ?_⟩
   unfold U6 at p
   split at p
   ·obtain ⟨a, vs, e, g1, g2⟩ := Den.lstE h2
    exact .inl ⟨a, e, ⟨vs, E.wok.sub.seq g1⟩, k _ _ env w E (Lw.refl w) (K5 g2 fun w' ok l s => (s.trans ok.sub).seq g1) p⟩
   ·obtain ⟨a, vs, e, g1, g2⟩ := Den.tupE h2
    exact .inr ⟨a, e, ⟨vs, SqT.same E.wok.sub g1⟩, k _ _ env w E (Lw.refl w) (A2k g2 fun w' ok l s => SqT.same (s.trans ok.sub) g1) p⟩
   ·exact p.elim
  ·rename_i xs e
   obtain ⟨w', v, e', hv, E', l, d⟩ := E.frz e
   refine ⟨v, hv, ?_⟩
   obtain ⟨a, vs, e, g1, g2⟩ := d.lstE
   have := k _ _ _ w' E' l (K5 g2 fun w' ok l s => (s.trans ok.sub).seq g1) p
   rw [e'] at this
   exact .inl ⟨a, e, ⟨vs, by rw [<- e']; exact E'.wok.sub.seq g1⟩, this⟩
  ·rename_i xs e
   obtain ⟨v, h1, h2⟩ := E.at' i _ e
   refine ⟨v, h1, ?_⟩
   rcases h2 with h2 | ⟨l, vs, ev, g1, g2, g3⟩
   ·obtain ⟨a, vs, e, g1, g2⟩ := Den.lstE h2
    exact .inl ⟨a, e, ⟨vs, E.wok.sub.seq g1⟩, k _ _ env w E (Lw.refl w) (K5 g2 fun w' ok l s => (s.trans ok.sub).seq g1) p⟩
   ·exact .inl ⟨l, ev, ⟨vs, SqL.of (E.le0.h _ _ g1 g2)⟩, k _ _ env w E (Lw.refl w) (K5 g3 fun w' ok l' s => SqL.of (l'.h _ _ g1 g2)) p⟩
  ·exact p.elim
def rngD (lo : Int) (n : Nat) : LP := (List.range n).map fun k : Nat => PyData.int (lo + (k : Int))
theorem G8 (lo : Int) (n : Nat) : (rngD lo n).length = n := by simp [rngD]
theorem A2s {lo : Int} {n i : Nat} {x : PyData} (h : (rngD lo n)[i]? = some x) : i < n /\ x = .int (lo + (i : Int)) := by
 unfold rngD at h
 rw [List.getElem?_map] at h
 by_cases hi : i < n
 ·rw [List.getElem?_range hi] at h; cases h; exact ⟨hi, rfl⟩
 ·rw [List.getElem?_eq_none (by simpa using hi)] at h; cases h
theorem A2l {c : Ct} {w1 : Wd} {lo : Int} {n : Nat} : Walk c w1 (Itr lo n) (rngD lo n) := by
 intro w' ok l s
 refine ⟨fun i hi => by rw [G8] at hi; exact hi, by rw [G8]; exact Nat.le_refl _, fun i v H' y hi => ?_⟩
 obtain ⟨e, y⟩ := y
 subst y
 rw [G8] at hi
 refine ⟨w', .int (lo + i), e.symm, ok, Le.refl w', ?_, .int _⟩
 unfold rngD
 rw [List.getElem?_map, List.getElem?_range hi]; rfl
def B6q (pa : PAr) (env : PEnv) (Q : LP -> PEnv -> Prop) : Prop := pa env fun xs e => match xs with
 | [.int j] => (-(2 ^ 62) <= j /\ j < 2 ^ 62) /\ Q (rngD 0 j.toNat) e
 | _ => False
def B6p (pa : PAr) (env : PEnv) (Q : LP -> PEnv -> Prop) : Prop := pa env fun xs e => match xs with
 | [.int i, .int j] => (-(2 ^ 62) <= i /\ i < 2 ^ 62 /\ -(2 ^ 62) <= j /\ j < 2 ^ 62) /\ Q (rngD i (j - i).toNat) e
 | _ => False
instance ri_rng1 {K : Frag} {ta : TA} {pa : PAr} [ha : RAv K ta pa] : RI K (B4w ta) (B6q pa) where
 ok := by
  rintro c w env σ Qp R rfl E p k
  refine ha.ok c w env σ _ _ rfl E p fun vs xs e1 w1 E1 l1 v1 q1 => ?_
  split at q1
  ·cases v1 with | cons h t => cases t; exact ⟨_, by rw [h.intE], q1.1.1, q1.1.2, k _ _ e1 w1 E1 l1 A2l q1.2⟩
  ·exact q1.elim
instance ri_rng2 {K : Frag} {ta : TA} {pa : PAr} [ha : RAv K ta pa] : RI K (B4v ta) (B6p pa) where
 ok := by
  rintro c w env σ Qp R rfl E p k
  refine ha.ok c w env σ _ _ rfl E p fun vs xs e1 w1 E1 l1 v1 q1 => ?_
  split at q1
  ·cases v1 with | cons h t => cases t with | cons h' t => cases t; exact ⟨_, _, by rw [h.intE, h'.intE], q1.1, k _ _ e1 w1 E1 l1 A2l q1.2⟩
  ·exact q1.elim
def A0j (xs : LP) (pg : PyData -> PEnv -> (PEnv -> Prop) -> Prop) (pb : PSt) (D : PEnds) (env : PEnv) : Prop :=
 ∃ Inv : Nat -> PEnv -> Prop, Inv 0 env /\ (∀ i x e, xs[i]? = some x -> Inv i e -> pg x e fun e2 => pb ⟨Inv (i + 1), D.rt, D.nx, Inv (i + 1)⟩ e2) /\ ∀ e, Inv xs.length e -> D.nx e
def pFor (pi : PAr) (pg : PyData -> PEnv -> (PEnv -> Prop) -> Prop) (pb : PSt) (D : PEnds) (env : PEnv) : Prop := pi env fun xs e => A0j xs pg pb D e
instance rs_for {K : Frag} {wi : TI} {g : TG} {tb : TS} {pi : PAr} {pg : PyData -> PEnv -> (PEnv -> Prop) -> Prop} {pb : PSt} [hi : RI K wi pi] [hg : RG K g pg] [hb : RS K tb pb] : RS K (tFor wi g tb) (pFor pi pg pb) where
 ok := by
  rintro c w env σ Dp D rfl E h p
  refine hi.ok c w env σ _ _ rfl E p fun J xs e1 w1 E1 l1 wk ⟨Iv, i0, step, fin⟩ => ?_
  refine ⟨fun i m σ' H' => m = xs.length - i /\ i <= xs.length /\ ∃ e w', w'.H = H' /\ EnvOk c w' e σ' /\ Same w1.F w'.F /\ Iv i e, ⟨xs.length, rfl, Nat.zero_le _, e1, w1, rfl, E1, Same.refl _, i0⟩, ?_⟩
  rintro i m σ2 _ ⟨rfl, hle, e2, w2, rfl, E2, s2, i2⟩
  obtain ⟨go, stop, yld⟩ := wk w2 E2.wok E2.le0 s2
  by_cases hlt : i < xs.length
  ·refine .inr ⟨go i hlt, fun σ' H' => i + 1 <= xs.length /\ ∃ e w', w'.H = H' /\ EnvOk c w' e σ' /\ Same w1.F w'.F /\ Iv (i + 1) e, fun σ' H' ⟨q0, q⟩ => ⟨xs.length - (i + 1), by omega, rfl, q0, q⟩, fun v H' y => ?_⟩
   obtain ⟨w2', x, rfl, ok2, le2, hx, dx⟩ := yld i v H' y hlt
   replace E2 := E2.mono ok2 le2
   replace s2 := s2.trans le2.f
   clear yld go stop y le2 ok2
   generalize w2' = w2 at E2 s2 dx
   refine hg.ok c w2 e2 σ2 v x _ _ rfl E2 dx (step i x e2 hx i2) fun e3 σ3 E3 q3 => ?_
   refine hb.ok c w2 e3 σ3 ⟨Iv (i + 1), Dp.rt, Dp.nx, Iv (i + 1)⟩ _ rfl E3 ⟨fun e4 σ4 w4 E4 s4 n4 => ⟨hlt, e4, w4, rfl, E4, s2.trans s4, n4⟩, h.rt, fun e4 σ4 w4 E4 s4 n4 => h.nx e4 σ4 w4 E4 (l1.f.trans (s2.trans s4)) n4, fun e4 σ4 w4 E4 s4 n4 => ⟨hlt, e4, w4, rfl, E4, s2.trans s4, n4⟩⟩ q3
  ·have e : i = xs.length := by omega
   subst e
   exact .inl ⟨stop, h.nx e2 σ2 w2 E2 (l1.f.trans s2) (fin e2 i2)⟩
theorem N6 {lo : Int} {n : Nat} {pg : PyData -> PEnv -> (PEnv -> Prop) -> Prop} {pb : PSt} {D : PEnds} {env : PEnv} (Inv : Nat -> PEnv -> Prop) (h0 : Inv 0 env)
  (hs : ∀ (i : Nat) e, i < n -> Inv i e -> pg (.int (lo + (i : Int))) e fun e2 => pb ⟨Inv (i + 1), D.rt, D.nx, Inv (i + 1)⟩ e2) (hd : ∀ e, Inv n e -> D.nx e) : A0j (rngD lo n) pg pb D env :=
 ⟨Inv, h0, fun i x e hx hi => by obtain ⟨h1, rfl⟩ := A2s hx; exact hs i e h1 hi, fun e h => hd e (by rwa [G8] at h)⟩
theorem B44 {xs : LP} {pg : PyData -> PEnv -> (PEnv -> Prop) -> Prop} {pb : PSt} {D : PEnds} {env : PEnv} (Inv : Nat -> PEnv -> Prop) (h0 : Inv 0 env)
  (hs : ∀ (i : Nat) x e, xs[i]? = some x -> Inv i e -> pg x e fun e2 => pb ⟨Inv (i + 1), D.rt, D.nx, Inv (i + 1)⟩ e2) (hd : ∀ e, Inv xs.length e -> D.nx e) : A0j xs pg pb D env := ⟨Inv, h0, hs, hd⟩
def SV.lent : SV -> Option SV
 | .own xs => some (.bor xs)
 | .tr _ => none
 | .bt _ => none
 | s => some s
def J7 (cap : List (Option Nat)) (env : PEnv) : PEnv := cap.map fun o => o.bind fun j => (env[j]?).join.bind SV.lent
theorem EnvOk.writeZ {c : Ct} {w : Wd} {env : PEnv} {σ : St} {l : Addr} {us : List V} (E : EnvOk c w env σ) (z : c.Z l) (h4 : c.w0.H l = none) : EnvOk c ⟨w.M, upd w.H l (.lst us), w.F⟩ env σ := by
 obtain ⟨h2, h1, h3⟩ := E.zf l z
 have ne : ∀ b, w.M b -> b ≠ l := fun b hb z => h3 (z ▸ hb)
 refine ⟨⟨fun b o q => ?_, fun p hp => (E.wok.st p hp).kp (ne p hp) Kp.upd, E.wok.nf⟩, ⟨⟨E.le0.f, fun b o q n => ?_, E.le0.m, E.le0.mn, fun b q => E.le0.dom b (L8 q)⟩, E.le0.n⟩, E.len, fun j s q => ?_, E.own, fun a za => ?_, E.zo⟩
 ·show upd w.H l (.lst us) b = some o
  rw [D8 (fun z => by rw [z, h2] at q; cases q)]; exact E.wok.sub b o q
 ·show upd w.H l (.lst us) b = some o
  rw [D8 (fun z => by rw [z, h4] at q; cases q)]; exact E.le0.h b o q n
 ·obtain ⟨v, g1, g2⟩ := E.at' j s q
  exact ⟨v, g1, g2.writ h1 (E.zo l j s v z q g1)⟩
 ·obtain ⟨z1, z2, z3⟩ := E.zf a za
  exact ⟨z1, fun q => z2 (L8 q), z3⟩
theorem EnvOk.cap {c : Ct} {w : Wd} {env : PEnv} {σ : St} {D : Addr} (cap : List (Option Nat)) (E : EnvOk c w env σ) (hD : w.H D = none) : EnvOk ⟨c.K, w, fun a => a = D⟩ (w.lay D (.lst [])) (J7 cap env) (capσ cap σ) := by
 have nown : ∀ (i : Nat) s v a, (J7 cap env)[i]? = some (some s) -> ¬ s.foot v a := fun i s0 v a q f => by
  unfold J7 at q
  rw [List.getElem?_map] at q
  cases hc : cap[i]? with
  | none => rw [hc] at q; cases q
  | some o =>
   rw [hc] at q
   cases o with
   | none => cases q
   | some j =>
    have q' : ((env[j]?).join.bind SV.lent) = some s0 := Option.some.inj q
    cases hj : (env[j]?).join with
    | none => rw [hj] at q'; cases q'
    | some s => rw [hj] at q'; cases s <;> cases q' <;> exact f
 refine ⟨Wd.lay_ok E.wok hD, Wd.lay_le hD, by simp [J7, capσ], fun i s q => ?_, fun i j s t v u a q _ _ _ f => absurd f (nown i s v a q), fun a za => ?_, fun a j t u _ q _ => nown j t u a q⟩
 ·unfold J7 at q
  unfold capσ
  rw [List.getElem?_map] at q ⊢
  cases hc : cap[i]? with
  | none => rw [hc] at q; cases q
  | some o =>
   rw [hc] at q
   cases o with
   | none => cases q
   | some j =>
    have q' : ((env[j]?).join.bind SV.lent) = some s := Option.some.inj q
    cases hj : env[j]? with
    | none => rw [hj] at q'; cases q'
    | some t =>
     rw [hj] at q'
     cases t with
     | none => cases q'
     | some s0 =>
      have q2 : s0.lent = some s := q'
      obtain ⟨v, h1, h2⟩ := E.at' j s0 hj
      refine ⟨v, by simp [h1], ?_⟩
      cases s0 with
      | d x => cases q2; exact h2
      | own xs => cases q2; obtain ⟨l, vs, e, g1, g2, g3, g4, g5⟩ := h2; exact .inr ⟨l, vs, e, g1, g3, g5⟩
      | bor xs =>
       cases q2
       rcases h2.vv E.le0 with g | ⟨l, vs, ys, e, e', g1, g2, g3⟩
       ·exact .inl g
       ·cases e'; exact .inr ⟨l, vs, e, g1, g2, g3⟩
      | st => cases q2; exact h2
      | tr t => cases q2
      | bt t => cases q2
      | al t => cases q2; exact h2
 ·have e : a = D := za
  subst e
  exact ⟨E.wok.fnone hD, by show upd w.H a (.lst []) a ≠ none; rw [D6]; simp, fun z => E.wok.mne hD z rfl⟩
theorem Walk.up {c : Ct} {w : Wd} {J : It} {xs : LP} (h : Walk c w J xs) (l : Le c.w0 w) : Walk ⟨c.K, w, c.Z⟩ w J xs := fun w' ok l' s => h w' ok (l.trans l') s
def N2 (xs : LP) (pg : PyData -> PEnv -> (PEnv -> Prop) -> Prop) (pt : PTt) (pd : PDt) (e0 : PEnv) (Fin : LP -> Prop) : Prop :=
 ∃ Pv : Nat -> PEnv -> LP -> Prop, Pv 0 e0 [] /\ (∀ i x e ys, xs[i]? = some x -> Pv i e ys -> pg x e fun e2 => pt e2 fun b e3 => if b = true then pd e3 fun y e4 => Pv (i + 1) e4 (ys ++ [y]) else Pv (i + 1) e3 ys) /\ ∀ e ys, Pv xs.length e ys -> Fin ys
theorem A19 {K : Frag} {g : TG} {tt : TT} {te : TE} {pg : PyData -> PEnv -> (PEnv -> Prop) -> Prop} {pt : PTt} {pd : PDt} [hg : RG K g pg] [ht : RT K tt pt] [he : RD K te pd] {c : Ct} {w : Wd} {env : PEnv} {σ : St} {J : It} {xs : LP} {cap : List (Option Nat)} {D : Addr} {Fp : LP -> Prop} {Fin : Hpp -> Prop}
  (hK : c.K = K) (E : EnvOk c w env σ) (wk : Walk ⟨c.K, w, c.Z⟩ w J xs) (hn : xs.length < 1000000) (p : N2 xs pg pt pd (J7 cap env) Fp) (hD : w.H D = none) (k : ∀ w' ys, Res c w env σ w' (.ref D) (.own ys) -> Fp ys -> Fin w'.H) : A04 J g tt te D Fin (capσ cap σ) w.H := by
 subst hK
 obtain ⟨Pv, p0, step, fin⟩ := p
 have hw0 : c.w0.H D = none := E.le0.dom D hD
 refine ⟨fun i m σ' H' vs => m = xs.length - i /\ i <= xs.length /\ ∃ e w' ys, w'.H = H' /\ EnvOk ⟨c.K, w, fun a => a = D⟩ w' e σ' /\ w'.H D = some (.lst vs) /\ vs.length <= i /\ DenAll c.K w'.F vs ys /\ Pv i e ys,
  ⟨xs.length, rfl, Nat.zero_le _, J7 cap env, w.lay D (.lst []), [], rfl, E.cap cap hD, D6, Nat.le_refl _, .nil, p0⟩, ?_⟩
 rintro i m σ1 _ vs ⟨rfl, hle, e1, w1, ys, rfl, E1, h1, hvl, d1, q1⟩
 refine ⟨h1, Z7 (by omega), ?_⟩
 obtain ⟨go, stop, yld⟩ := wk w1 E1.wok E1.le0 E1.le0.f
 by_cases hlt : i < xs.length
 ·refine .inr ⟨go i hlt, fun v H' y => ?_⟩
  obtain ⟨w1', x, rfl, ok1', le1, hx, dx⟩ := yld i v H' y hlt
  replace h1 := le1.h _ _ h1 (E1.zf D rfl).2.2
  replace E1 := E1.mono ok1' le1
  replace d1 := DenAll.same le1.f d1
  clear yld go stop y le1 ok1'
  generalize w1' = w1 at E1 h1 d1 dx
  refine hg.ok ⟨c.K, w, fun a => a = D⟩ w1 e1 σ1 v x _ _ rfl E1 dx (step i x e1 ys hx q1) fun e2 σ2 E2 q2 => ?_
  refine ht.ok ⟨c.K, w, fun a => a = D⟩ w1 e2 σ2 _ _ rfl E2 q2 fun b e3 w3 E3 l3 q3 => ?_
  have nm := (E2.zf D rfl).2.2
  have h3 := l3.h _ _ h1 nm
  cases b with
  | true =>
   refine he.ok ⟨c.K, w, fun a => a = D⟩ w3 e3 σ2 _ _ rfl E3 q3 fun y' y e4 w4 E4 l4 d4 q4 => ?_
   have h4 := l4.h _ _ h3 (E3.zf D rfl).2.2
   refine ⟨vs, h4, Z7 (by omega), xs.length - (i + 1), by omega, rfl, hlt, e4, ⟨w4.M, upd w4.H D (.lst (vs ++ [y'])), w4.F⟩, ys ++ [y], rfl, E4.writeZ rfl hD, D6, by rw [List.length_append]; simp; exact hvl, (DenAll.same (l3.f.trans l4.f) d1).app (.cons d4 .nil), q4⟩
  | false =>
   exact ⟨xs.length - (i + 1), by omega, rfl, hlt, e3, w3, ys, rfl, E3, h3, by omega, DenAll.same l3.f d1, q3⟩
 ·have e : i = xs.length := by omega
  subst e
  obtain ⟨z1, z2, z3⟩ := E1.zf D rfl
  refine .inl ⟨stop, k w1 ys ⟨E.mono E1.wok E1.le0, E1.le0.toLw, ⟨D, vs, rfl, h1, z1, z3, hw0, d1⟩, fun a f => ?_, rfl⟩ (fin e1 ys q1)⟩
  have : V.ref D = .ref a := f
  cases this
  exact E.fresh hD
def B6v (pi : PAr) (pg : PyData -> PEnv -> (PEnv -> Prop) -> Prop) (pt : PTt) (pd : PDt) (cap : List (Option Nat)) (env : PEnv) (Q : SV -> PEnv -> Prop) : Prop := pi env fun xs e => xs.length < 1000000 /\ N2 xs pg pt pd (J7 cap e) fun ys => Q (.own ys) e
instance re_comp {K : Frag} {wi : TI} {g : TG} {tt : TT} {te : TE} {cap : List (Option Nat)} {pi : PAr} {pg : PyData -> PEnv -> (PEnv -> Prop) -> Prop} {pt : PTt} {pd : PDt} [hi : RI K wi pi] [hg : RG K g pg] [ht : RT K tt pt] [he : RD K te pd] : RE K (A87 wi g tt te cap) (B6v pi pg pt pd cap) where
 ok := by
  rintro c w env σ Qp Q rfl E p k
  refine hi.ok c w env σ _ _ rfl E p fun J xs e1 w1 E1 l1 wk ⟨hn, q⟩ D hD => ?_
  exact A19 (pg := pg) (pt := pt) (pd := pd) rfl E1 (wk.up E1.le0) hn q hD fun w' ys R q' => k _ _ e1 w' (R.pre l1) q'
def A22 (pi : PAr) (pg : PyData -> PEnv -> (PEnv -> Prop) -> Prop) (pt : PTt) (pd : PDt) (cap : List (Option Nat)) (i : Nat) (D : PEnds) (env : PEnv) : Prop := pi env fun xs e => xs.length < 1000000 /\ N2 xs pg pt pd (J7 cap e) fun ys => D.nx (e.set i (some (.own ys)))
instance rs_setComp {K : Frag} {wi : TI} {g : TG} {tt : TT} {te : TE} {cap : List (Option Nat)} {i : Nat} {pi : PAr} {pg : PyData -> PEnv -> (PEnv -> Prop) -> Prop} {pt : PTt} {pd : PDt} [hi : RI K wi pi] [hg : RG K g pg] [ht : RT K tt pt] [he : RD K te pd] : RS K (R7 wi g tt te cap i) (A22 pi pg pt pd cap i) where
 ok := by
  rintro c w env σ Dp D rfl E h p
  refine hi.ok c w env σ _ _ rfl E p fun J xs e1 w1 E1 l1 wk ⟨hn, q⟩ l hl => ?_
  exact A19 (pg := pg) (pt := pt) (pd := pd) rfl E1 (wk.up E1.le0) hn q hl fun w' ys R q' => h.nx _ _ w' (R.ev.set R.val R.new) (l1.f.trans R.lw.f) q'
class RP (K : Frag) (to : TO) (po : outParam (PEnv -> (Option Int -> PEnv -> Prop) -> Prop)) : Prop where
 ok : ∀ (c : Ct) (w : Wd) (env : PEnv) (σ : St) (Qp : Option Int -> PEnv -> Prop) (Q : Option Int -> Hpp -> Prop), c.K = K -> EnvOk c w env σ -> po env Qp -> (∀ o env' w', EnvOk c w' env' σ -> Lw w w' -> Qp o env' -> Q o w'.H) -> to σ w.H Q
def A1x (env : PEnv) (Q : Option Int -> PEnv -> Prop) : Prop := Q none env
def asI (x : PyData) (k : Int -> Prop) : Prop := match x with
 | .int i => k i
 | _ => False
def B3x (pa : PDt) (env : PEnv) (Q : Option Int -> PEnv -> Prop) : Prop := pa env fun x e => asI x fun i => Q (some i) e
instance rp_no {K : Frag} : RP K A1n A1x := ⟨fun c w env σ Qp Q _ E p k => k none env w E (Lw.refl w) p⟩
instance rp_part {K : Frag} {te : TE} {pa : PDt} [ha : RW K te pa] : RP K (B2t te) (B3x pa) where
 ok := by
  rintro c w env σ Qp Q rfl E p k
  refine ha.ok c w env σ _ _ rfl E p fun x dx e1 w1 E1 l1 v1 q1 => ?_
  unfold asI at q1
  split at q1
  ·exact ⟨_, v1.intE, k _ e1 w1 E1 l1 q1⟩
  ·exact q1.elim
def cutD (xs : LP) (lo hi : Option Int) : LP := (xs.drop (HT.sIx xs.length 0 lo)).take (HT.sIx xs.length xs.length hi - HT.sIx xs.length 0 lo)
def pSlL (pa : PDt) (pl ph : PEnv -> (Option Int -> PEnv -> Prop) -> Prop) (env : PEnv) (Q : SV -> PEnv -> Prop) : Prop := pa env fun x e => asL x fun xs => pl e fun lo e1 => ph e1 fun hi e2 => Q (.own (cutD xs lo hi)) e2
instance re_sl {K : Frag} {te : TE} {tl th : TO} {pa : PDt} {pl ph : PEnv -> (Option Int -> PEnv -> Prop) -> Prop} [ha : RW K te pa] [hl : RP K tl pl] [hh : RP K th ph] : RE K (tSl (rSlL K) te tl th) (pSlL pa pl ph) where
 ok := by
  rintro c w env σ Qp Q rfl E p k
  refine ha.ok c w env σ _ _ rfl E p fun x dx e1 w1 E1 l1 v1 q1 => ?_
  unfold asL at q1
  split at q1
  ·rename_i xs
   refine hl.ok c w1 e1 σ _ _ rfl E1 q1 fun lo e2 w2 E2 l2 q2 => ?_
   refine hh.ok c w2 e2 σ _ _ rfl E2 q2 fun hi e3 w3 E3 l3 q3 => ?_
   obtain ⟨a, vs, e, g1, g2⟩ := ((v1.mono l2).mono l3).lst E3.wok
   refine ⟨a, vs, e, g1, fun p hp => k _ _ e3 _ ((Res.lst E3 hp (xs := cutD xs lo hi) ?_).pre (l1.trans (l2.trans l3))) q3⟩
   unfold cutV cutD
   rw [g2.len]
   exact (g2.drop _).take _
  ·exact q1.elim
theorem M8 {K : Frag} {w : Wd} : ∀ {md : List Md} {vs : List V} {as : List SV}, Args K w md vs as -> as.length = vs.length /\ ∀ (i : Nat) s, as[i]? = some s -> (∃ v, vs[i]? = some v /\ VR ⟨K, w, noZ⟩ w v s) /\ ∀ u a, ¬ s.foot u a
 | _, _, _, .nil => ⟨rfl, fun i s h => by simp at h⟩
 | _, _, _, .dat h t => ⟨by simp [(M8 t).1], fun i s e => match i, e with
  | 0, e => by simp at e; subst e; exact ⟨⟨_, rfl, h⟩, fun _ _ z => z⟩
  | i + 1, e => by simpa using (M8 t).2 i s (by simpa using e)⟩
 | _, _, _, .vw h t => ⟨by simp [(M8 t).1], fun i s e => match i, e with
  | 0, e => by
   simp at e; subst e
   refine ⟨⟨_, rfl, ?_⟩, fun _ _ z => z⟩
   rcases h with h | ⟨l, vs, ys, e1, e2, h1, h2, h3⟩
   ·exact .inl h
   ·cases e2; exact .inr ⟨l, vs, e1, h1, h2, h3⟩
  | i + 1, e => by simpa using (M8 t).2 i s (by simpa using e)⟩
 | _, _, _, .bt h t => ⟨by simp [(M8 t).1], fun i s e => match i, e with
  | 0, e => by simp at e; subst e; exact ⟨⟨_, rfl, h⟩, fun _ _ z => z⟩
  | i + 1, e => by simpa using (M8 t).2 i s (by simpa using e)⟩
 | _, _, _, .st h t => ⟨by simp [(M8 t).1], fun i s e => match i, e with
  | 0, e => by simp at e; subst e; exact ⟨⟨_, rfl, h⟩, fun _ _ z => z⟩
  | i + 1, e => by simpa using (M8 t).2 i s (by simpa using e)⟩
theorem G3 {K : Frag} {ts : TS} {ps : PSt} [hs : RS K ts ps] {md : List Md} {psp : PSp} {vs : List V} {H : Hpp} {Q : VK} {E : XK} {N : List Str} (h : spOf K md psp vs H Q E)
  (hb : ∀ as Qp, psp as Qp -> ps ⟨fun _ => Qp (.d .none), fun s _ => Qp s, fun _ => False, fun _ => False⟩ (as.map some ++ List.replicate (N.length - md.length) none)) : ts { nx := fun _ H' => Q .non H', rt := Q } (L2.start N vs) H := by
 obtain ⟨w, as, Qp, rfl, ok, a, p, k⟩ := h
 obtain ⟨hl, hat⟩ := M8 a
 have look : ∀ (i : Nat) s, (as.map some ++ List.replicate (N.length - md.length) none)[i]? = some (some s) -> as[i]? = some s := fun i s e => by
  rw [List.getElem?_append] at e
  split at e
  ·rw [List.getElem?_map] at e
   cases q : as[i]? with
   | none => rw [q] at e; cases e
   | some t => rw [q] at e; cases e; rfl
  ·rw [List.getElem?_replicate] at e
   split at e <;> cases e
 refine hs.ok ⟨K, w, noZ⟩ w (as.map some ++ List.replicate (N.length - md.length) none) (L2.start N vs) _ _ rfl ⟨ok, Le.refl w, by simp [L2.start, hl, a.len], fun i s e => ?_, fun i j s t v u a e _ _ _ f => absurd f ((hat i _ (look i _ e)).2 v a), fun a z => z.elim, fun a j t u z => z.elim⟩ ⟨fun env σ w' E' _ q => ?_, fun v s _ _ w' E' h r q => k v s w' E'.wok E'.le0 h r q, fun _ _ _ _ _ z => z, fun _ _ _ _ _ z => z⟩ (hb as Qp p)
 ·obtain ⟨⟨v, h1, h2⟩, _⟩ := hat i s (look i s e)
  refine ⟨v, ?_, h2⟩
  unfold L2.start
  rw [List.getElem?_append_left (by rw [List.length_map]; exact (List.getElem?_eq_some_iff.mp h1).1), List.getElem?_map, h1]; rfl
 ·exact k .non (.d .none) w' E'.wok E'.le0 (show Den _ _ _ _ from .non) rfl q
def pLaw : PSp := fun as Q => ∃ ns : List Int, as = [.bor (ns.map .int)] /\ ns.length <= 63 /\ Q (.d (.bool true))
theorem A8i {K : Frag} {F : Hpp} : ∀ ns : List Int, DenAll K F (ns.map V.int) (ns.map .int)
 | [] => .nil
 | n :: r => .cons (.int n) (A8i r)
theorem B7o {K : Frag} : ∀ vs H Q E, B2y K vs H Q E -> spOf K [.vw] pLaw vs H Q E := by
 rintro vs H Q E ⟨a, ns, rfl, hS, hl, k⟩
 refine ⟨⟨fun _ => False, H, fun b => if b = a then H a else none⟩, [.bor (ns.map .int)], fun s => s = .d (.bool true), rfl, ⟨fun b o e => ?_, fun _ z => z.elim, fun _ z => z.elim⟩, .vw (.inl (.lst ?_ (A8i ns))) .nil, ⟨ns, rfl, hl, rfl⟩, fun v s w' ok l h r e => ?_⟩
 ·dsimp only at e
  split at e
  ·rename_i z; rw [z]; exact e
  ·cases e
 ·rcases hS with (h | ⟨o, h⟩) | h
  ·exact .inl (.inl (by dsimp only; rw [if_pos rfl]; exact h))
  ·exact .inl (.inr ⟨o, by dsimp only; rw [if_pos rfl]; exact h⟩)
  ·exact .inr h
 ·subst e
  have : v = .bl true := Den.blE h
  subst this
  exact k _
end Pu
namespace L2
open PySem PySem.Spec PyProof.Rows
end L2
namespace Pu
open PySem L2 My Prf
theorem A6g {q : Rat} {Q : SV -> Prop} : pIx (dq q) (.int 0) Q = Q (.d (.int q.num)) := rfl
theorem A6f {q : Rat} {Q : SV -> Prop} : pIx (dq q) (.int 1) Q = Q (.d (.int (q.den : Int))) := rfl
theorem A7w {i : Int} : (PyData.int i).canLay0 = true := rfl
theorem A8g {i : Int} : (PyData.int i).depth = 0 := rfl
theorem A8f {s : Str} : (PyData.str s).depth = 0 := rfl
theorem B12 {q : Rat} : (dq q).canLay0 = true := rfl
theorem B2i {q : Rat} : (dq q).depth = 1 := rfl
theorem Y8 {i j : Int} : PyData.eqv (.int i) (.int j) = decide (i = j) := by
 show (i == j) = _
 by_cases h : i = j <;> simp [h]
theorem B25 {p q : Rat} (h1 : p.num = q.num) (h2 : (p.den : Int) = q.den) : p = q := Rat.ext h1 (by omega)
theorem B2g {p q : Rat} : PyData.eqv (dq p) (dq q) = decide (p = q) := by
 show (PyData.eqv (.int p.num) (.int q.num) && (PyData.eqv (.int (p.den : Int)) (.int (q.den : Int)) && true)) = _
 rw [Y8, Y8, Bool.and_true]
 by_cases h : p = q
 ·subst h; simp
 ·rw [decide_eq_false h]
  by_cases h1 : p.num = q.num
  ·have h2 : ¬ (p.den : Int) = (q.den : Int) := fun z => h (B25 h1 z)
   rw [decide_eq_false h2, Bool.and_false]
  ·rw [decide_eq_false h1, Bool.false_and]
theorem A74 {q : Rat} : isNo (dq q) = false := rfl
theorem A4p : PyData.tuple [.int 0, .int 1] = dq 0 := rfl
theorem B0y {q : Rat} : tyD (dq q) = "tuple" := rfl
theorem B18 : kitB "int" "int" = some true := by decide +kernel
theorem B17 : kitB "list" "list" = some true := by decide +kernel
theorem B16 : kitB "list" "tuple" = some false := by decide +kernel
theorem B14 : kitB "tuple" "list" = some false := by decide +kernel
theorem B15 : kitB "NoneType" "tuple" = some false := by decide +kernel
theorem A76 {K : Frag} {F : Hpp} : ∀ {vs : List V} {ns : List Int}, DenAll K F vs (ns.map .int) -> vs = ns.map V.int
 | _, [], .nil => rfl
 | _, n :: r, .cons h t => by rw [h.intE, A76 t]; rfl
def A5h : PSp := fun as Q => ∃ n : Int, as = [.st, .d (.int n)] /\ 0 < n /\ Sm 4000 n /\ ∀ d : Int, 0 <= d -> d < n -> Q (.d (.int d))
theorem B2r {K : Frag} : ∀ vs H Q E, spOf K [.st, .dat] A5h vs H Q E -> A43 vs H Q E := by
 rintro vs H Q E ⟨w, as, Qp, rfl, ok, a, ⟨n, rfl, n0, sn, q⟩, k⟩
 cases a with
 | st h t => cases t with
  | dat h' t =>
   cases t
   obtain ⟨p, e, hm⟩ := h
   subst e
   rw [Den.intE h']
   refine ⟨p, n, rfl, ok.st p hm, n0, sn, fun d H' d0 d1 S' kp => ?_⟩
   have out : ∀ b o, w.H b = some o -> b ≠ p -> H' b = some o := fun b o e ne => kp b o ne e
   have pn := ok.nf p hm
   refine k (.int d) (.d (.int d)) ⟨w.M, H', w.F⟩ ⟨fun b o e => out b o (ok.sub b o e) (fun z => by rw [z, pn] at e; cases e), fun r hr => ?_, ok.nf⟩ ⟨⟨Same.refl _, fun b o e nb => out b o e (fun z => nb (z ▸ hm)), fun _ z => z, fun _ z => .inl z, fun b e => ?_⟩, fun _ _ z => .inl z⟩ (Den.int d) rfl (q d d0 d1)
   ·by_cases z : r = p
    ·subst z; exact S'
    ·exact (ok.st r hr).kp z kp
   ·cases hb : w.H b with
    | none => rfl
    | some o =>
     by_cases z : b = p
     ·subst z; obtain ⟨_, _, _, hp, _⟩ := S'.ex; rw [show H' b = none from e] at hp; cases hp
     ·have := out b o hb z; rw [show H' b = none from e] at this; cases this
def B6g : PSp := fun as Q => ∃ a b : Int, as = [.d (.int a), .d (.int b)] /\ Q (.d (.int ((Int.gcd a b : Nat) : Int)))
def B3c : PSp := fun as Q => ∃ t b : Int, as = [.d (.int t), .d (.int b)] /\ 0 < b /\ Sm 8000 t /\ Sm 8000 b /\ Q (.d (dq (Rat.divInt t b)))
def A0e (f : Rat -> Rat -> Rat) : PSp := fun as Q => ∃ p q : Rat, as = [.d (dq p), .d (dq q)] /\ SmQ 3900 p /\ SmQ 3900 q /\ Q (.d (dq (f p q)))
def A5i : PSp := fun as Q => ∃ p q : Rat, as = [.d (dq p), .d (dq q)] /\ SmQ 3900 p /\ SmQ 3900 q /\ Q (.d (.bool (decide (p < q))))
def A5l : PSp := fun as Q => ∃ (pl : Bool) (le : Int), as = [.st, .d (.bool pl), .d (.int le)] /\ (le = 0 \/ le = 1) /\ ∀ q : Rat, 0 <= q -> (le = 1 -> 0 < q) -> SmR 41 6 q -> (pl = true -> SmR 3 1 q /\ q.den = 1) -> Q (.d (dq q))
end Pu
namespace L2
open PySem PySem.Spec PyProof.Rows
section
variable {X : Cx} {tg : Expr}
def B57 (K : PySem.W.Frag) : R2 := fun x y H Q => ∃ l b xs zs, x = .ref l /\ y = .ref b /\ SqL K H l xs /\ SqL K H b zs /\ xs.length + zs.length <= sizeLine /\ ∀ p, H p = none -> Q (.ref p) (upd H p (.lst (xs ++ zs)))
theorem Q4 {K : PySem.W.Frag} (hK : X.K = K) : OpR X (binaryOp .Add) (B57 K) := by
 subst hK
 intro pins s σ H x y v u Q I rx ry h
 obtain ⟨l, b, xs, zs, rfl, rfl, hH, hB, hz, q⟩ := h
 cases rx
 cases ry
 obtain ⟨its, r, hl, z⟩ := I.list hH
 obtain ⟨its2, r2, hl2, z2⟩ := I.list hB
 have n1 := r.length
 have n2 := r2.length
 obtain ⟨⟨k1, dd, da, sl⟩, m1, ho, e1, e2, e3⟩ := hl
 obtain ⟨⟨k2, dd2, da2, sl2⟩, m2, ho2, e4, e5, e6⟩ := hl2
 dsimp only at e1 e2 e3 e4 e5 e6
 subst e1 e2 e3 e4 e5 e6
 refine concat_meets ⟨_, ho, rfl⟩ ⟨_, ho2, rfl⟩ noFill_list_add seq_list_add F.slot_list_add F.entry_list_add (F.args_list_add_2 _ _) (list_addW l b its.toArray its2.toArray m1 m2 none none sl sl2 (by rw [List.size_toArray, List.size_toArray]; omega)) ⟨ho, ho2, ?_⟩
 rw [show its.toArray ++ its2.toArray = (its ++ its2).toArray by simp]
 exact ⟨.ref _, _, I.lnew (t' := s.toks) (r.append r2) (by rw [List.length_append]; omega), rfl, q _ I.fresh⟩
end
end L2
namespace L2
open PySem PySem.Spec PyProof.Rows
section
variable {X : Cx}
end
end L2
namespace Pu
open PySem L2 My Prf
def pCat (x y : PyData) (Q : SV -> Prop) : Prop := match x, y with
 | .list xs, .list ys => xs.length + ys.length <= 1000000 /\ Q (.own (xs ++ ys))
 | _, _ => False
instance ro_cat {K : Frag} : RO K (B57 K) pCat where
 ok := by
  rintro c w env σ x y dx dy Qp Q rfl E vx vy p k
  unfold pCat at p
  split at p
  ·obtain ⟨a, vs, e, h1, h2⟩ := vx.lst E.wok
   obtain ⟨b, us, e', g1, g2⟩ := vy.lst E.wok
   exact ⟨a, b, vs, us, e, e', h1, g1, by rw [h2.len, g2.len]; exact Nat.le_trans p.1 (by decide), fun q hq => k _ _ _ (Res.lst E hq (h2.app g2)) p.2⟩
  ·exact p.elim
end Pu
namespace Pu
open PySem L2 My Prf
theorem B37 {x : PyData} {xs : LP} {Q : SV -> Prop} : pGet (x :: xs) 0 Q = Q (.d x) := by unfold pGet; rw [at0]
theorem B36 {x y : PyData} {xs : LP} {Q : SV -> Prop} : pGet (x :: y :: xs) 1 Q = Q (.d y) := by unfold pGet; rw [at1]
theorem B6t {x y z : PyData} {xs : LP} {Q : SV -> Prop} : pGet (x :: y :: z :: xs) 2 Q = Q (.d z) := by unfold pGet; rw [at2]
theorem E8 {xs : LP} {i : Int} {z : PyData} {Q : SV -> Prop} (h : atI xs i = some z) (q : Q (.d z)) : pGet xs i Q := by unfold pGet; rw [h]; exact q
theorem A96 {xs : List Int} {d : Int} (h0 : 0 <= d) (h1 : d < xs.length) : ∃ z, z ∈ xs /\ atI (xs.map PyData.int) d = some (.int z) := by
 obtain ⟨n, rfl⟩ := Int.eq_ofNat_of_zero_le h0
 have hn : n < xs.length := by omega
 refine ⟨xs[n], List.getElem_mem hn, L4 ?_⟩
 rw [List.getElem?_map, List.getElem?_eq_getElem hn]; rfl
theorem B6 {α : Type} {f : α -> PyData} {xs : List α} {n : Nat} {a : α} {Q : SV -> Prop} (h : xs[n]? = some a) (q : Q (.d (f a))) : pGet (xs.map f) (n : Int) Q :=
 E8 (L4 (by rw [List.getElem?_map, h]; rfl)) q
theorem A6i {α : Type} {f : α -> PyData} {xs : List α} {a : α} {Q : SV -> Prop} (h : xs[xs.length - 1]? = some a) (h1 : 1 <= xs.length) (q : Q (.d (f a))) : pGet (xs.map f) (-1) Q := by
 refine E8 (z := f a) ?_ q
 unfold L2.atI ixN
 rw [if_neg (by decide), if_pos (by rw [List.length_map]; omega)]
 show (xs.map f)[((-1 : Int) + ((xs.map f).length : Int)).toNat]? = _
 rw [show ((-1 : Int) + ((xs.map f).length : Int)).toNat = xs.length - 1 by rw [List.length_map]; omega, List.getElem?_map, h]; rfl
end Pu
namespace Pu
open PySem L2 My Prf
theorem pIxT {xs : LP} {i : Int} {Q : SV -> Prop} : pIx (.tuple xs) (.int i) Q = pGet xs i Q := rfl
end Pu
namespace L2
open PySem PySem.Spec PyProof.Rows
structure QE (X : Cx) (e : Expr) (t : TE) : Prop where
 out : PE X e  t
structure QT (X : Cx) (e : Expr) (t : TT) : Prop where
 out : PT X e  t
structure QW (X : Cx) (e : Expr) (t : TT) : Prop where
 out : PW X e  t
structure QA (X : Cx) (e : List Expr) (t : TA) : Prop where
 out : PA X e  t
structure QSs (X : Cx) (e : List Stmt) (t : TS) : Prop where
 out : PSs X e  t
structure QS (X : Cx) (e : Stmt) (t : TS) : Prop where
 out : PS X e  t
structure QGs (X : Cx) (e : List Expr) (t : TGs) : Prop where
 out : PGs X e  t
structure QG (X : Cx) (e : Expr) (t : TG) : Prop where
 out : PG X e  t
structure QI (X : Cx) (e e2 : Expr) (t : TI) : Prop where
 out : PI X e e2  t
structure QTs (X : Cx) (e : List Expr) (t : TT) : Prop where
 out : PTs X e  t
structure QO (X : Cx) (e : Option Expr) (t : TO) : Prop where
 out : PO X e  t
section
variable {X : Cx}
theorem qpv (i: Nat) {x : Str} {pos : Pos} (hN: X.N[i]? = some x := by rfl) (hv: Vis X.env.scope x := by first | exact Or.inl rfl | exact Or.inr (Or.inl rfl) | exact Or.inr (Or.inr rfl)) (hd: (x == ("__debug__" : Str)) = false := by decide) (hcd: (x == ("__classdict__" : Str)) = false := by decide) : QE X (.Name x pos) (tVar i) := ⟨pv i hN hv hd hcd⟩
theorem A3 {i j pos} : QE X (.Constant (.int i) j pos) (tC (.int i)) := ⟨F6 ⟩
theorem K7 {b j pos} : QE X (.Constant (.bool b) j pos) (tC (.bl b)) := ⟨B81 ⟩
theorem G7 {j pos} : QE X (.Constant .none j pos) (tC .non) := ⟨B6n ⟩
theorem C6 {x j pos} : QE X (.Constant (.str x) j pos) (tC (.str x)) := ⟨B6l ⟩
theorem S2 {x : Str} {v : V} {u : Value} {pos : Pos} (hg: Gl X x) (hm: X.mg x = some u) (r: RelV v u) (hd: (x == ("__debug__" : Str)) = false := by decide) : QE X (.Name x pos) (tC v) := ⟨B3m hg hm r hd⟩
theorem M4 {x : Str} {v : V} {u : Value} {pos : Pos} (hg: Gl X x) (hm: X.mg x = none) (hv: bootBuiltins x = some u) (r: RelV v u) (hn: x ≠ "__name__" := by decide) (hd: (x == ("__debug__" : Str)) = false := by decide) : QE X (.Name x pos) (tC v) := ⟨B3p hg hm hv r hn hd⟩
theorem C5 {op : Operator} {r : R2} (ho: OpR X (binaryOp op) r) (ha: QE X a ta) (hb: QE X b tb) : QE X (.BinOp a op b pos) (tOp r ta tb) := ⟨K8 ho ha.out hb.out⟩
theorem B06 {op : UnaryOp} {r : V -> Hp -> VK -> Prop} (ho: UnR X (unaryOp op) r) (ha: QE X a ta) : QE X (.UnaryOp op a pos) (tUn r ta) := ⟨B8z ho ha.out⟩
theorem J0 {op : CmpOp} {r : R2} (ho: OpR X (compareOp op) r) (ha: QE X a ta) (hb: QE X b tb) (hm: behindInMarks op b = false) : QE X (.Compare a [op] [b] pos) (tOp r ta tb) := ⟨X7 ho ha.out hb.out hm⟩
theorem B7 {op : CmpOp} {r : R2} (ho: OpR X (compareOp op) r) (ha: QE X a ta) (hb: QE X b tb) (hm: behindInMarks op b = false) : QT X (.Compare a [op] [b] pos) (B2s (tOp r ta tb)) := ⟨A5f ho ha.out hb.out hm⟩
theorem X3 {rest : List Expr} (ha: QE X a ta) (hb: QE X (.BoolOp .And (b :: rest) pos) tb) : QE X (.BoolOp .And (a :: b :: rest) pos) (B2v ta tb) := ⟨B6o ha.out hb.out⟩
theorem X2 {op} {t : TE} (h: QE X a t) : QE X (.BoolOp op [a] pos) t := ⟨B6m h.out⟩
theorem O1 {rest : List Expr} (ha: QT X a tA) (hb: QW X (.BoolOp .And (b :: rest) pos) tB') : QW X (.BoolOp .And (a :: b :: rest) pos) (tAnd tA tB') := ⟨B6d ha.out hb.out⟩
theorem M1 {rest : List Expr} (ha: QT X a tA) (hb: QW X (.BoolOp .Or (b :: rest) pos) tB') : QW X (.BoolOp .Or (a :: b :: rest) pos) (tOr tA tB') := ⟨B8x ha.out hb.out⟩
theorem O9 (ha: QT X a tA) : QW X (.BoolOp .And [a] pos) tA := ⟨B28 ha.out⟩
theorem M3 (ha: QT X a tA) : QW X (.BoolOp .Or [a] pos) tA := ⟨B6c ha.out⟩
theorem O2 (ha: QT X a tA) : QT X (.UnaryOp .Not a pos) (tNot tA) := ⟨B6e ha.out⟩
theorem F8 {e : Expr} {t : TE} (h: QE X e t) (he: ∀ whole, isTrue e X.env whole = (do let v <- whole; standAt e.pos; holding [v] (truthy v)) := by intro _; rfl) : QT X e (tB t) := ⟨B09 h.out he⟩
theorem A5d {c : Expr} (hc: QT X c tA) (ha: QE X a ta) (hb: QE X b tb) : QE X (.IfExp c a b pos) (tIf tA ta tb) := ⟨A9p hc.out ha.out hb.out⟩
theorem L6 (hc: X.calm = true) (C: CompSc X scope cl N' cap) (hi: QI X tg iter wi) (hg: ∀ s3 H3 fp, QG (X.block scope cl N' s3 H3 fp) tg g) (ht: ∀ s3 H3 fp, QTs (X.block scope cl N' s3 H3 fp) ifs tt) (he: ∀ s3 H3 fp, QE (X.block scope cl N' s3 H3 fp) elt te) (hs: ∀ x, foldedSetIterable iter X.env x = pure x := by intro _; rfl) : QE X (.ListComp elt [⟨tg, iter, ifs, 0⟩] scope pos) (A87 wi g tt te cap) := ⟨B3n hc C hi.out (fun a b c => (hg a b c).out) (fun a b c => (ht a b c).out) (fun a b c => (he a b c).out) hs⟩
theorem F7 (hc: X.calm = true) (hN: X.N.Nodup) (hi: X.N[i]? = some y) (hy: X.env.scope.names.lookup y = some .local) (C: CompSc X scope cl N' cap) (hit: QI X tg iter wi) (hg: ∀ s3 H3 fp, QG (X.block scope cl N' s3 H3 fp) tg g) (ht: ∀ s3 H3 fp, QTs (X.block scope cl N' s3 H3 fp) ifs tt) (he: ∀ s3 H3 fp, QE (X.block scope cl N' s3 H3 fp) elt te) (hsw: swapsWith (.ListComp elt [⟨tg, iter, ifs, 0⟩] scope pos) (some (.Name y py)) spos.line X.env = pure true) (hs: ∀ x, foldedSetIterable iter X.env x = pure x := by intro _; rfl) : QS X (.Assign [.Name y py] (.ListComp elt [⟨tg, iter, ifs, 0⟩] scope pos) spos) (R7 wi g tt te cap i) := ⟨A38 hc hN hi hy C hit.out (fun a b c => (hg a b c).out) (fun a b c => (ht a b c).out) (fun a b c => (he a b c).out) hsw hs⟩
theorem C1 {x1} (h: QA X es t) : QE X (.Tuple es x1 pos) (tTup t) := ⟨B6k h.out⟩
theorem D3 (h: QA X es t) : QE X (.List es pos) (tLst t) := ⟨A5y h.out⟩
theorem N1 {lo hi : Option Expr} {r : V -> Option Int -> Option Int -> Hp -> VK -> Prop} (hr: SlR X r) (he: QE X e te) (hl: QO X lo tl) (hu: QO X hi th) : QE X (.Subscript e (.Slice lo hi none p2) pos) (tSl r te tl th) := ⟨A9o hr he.out hl.out hu.out⟩
theorem P2  : QO X none A1n := ⟨B3h ⟩
theorem P1 (h: QE X e te) : QO X (some e) (B2t te) := ⟨B3g h.out⟩
theorem A8 {r : R2} (hr: IxR X r) (ha: QE X a ta) (hb: QE X b tb) (hs: A84 b) : QE X (.Subscript a b pos) (tOp r ta tb) := ⟨X6 hr ha.out hb.out hs⟩
theorem A6 (F: FnOk X.prog X.w X.K X.mg X.base CX k f fd ps sp) (hr: Room k X.A) (hg: Gl X x) (hm: X.mg x = some (.ref f)) (hk: PySem.W.keepIn X.K (.ref f) = true) (hb: Binds X.K fd ps ds) (hd: Vals dvs ds) (hx: A30 CX X E) (ha: QA X (e :: es) t) (hdb: (x == ("__debug__" : Str)) = false := by decide) (he: starEach (e :: es) X.env = (false, eval e X.env) :: starEach es X.env := by rfl) (hpl: (backTo pos (starEach es X.env)).any (·.1) = false := by rfl) : QE X (.Call (.Name x p) (e :: es) [] pos) (A1o sp dvs E t) := ⟨B3o F hr hg hm hk hb hd hx ha.out hdb he hpl⟩
theorem B9 {id : String} (hc: CallR X (.builtin id) r) (hg: Gl X x) (hm: X.mg x = none) (hv: bootBuiltins x = some (.builtin id)) (ha: QA X (e :: es) t) (hn: x ≠ "__name__" := by decide) (hdb: (x == ("__debug__" : Str)) = false := by decide) (he: starEach (e :: es) X.env = (false, eval e X.env) :: starEach es X.env := by rfl) (hpl: (backTo pos (starEach es X.env)).any (·.1) = false := by rfl) : QE X (.Call (.Name x p) (e :: es) [] pos) (tCB r t) := ⟨A21 hc hg hm hv ha.out hn hdb he hpl⟩
theorem K4 (hc: CallR X (.type T) r) (hg: Gl X x) (hm: X.mg x = none) (hv: bootBuiltins x = some (.type T)) (ha: QA X (e :: es) t) (hn: x ≠ "__name__" := by decide) (hdb: (x == ("__debug__" : Str)) = false := by decide) (he: starEach (e :: es) X.env = (false, eval e X.env) :: starEach es X.env := by rfl) (hpl: (backTo pos (starEach es X.env)).any (·.1) = false := by rfl) : QE X (.Call (.Name x p) (e :: es) [] pos) (tCB r t) := ⟨A0i hc hg hm hv ha.out hn hdb he hpl⟩
theorem F5 {K : PySem.W.Frag} (hK : X.K = K) {id : String} (pa: PlainAttrs T) (slot: Slot T name id) (hty: typeOf (.builtin id) = pure (.type "method_descriptor")) (hm: MtR X id r) (ho: QE X o to) (ha: QA X (e :: es) t) (hbase: attributeBase o name X.env (eval o X.env) = eval o X.env := by rfl) (hfew: ((backTo cpos (starEach (e :: es) X.env)).all (fun x => !x.1) && (backToKw cpos (keywordEach [] X.env)).all (fun x => x.1.isSome)
   && decide ((e :: es).length + ([] : List Keyword).length + (if ([] : List Keyword).isEmpty then 0 else 1) < 30)) = true := by rfl) (hline: (apos.endLine == cpos.line) = true := by rfl) (hs: starEach (e :: es) X.env = (false, eval e X.env) :: starEach es X.env := by rfl) (hplain: (backTo cpos (starEach es X.env)).any (·.1) = false := by rfl) : QE X (.Call (.Attribute o name apos) (e :: es) [] cpos) (tBM K T r to t) := by subst hK; exact ⟨B80 pa slot hty hm ho.out ha.out hbase hfew hline hs hplain⟩
theorem A1  : QA X [] tNil := ⟨V3 ⟩
theorem A0 (ha: QE X e te) (hr: QA X es t) (hs: starEach (e :: es) X.env = (false, eval e X.env) :: starEach es X.env := by rfl) : QA X (e :: es) (K6 te t) := ⟨O3 ha.out hr.out hs⟩
theorem C3  : QSs X [] B2u := ⟨A1t ⟩
theorem A7 {st : Stmt} (h1: QS X st t) : QSs X [st] t := ⟨Q3 h1.out⟩
theorem A2 {st : Stmt} {rest : List Stmt} (h1: QS X st t) (h2: QSs X rest u) : QSs X (st :: rest) (tSeq t u) := ⟨J4 h1.out h2.out⟩
theorem A5c {st : Stmt} : QS X st A40 := ⟨A9g ⟩
theorem C0 (he: QE X e te) : QS X (.Return (some e) pos) (tRet te) := ⟨A2y he.out⟩
theorem D9 (he: QE X e te) (hs: swapsWith e none pos.line X.env = pure false := by rfl) : QS X (.Expr e pos) (A86 te) := ⟨B3e he.out hs⟩
theorem D0 {c : Expr} {a b : List Stmt} {tc : TT} (hc: QT X c tc) (ha: QSs X a t) (hb: QSs X b u) : QS X (.If c a b pos) (tIfS tc t u) := ⟨B3d hc.out ha.out hb.out⟩
theorem T2 {c : Expr} {body : List Stmt} {tc : TT} {tb : TS} (hp: PassesOwn (model X.prog X.w) X.A X.env X.xe) (hc: QT X c tc) (hb: QSs X body tb) : QS X (.While c body [] pos) (A4z tc tb) := ⟨A9f hp hc.out hb.out⟩
theorem F0 {iter : Expr} {body : List Stmt} {wi : TI} {g : TG} {tb : TS} {pos : Pos} (hp: PassesOwn (model X.prog X.w) X.A X.env X.xe) (hc: X.calm = true) (hi: QI X tg iter wi) (hg: QG X tg g) (hb: QSs X body tb) (hs: ∀ x, foldedSetIterable iter X.env x = pure x := by intro _; rfl) : QS X (.For tg iter body [] pos) (tFor wi g tb) := ⟨B1a hp hc hi.out hg.out hb.out hs⟩
theorem B3 {i : Nat} {x : Str} {e : Expr} {te : TE} {pos' : Pos} (hN: X.N.Nodup) (hi: X.N[i]? = some x) (hx: Loc X.env.scope x) (he: QE X e te) (hs: swapsWith e (some (.Name x pos')) pos.line X.env = pure false := by rfl) (hf: X.fn x = true \/ X.env.scope.names.lookup x = some .local := by first | exact .inl rfl | exact .inr rfl | assumption) : QS X (.Assign [.Name x pos'] e pos) (tAsg te (R5 i)) := ⟨V2 hN hi hx he.out hs hf⟩
theorem X1 {i j : Nat} {x y : Str} {a b : Expr} {ta : TA} {px py pt : Pos} {kt k2 pt2} (hc: X.calm = true) (hN: X.N.Nodup) (hi: X.N[i]? = some x) (hj: X.N[j]? = some y) (hij: i ≠ j) (hx: X.env.scope.names.lookup x = some .local) (hy: X.env.scope.names.lookup y = some .local) (ha: QA X [a, b] ta) (hw: swappedStores [.Tuple [.Name x px, .Name y py] kt pt] (.Tuple [a, b] k2 pt2) X.env = pure (some [x, y])) (hs: swapsWithSole [.Tuple [.Name x px, .Name y py] kt pt] (.Tuple [a, b] k2 pt2) pos.line X.env = pure false := by rfl) : QS X (.Assign [.Tuple [.Name x px, .Name y py] kt pt] (.Tuple [a, b] k2 pt2) pos) (tPar i j ta) := ⟨B6f hc hN hi hj hij hx hy ha.out hw hs⟩
theorem E6 {tg e : Expr} {te : TE} {g : TG} (he: QE X e te) (hg: QG X tg g) (hs: swapsWithSole [tg] e pos.line X.env = pure false := by rfl) (hw: swappedStores [tg] e X.env = pure none := by rfl) (h1: (assignEach [tg] X.env).map (·.2) = [assign tg X.env] := by rfl) : QS X (.Assign [tg] e pos) (tAsg te g) := ⟨A2z he.out hg.out hs hw h1⟩
theorem A9 {i : Nat} {x : Str} (hN: X.N.Nodup) (hi: X.N[i]? = some x) (hx: Loc X.env.scope x) (hf: X.fn x = true \/ X.env.scope.names.lookup x = some .local := by first | exact .inl rfl | exact .inr rfl | assumption) : QG X (.Name x pos) (R5 i) := ⟨A5x hN hi hx hf⟩
theorem C8  : QGs X [] gNil := ⟨B3k ⟩
theorem B2 {e : Expr} {es : List Expr} {t : TG} {u : TGs} (h1: QG X e t) (h2: QGs X es u) (hs: (assignEach (e :: es) X.env).map (·.2) = assign e X.env :: (assignEach es X.env).map (·.2) := by rfl) : QGs X (e :: es) (A16 t u) := ⟨A9n h1.out h2.out hs⟩
theorem C9 {K : PySem.W.Frag} {pos : Pos} {es : List Expr} {k : Nat} {t : TGs} {n : Nat} (h: X.K = K) (hc: X.calm = true) (hg: QGs X es t) (hn: (assignEach es X.env).length = n := by rfl) (hst: (assignEach es X.env).findIdx? (·.1) = none := by rfl) : QG X (.Tuple es k pos) (gTup K n t) := ⟨B3l h hc hg.out hn hst⟩
theorem E9 {a : Expr} {ta : TA} {p pos : Pos} (hg: Gl X "range") (hm: X.mg "range" = none) (ha: QA X [a] ta) (hs: starEach [a] X.env = [(false, eval a X.env)] := by rfl) : QI X tg (.Call (.Name "range" p) [a] [] pos) (B4w ta) := ⟨A0h hg hm ha.out hs⟩
theorem A34 {a b : Expr} {ta : TA} {p pos : Pos} (hg: Gl X "range") (hm: X.mg "range" = none) (ha: QA X [a, b] ta) (hs: starEach [a, b] X.env = [(false, eval a X.env), (false, eval b X.env)] := by rfl) (hs2: starEach [b] X.env = [(false, eval b X.env)] := by rfl) : QI X tg (.Call (.Name "range" p) [a, b] [] pos) (B4v ta) := ⟨A5w hg hm ha.out hs hs2⟩
theorem F2 {K : PySem.W.Frag} {l : Expr} {tl : TE} (h: X.K = K) (hl: QE X l tl) : QI X tg l (iSq K tl) := ⟨B6h h hl.out⟩
theorem G4 {X : Cx} : QTs X [] tYes := ⟨B3b ⟩
theorem S1 {X : Cx} {c : Expr} {t : TT} (h: QT X c t) : QTs X [c] t := ⟨B3a h.out⟩
theorem QW.pt {X : Cx} {e : Expr} {t : TT} (h : QW X e t) : QT X e t := ⟨h.out.pt⟩
end
end L2
namespace Pu
open PySem L2 My Prf
theorem B77 (n : Int) : PyData.tuple [.int n, .int 1] = dq (n : Rat) := by
 unfold dq; rw [Rat.num_intCast, Rat.den_intCast]; rfl
theorem A1p {k : Nat} {n : Int} (h : Sm k n) : SmR k 1 (n : Rat) := ⟨by rw [Rat.num_intCast]; exact h, by rw [Rat.den_intCast]; unfold Sm; decide⟩
theorem B2z {k : Nat} {q : Rat} (h : SmR k 1 q) : q.den = 1 := by
 have h1 : (q.den : Int).natAbs < 2 ^ 1 := h.2
 have h2 := q.den_nz
 omega
theorem B7y {n : Int} (h : 0 <= n) : (0 : Rat) <= (n : Rat) := Rat.intCast_nonneg.mpr h
theorem B7x {n : Int} (h : 0 < n) : (0 : Rat) < (n : Rat) := Rat.intCast_pos.mpr h
theorem A45 {z : Int} (h0 : 0 <= z) (h1 : z <= 1000000000000000000) : Sm 4000 z := Sm.mono (k := 64) (J9 (B := 1000000000000000000) (by omega) (by omega) (by decide)) (by decide)
theorem A25 {c : Rat × Rat} {Q : SV -> Prop} : pIx (dcn c) (.int 0) Q = Q (.d (dq c.1)) := by unfold dcn; rw [pIxT, B37]
theorem A24 {c : Rat × Rat} {Q : SV -> Prop} : pIx (dcn c) (.int 1) Q = Q (.d (dq c.2)) := by unfold dcn; rw [pIxT, B36]
theorem M6 {lo : Int} {n : Nat} {pg : PyData -> PEnv -> (PEnv -> Prop) -> Prop} {pt : PTt} {pd : PDt} {e0 : PEnv} {Fin : LP -> Prop} (Pv : Nat -> PEnv -> LP -> Prop) (h0 : Pv 0 e0 [])
  (hs : ∀ (i : Nat) e ys, i < n -> Pv i e ys -> pg (.int (lo + (i : Int))) e fun e2 => pt e2 fun b e3 => if b = true then pd e3 fun y e4 => Pv (i + 1) e4 (ys ++ [y]) else Pv (i + 1) e3 ys) (hd : ∀ e ys, Pv n e ys -> Fin ys) : N2 (rngD lo n) pg pt pd e0 Fin :=
 ⟨Pv, h0, fun i x e ys hx hi => by obtain ⟨h1, rfl⟩ := A2s hx; exact hs i e ys h1 hi, fun e ys h => hd e ys (by rwa [G8] at h)⟩
theorem K3 {α : Type} {f : α -> PyData} {xs : List α} {pg : PyData -> PEnv -> (PEnv -> Prop) -> Prop} {pt : PTt} {pd : PDt} {e0 : PEnv} {Fin : LP -> Prop} (Pv : Nat -> PEnv -> LP -> Prop) (h0 : Pv 0 e0 [])
  (hs : ∀ (i : Nat) a e ys, xs[i]? = some a -> Pv i e ys -> pg (f a) e fun e2 => pt e2 fun b e3 => if b = true then pd e3 fun y e4 => Pv (i + 1) e4 (ys ++ [y]) else Pv (i + 1) e3 ys) (hd : ∀ e ys, Pv xs.length e ys -> Fin ys) : N2 (xs.map f) pg pt pd e0 Fin := by
 refine ⟨Pv, h0, fun i x e ys hx hi => ?_, fun e ys h => hd e ys (by rwa [List.length_map] at h)⟩
 rw [List.getElem?_map] at hx
 cases ha : xs[i]? with
 | none => rw [ha] at hx; cases hx
 | some a => rw [ha] at hx; cases hx; exact hs i a e ys ha hi
theorem K2 {α : Type} {f : α -> PyData} {xs : List α} {pg : PyData -> PEnv -> (PEnv -> Prop) -> Prop} {pb : PSt} {D : PEnds} {env : PEnv} (Iv : Nat -> PEnv -> Prop) (h0 : Iv 0 env)
  (hs : ∀ (i : Nat) a e, xs[i]? = some a -> Iv i e -> pg (f a) e fun e2 => pb ⟨Iv (i + 1), D.rt, D.nx, Iv (i + 1)⟩ e2) (hd : ∀ e, Iv xs.length e -> D.nx e) : A0j (xs.map f) pg pb D env := by
 refine ⟨Iv, h0, fun i x e hx hi => ?_, fun e h => hd e (by rwa [List.length_map] at h)⟩
 rw [List.getElem?_map] at hx
 cases ha : xs[i]? with
 | none => rw [ha] at hx; cases hx
 | some a => rw [ha] at hx; cases hx; exact hs i a e ha hi
theorem B7n (cs : LR) : (PyData.list (cs.map dcn)).canLay0 = true := A8j cs
end Pu
namespace Pu
open PySem L2 My Prf
theorem sm_zero : SmR 1 1 (0 : Rat) := ⟨by unfold Sm; decide, by unfold Sm; decide⟩
end Pu
namespace Pu
open PySem L2 My Prf
theorem A3z {q : Rat} {k : LP -> Prop} : U6 (dq q) k = k [.int q.num, .int (q.den : Int)] := rfl
theorem A7v : (PyData.list []).canLay0 = true := rfl
end Pu
namespace Pu
open PySem L2 My Prf
theorem A4u {i : Int} : tyD (.int i) = "int" := rfl
theorem A2p {b : Bool} : tyD (.bool b) = "bool" := rfl
theorem A4t {s : Str} : tyD (.str s) = "str" := rfl
theorem A2n : tyD .none = "NoneType" := rfl
theorem A2o {xs : LP} : tyD (.list xs) = "list" := rfl
theorem A4s {xs : LP} : tyD (.tuple xs) = "tuple" := rfl
theorem A4v {c : Rat × Rat} : tyD (dcn c) = "tuple" := rfl
theorem W2 {xs : LP} {k : LP -> Prop} : U6 (.list xs) k = k xs := rfl
theorem A1l {xs : LP} {k : LP -> Prop} : U6 (.tuple xs) k = k xs := rfl
theorem A0w : isNo .none = true := rfl
end Pu
namespace Pu
open PySem L2 My Prf
end Pu
namespace L2
open PySem PySem.Spec PyProof.Rows
section
variable {X : Cx} {pins : List (Addr × Obj)} {σ : St} {H : Hp} {s : Shared} {h' : Heap}
theorem Inv.turnL {t' : Nat} {wr : List Addr} (I : Inv X pins σ H s) (k : ∀ b o, b ∉ wr -> s.heap.get? b = some o -> h'.get? b = some o) (hf : ∀ b ∈ wr, FpOk X pins H b) : Inv X pins σ H { s with heap := h', toks := t' } := by
 have nw : ∀ b u, H b = some u -> b ∉ wr := fun b u e z => by have := (hf b z).1; rw [e] at this; cases this
 refine I.call (g' := s.gens) (d' := s.drawn) (ch := wr) ⟨fun b o e _ _ hb => k b o hb e, fun b o e _ _ hb => ⟨o.slots, k b o hb e⟩, fun _ _ _ n _ => n, fun b o e hb => ⟨o, k b o hb e⟩, fun _ _ e => e, fun _ _ _ e => e, fun b ps e => ⟨#[], by rw [e]; simp⟩⟩ (fun b u e => ?_) I.bare fun b hb => ?_
 ·refine (I.hok b u e).stay (fun c v hc q => k c v ?_ q) (fun _ q => q) fun _ _ q => q
  rcases hc with z | z
  ·rw [z]; exact nw b u e
  ·exact nw c _ z
 ·have f := hf b hb
  exact ⟨f.2.2.2.1, f.2.1, f.2.2.2.2.1, f.2.2.2.2.2⟩
theorem Inv.laidL {t' : Nat} {wr : List Addr} {T : Addr} {o : HO} (I : Inv X pins σ H s) (k : ∀ b u, b ∉ wr -> s.heap.get? b = some u -> h'.get? b = some u) (hf : ∀ b ∈ wr, FpOk X pins H b) (hp : s.heap.objs.size <= T) (new : ObjOk X.prog X.w (upd H T o) h' T o) :
  Inv X pins σ (upd H T o) { s with heap := h', toks := t' } := by
 have hn := I.hok.fresh hp
 have nw : ∀ b u, H b = some u -> b ∉ wr := fun b u e z => by have := (hf b z).1; rw [e] at this; cases this
 refine I.call (g' := s.gens) (d' := s.drawn) (ch := wr) ⟨fun b u e _ _ hb => k b u hb e, fun b u e _ _ hb => ⟨u.slots, k b u hb e⟩, fun b u e n _ => by rw [D8 (Nat.ne_of_lt (Nat.lt_of_lt_of_le (Heap.lt_size e) hp))]; exact n, fun b u e hb => ⟨u, k b u hb e⟩,
  fun b xs e => by rw [D8 (F4 e hn)]; exact e, fun b u xs e => by rw [D8 (F4 e hn)]; exact e, fun b ps e => ⟨#[], by rw [D8 (F4 e hn), e]; simp⟩⟩ (fun b u e => ?_) I.bare fun b hb => ?_
 ·by_cases hb : b = T
  ·subst hb; rw [D6] at e; cases e; exact new
  ·rw [D8 hb] at e
   refine (I.hok b u e).stay (fun c v hc q => k c v ?_ q) (fun c q => by rw [D8 (F4 q hn)]; exact q) fun c xs q => by rw [D8 (F4 q hn)]; exact q
   rcases hc with z | z
   ·rw [z]; exact nw b u e
   ·exact nw c _ z
 ·have f := hf b hb
  exact ⟨f.2.2.2.1, f.2.1, f.2.2.2.2.1, f.2.2.2.2.2⟩
end
def Itz (K : PySem.W.Frag) (l1 l2 : Addr) : It :=
 ⟨fun i H => ∃ xs ys x y, SqL K H l1 xs /\ SqL K H l2 ys /\ xs[i]? = some x /\ ys[i]? = some y,
  fun i H v H' => ∃ T x y, v = .ref T /\ H T = none /\ H' = upd H T (.tup [x, y]) /\ (∀ xs, SqL K H l1 xs -> xs[i]? = some x) /\ ∀ ys, SqL K H l2 ys -> ys[i]? = some y,
  fun i H => ∃ xs ys, SqL K H l1 xs /\ SqL K H l2 ys /\ (xs.length <= i \/ ys.length <= i)⟩
def Ite (K : PySem.W.Frag) (l : Addr) : It :=
 ⟨fun i H => ∃ xs x, SqL K H l xs /\ xs[i]? = some x,
  fun i H v H' => ∃ T x, v = .ref T /\ H T = none /\ H' = upd H T (.tup [.int i, x]) /\ ∀ xs, SqL K H l xs -> xs[i]? = some x,
  fun i H => ∃ xs, SqL K H l xs /\ xs.length <= i⟩
theorem R6 : ∀ {xs : List V} {us : List Value} {i : Nat} {x : V}, Vals xs us -> xs[i]? = some x -> ∃ u, us[i]? = some u /\ RelV x u
 | _, _, _, _, .nil, e => by simp at e
 | _, _, 0, _, .cons h _, e => by simp at e; subst e; exact ⟨_, rfl, h⟩
 | _, _, i + 1, x, .cons _ t, e => by
  obtain ⟨u, h1, h2⟩ := R6 (i := i) (x := x) t (by simpa using e)
  exact ⟨u, by simpa using h1, h2⟩
theorem B8o {P : Program} {w : World} {K : PySem.W.Frag} {es : List Expr} {kk : Nat} {tp : Pos} {z TI TO i1 i2 l1 l2 : Addr} (D : ZipApart z TI TO i1 i2 l1 l2) :
    Turn P w K (.Tuple es kk tp) (Itz K l1 l2) [z, TI, TO, i1, i2] z (fun i h => IsZip h z TI TO .none /\ IsPair h TI (.ref i1) (.ref i2) /\ (∃ a b, IsPair h TO a b) /\ h.IsListIter i1 l1 i /\ h.IsListIter i2 l2 i) where
  mem := List.mem_cons_self
  obj := fun i h st b hb => by
    obtain ⟨hz, hTI, ⟨a, c, hTO⟩, ⟨o1, g1, k1, d1⟩, ⟨o2, g2, k2, d2⟩⟩ := st
    simp only [List.mem_cons, List.mem_nil_iff, or_false] at hb
    rcases hb with rfl | rfl | rfl | rfl | rfl
    · exact ⟨_, hz, fun v q => Data.noConfusion (show Data.fields _ = Data.cell v from q)⟩
    · exact ⟨_, hTI, fun v q => Data.noConfusion (show Data.seq _ _ = Data.cell v from q)⟩
    · exact ⟨_, hTO, fun v q => Data.noConfusion (show Data.seq _ _ = Data.cell v from q)⟩
    · exact ⟨_, g1, fun v q => by rw [d1] at q; cases q⟩
    · exact ⟨_, g2, fun v q => by rw [d2] at q; cases q⟩
  keep := fun i h h' st k => by
    obtain ⟨hz, hTI, ⟨a, c, hTO⟩, h1, h2⟩ := st
    exact ⟨k z (by simp) _ hz, k TI (by simp) _ hTI, ⟨a, c, k TO (by simp) _ hTO⟩, h1.at fun o e => k i1 (by simp) o e, h2.at fun o e => k i2 (by simp) o e⟩
  item := by
    intro X hP hw hK hc i pins s σ H E I hf st hg
    subst hP hw hK
    obtain ⟨hz, hTI, ⟨a, c, hTO⟩, h1, h2⟩ := st
    obtain ⟨xs, ys, x, y, q1, q2, ex, ey⟩ := hg
    obtain ⟨its1, r1, p1, _⟩ := I.list q1
    obtain ⟨its2, r2, p2, _⟩ := I.list q2
    obtain ⟨u1, e1, ru1⟩ := R6 r1 ex
    obtain ⟨u2, e2, ru2⟩ := R6 r2 ey
    refine wpAny_pyNext_zip_item D hz hTI hTO h1 h2 p1.isList p2.isList (by simpa using e1) (by simpa using e2) fun h' a1 a2 a3 a4 a5 a6 hk => ⟨_, rfl, ?_⟩
    refine wpAny_letOwnedTupleGo_zip a1 fun h'' b1 sb => ?_
    have lt : ∀ {b o}, s.heap.get? b = some o -> s.heap.objs.size ≠ b := fun e => Nat.ne_of_gt (Heap.lt_size e)
    have k2 : ∀ b o, b ∉ [z, TO, i1, i2] -> s.heap.get? b = some o -> h''.get? b = some o := fun b o hb e => by
      simp only [List.mem_cons, List.mem_nil_iff, or_false, not_or] at hb
      exact (sb.2 b hb.1).trans (hk b o hb.1 hb.2.1 hb.2.2.1 hb.2.2.2 e)
    have I2 : Inv X pins σ (upd H s.heap.objs.size (.tup [x, y])) { s with heap := h'', toks := s.toks } := by
      refine I.laidL (wr := [z, TO, i1, i2]) k2 (fun b hb => hf b ?_) (Nat.le_refl _) ⟨by show 2 <= sizeLine; decide, [u1, u2], .cons ru1 (.cons ru2 .nil), ?_⟩
      · simp only [List.mem_cons, List.mem_nil_iff, or_false] at hb ⊢
        rcases hb with q | q | q | q <;> simp [q]
      · exact ⟨_, (sb.2 _ (lt hz)).trans a5, rfl, _, rfl⟩
    refine ⟨.ref s.heap.objs.size, _, I2, rfl, ⟨_, x, y, rfl, I.fresh, rfl, fun zs hzs => by rw [I.list_inj hzs q1]; exact ex, fun zs hzs => by rw [I.list_inj hzs q2]; exact ey⟩, ⟨b1, (sb.2 _ D.TIz).trans (hk _ _ D.TIz D.TITO D.TIi1 D.TIi2 hTI), ⟨_, _, (sb.2 _ D.TOz).trans a2⟩, a3.at fun o e => (sb.2 _ D.i1z).trans e, a4.at fun o e => (sb.2 _ D.i2z).trans e⟩, fun b hb => ?_⟩
    have : b ≠ s.heap.objs.size := by
      simp only [List.mem_cons, List.mem_nil_iff, or_false] at hb
      obtain ⟨_, g1, _⟩ := h1
      obtain ⟨_, g2, _⟩ := h2
      rcases hb with rfl | rfl | rfl | rfl | rfl
      · exact (lt hz).symm
      · exact (lt hTI).symm
      · exact (lt hTO).symm
      · exact (lt g1).symm
      · exact (lt g2).symm
    rw [D8 this]; exact (hf b hb).1
  done := by
    intro X hP hw hK hc i pins s σ H E I hf st hg
    subst hP hw hK
    obtain ⟨hz, hTI, ⟨a, c, hTO⟩, h1, h2⟩ := st
    obtain ⟨xs, ys, q1, q2, hl⟩ := hg
    obtain ⟨its1, r1, p1, _⟩ := I.list q1
    obtain ⟨its2, r2, p2, _⟩ := I.list q2
    have n1 := r1.length
    have n2 := r2.length
    refine wpAny_pyNext_zip_end (I.ok.hd hc) D hz hTI hTO h1 h2 p1.isList p2.isList (hl.imp (fun q => by simp; omega) fun q => by simp; omega) fun h' hk => ⟨rfl, ?_⟩
    refine I.turnL (t' := s.toks) (wr := [z, TO, i1, i2]) (fun b o hb e => ?_) (fun b hb => hf b ?_)
    · simp only [List.mem_cons, List.mem_nil_iff, or_false, not_or] at hb
      exact hk b o hb.1 hb.2.1 hb.2.2.1 hb.2.2.2 e
    · simp only [List.mem_cons, List.mem_nil_iff, or_false] at hb ⊢
      rcases hb with q | q | q | q <;> simp [q]
  self := fun _ _ _ _ _ st h => wpAny_pyIter_zip st.1 h
theorem A4x {P : Program} {w : World} {K : PySem.W.Frag} {es : List Expr} {kk : Nat} {tp : Pos} {e it l : Addr} (hei : e ≠ it) :
    Turn P w K (.Tuple es kk tp) (Ite K l) [e, it] e (fun i h => (∃ old, IsEnum h e it i old) /\ h.IsListIter it l i) where
  mem := List.mem_cons_self
  obj := fun i h st b hb => by
    obtain ⟨⟨old, he⟩, ⟨o1, g1, k1, d1⟩⟩ := st
    simp only [List.mem_cons, List.mem_nil_iff, or_false] at hb
    rcases hb with rfl | rfl
    · exact ⟨_, he, fun v q => Data.noConfusion (show Data.fields _ = Data.cell v from q)⟩
    · exact ⟨_, g1, fun v q => by rw [d1] at q; cases q⟩
  keep := fun i h h' st k => by
    obtain ⟨⟨old, he⟩, h1⟩ := st
    exact ⟨⟨old, k e (by simp) _ he⟩, h1.at fun o q => k it (by simp) o q⟩
  item := by
    intro X hP hw hK hc i pins s σ H E I hf st hg
    subst hP hw hK
    obtain ⟨⟨old, he⟩, h1⟩ := st
    obtain ⟨xs, x, q1, ex⟩ := hg
    obtain ⟨its1, r1, p1, _⟩ := I.list q1
    obtain ⟨u1, e1, ru1⟩ := R6 r1 ex
    refine wpAny_pyNext_enum_item he h1 p1.isList (x := u1) (by simpa using e1) hei fun h' a1 a2 a3 a4 hk => ⟨_, rfl, ?_⟩
    refine wpAny_letOwnedTupleGo_enum a1 fun h'' b1 sb => ?_
    have lt : ∀ {b o}, s.heap.get? b = some o -> s.heap.objs.size ≠ b := fun e => Nat.ne_of_gt (Heap.lt_size e)
    obtain ⟨o1, g1, _⟩ := id h1
    have I2 : Inv X pins σ (upd H s.heap.objs.size (.tup [.int i, x])) { s with heap := h'', toks := s.toks + 1 } := by
      refine I.laidL (wr := [e, it]) (fun b o hb q => ?_) (fun b hb => hf b hb) (Nat.le_refl _) ⟨by show 2 <= sizeLine; decide, [.int i s.toks, u1], .cons ⟨_, rfl⟩ (.cons ru1 .nil), ?_⟩
      · simp only [List.mem_cons, List.mem_nil_iff, or_false, not_or] at hb
        exact (sb.2 b hb.1).trans (hk b o hb.1 hb.2 q)
      · exact ⟨_, (sb.2 _ (lt he)).trans a3, rfl, _, rfl⟩
    refine ⟨.ref s.heap.objs.size, _, I2, rfl, ⟨_, x, rfl, I.fresh, rfl, fun zs hzs => by rw [I.list_inj hzs q1]; exact ex⟩, ⟨⟨_, by simpa using b1⟩, a2.at fun o q => (sb.2 _ hei.symm).trans q⟩, fun b hb => ?_⟩
    have : b ≠ s.heap.objs.size := by
      simp only [List.mem_cons, List.mem_nil_iff, or_false] at hb
      rcases hb with rfl | rfl
      · exact (lt he).symm
      · exact (lt g1).symm
    rw [D8 this]; exact (hf b hb).1
  done := by
    intro X hP hw hK hc i pins s σ H E I hf st hg
    subst hP hw hK
    obtain ⟨⟨old, he⟩, h1⟩ := st
    obtain ⟨xs, q1, hl⟩ := hg
    obtain ⟨its1, r1, p1, _⟩ := I.list q1
    have n1 := r1.length
    refine wpAny_pyNext_enum_end (I.ok.hd hc) he h1 p1.isList (by simp; omega) fun h' hk => ⟨rfl, ?_⟩
    refine I.turnL (t' := s.toks) (wr := [e, it]) (fun b o hb q => ?_) (fun b hb => hf b hb)
    simp only [List.mem_cons, List.mem_nil_iff, or_false, not_or] at hb
    exact hk b o hb.2 q
  self := fun _ _ _ _ _ st h => by obtain ⟨⟨old, he⟩, _⟩ := st; exact wpAny_pyIter_enum he h
section
variable {X : Cx}
def B4x (K : PySem.W.Frag) (ta : TA) : TI := fun σ H R => ta σ H fun vs H1 => ∃ l xs, vs = [.ref l] /\ SqL K H1 l xs /\ R (Ite K l) H1
theorem A9m {K : PySem.W.Frag} {a : Expr} {ta : TA} {p pos : Pos} {es : List Expr} {kk : Nat} {tp : Pos} (hK : X.K = K) (hg : Gl X "enumerate") (hm : X.mg "enumerate" = none) (ha : PA X [a] ta)
  (hs : starEach [a] X.env = [(false, eval a X.env)] := by rfl) : PI X (.Tuple es kk tp) (.Call (.Name "enumerate" p) [a] [] pos) (B4x K ta) := by
 subst hK
 intro pins s σ H R I h
 refine Call_ (V8 I hg hm boot_enumerate (PyProof.Rows.callWith_type1 (thn (ha pos pins s σ H _ I h) fun us s1 ⟨vs, H1, I1, r1, q1⟩ => ?_) hs rfl))
 obtain ⟨l, xs, e, g1, q⟩ := q1
 subst e
 cases r1 with
 | cons r rr =>
  cases rr
  cases r
  obtain ⟨its1, _, p1, _⟩ := I1.list g1
  refine call_enumerate_list p1.isList fun h' a1 a2 a3 hk => wpAny_pyIter_enum a1 ?_
  have I2 : Inv X pins σ H1 { s1 with heap := h' } := I1.kept (t' := s1.toks) hk
  refine ⟨_, [s1.heap.objs.size + 1, s1.heap.objs.size], _, _, H1, rfl, I2, A4x (Nat.succ_ne_self _), ⟨⟨_, a1⟩, a2⟩, fun b hb => ?_, q⟩
  have hb' : s1.heap.objs.size <= b := by
   simp only [List.mem_cons, List.mem_nil_iff, or_false] at hb
   rcases hb with rfl | rfl <;> omega
  exact I1.fpOk hb' (I1.hok.fresh hb')
theorem P3 {K : PySem.W.Frag} {a : Expr} {ta : TA} {p pos : Pos} {es : List Expr} {kk : Nat} {tp : Pos} (hK : X.K = K) (hg : Gl X "enumerate") (hm : X.mg "enumerate" = none) (ha : QA X [a] ta)
  (hs : starEach [a] X.env = [(false, eval a X.env)] := by rfl) : QI X (.Tuple es kk tp) (.Call (.Name "enumerate" p) [a] [] pos) (B4x K ta) := ⟨A9m hK hg hm ha.out hs⟩
end
end L2
namespace Pu
open PySem L2 My Prf
class RL (K : Frag) (te : TE) (pl : outParam PAr) : Prop where
 ok : ∀ (c : Ct) (w : Wd) (env : PEnv) (σ : St) (Qp : LP -> PEnv -> Prop) (Q : VK), c.K = K -> EnvOk c w env σ -> pl env Qp -> (∀ v xs env' w', EnvOk c w' env' σ -> Lw w w' -> VR c w' v (.bor xs) -> Qp xs env' -> Q v w'.H) -> te σ w.H Q
def B33 (i : Nat) (env : PEnv) (Q : LP -> PEnv -> Prop) : Prop := match env[i]? with
 | some (some (.d x)) => asL x fun xs => Q xs env
 | some (some (.own xs)) => Q xs (env.set i (some (.d (.list xs))))
 | some (some (.bor xs)) => Q xs env
 | _ => False
instance rl_var {K : Frag} {i : Nat} : RL K (tVar i) (B33 i) where
 ok := by
  rintro c w env σ Qp Q rfl E p k
  unfold B33 at p
  split at p
  ·rename_i x e
   obtain ⟨v, h1, h2⟩ := E.at' i _ e
   unfold asL at p
   split at p
   ·exact ⟨v, h1, k v _ env w E (Lw.refl w) (.inl h2) p⟩
   ·exact p.elim
  ·rename_i xs e
   obtain ⟨w', v, e', hv, E', l, d⟩ := E.frz e
   refine ⟨v, hv, ?_⟩
   rw [<- e']
   exact k v _ _ w' E' l (.inl d) p
  ·rename_i xs e
   obtain ⟨v, h1, h2⟩ := E.at' i _ e
   exact ⟨v, h1, k v _ env w E (Lw.refl w) h2 p⟩
  ·exact p.elim
inductive Brs (c : Ct) (w : Wd) : List V -> List LP -> Prop
 | nil : Brs c w [] []
 | cons {v : V} {xs : LP} {vs : List V} {xss : List LP} : VR c w v (.bor xs) -> Brs c w vs xss -> Brs c w (v :: vs) (xs :: xss)
theorem B0m {c : Ct} {w w' : Wd} {v : V} {xs : LP} (s : Same w.F w'.F) (h : VR c w v (.bor xs)) : VR c w' v (.bor xs) := by
 rcases h with h | ⟨l, vs, e, h1, h2, h3⟩
 ·exact .inl (Den.same s h)
 ·exact .inr ⟨l, vs, e, h1, h2, DenAll.same s h3⟩
class RLs (K : Frag) (ta : TA) (pa : outParam (PEnv -> (List LP -> PEnv -> Prop) -> Prop)) : Prop where
 ok : ∀ (c : Ct) (w : Wd) (env : PEnv) (σ : St) (Qp : List LP -> PEnv -> Prop) (Q : List V -> Hpp -> Prop), c.K = K -> EnvOk c w env σ -> pa env Qp -> (∀ vs xss env' w', EnvOk c w' env' σ -> Lw w w' -> Brs c w' vs xss -> Qp xss env' -> Q vs w'.H) -> ta σ w.H Q
def pLsN (env : PEnv) (Q : List LP -> PEnv -> Prop) : Prop := Q [] env
def pLsC (pl : PAr) (pr : PEnv -> (List LP -> PEnv -> Prop) -> Prop) (env : PEnv) (Q : List LP -> PEnv -> Prop) : Prop := pl env fun xs e1 => pr e1 fun xss e2 => Q (xs :: xss) e2
instance rls_nil {K : Frag} : RLs K tNil pLsN := ⟨fun c w env σ Qp Q _ E p k => k [] [] env w E (Lw.refl w) .nil p⟩
instance rls_cons {K : Frag} {te : TE} {tr : TA} {pl : PAr} {pr : PEnv -> (List LP -> PEnv -> Prop) -> Prop} [hl : RL K te pl] [hr : RLs K tr pr] : RLs K (K6 te tr) (pLsC pl pr) where
 ok := by
  rintro c w env σ Qp Q rfl E p k
  refine hl.ok c w env σ _ _ rfl E p fun v xs e1 w1 E1 l1 b1 q1 => ?_
  refine hr.ok c w1 e1 σ _ _ rfl E1 q1 fun vs xss e2 w2 E2 l2 b2 q2 => ?_
  exact k _ _ e2 w2 E2 (l1.trans l2) (.cons (B0m l2.f b1) b2) q2
theorem A3t {c : Ct} {w : Wd} {v : V} {xs : LP} (h : VR c w v (.bor xs)) : ∃ l vs, v = .ref l /\ DenAll c.K w.F vs xs /\ ∀ w', w'.Ok -> Le c.w0 w' -> Same w.F w'.F -> SqL c.K w'.H l vs := by
 rcases h with h | ⟨l, vs, e, h1, h2, h3⟩
 ·obtain ⟨a, vs, e, g1, g2⟩ := Den.lstE h
  exact ⟨a, vs, e, g2, fun w' ok _ s => (s.trans ok.sub).seq g1⟩
 ·exact ⟨l, vs, e, h3, fun w' _ l' _ => SqL.of (l'.h _ _ h1 h2)⟩
def zipD (xs ys : LP) : LP := List.zipWith (fun x y => .tuple [x, y]) xs ys
def Y9 (xs : LP) : LP := xs.zipIdx.map fun p => .tuple [.int (p.2 : Int), p.1]
theorem A8e {xs : LP} {i : Nat} {x : PyData} (h : (Y9 xs)[i]? = some x) : ∃ a, xs[i]? = some a /\ x = .tuple [.int (i : Int), a] := by
 unfold Y9 at h
 rw [List.getElem?_map, List.getElem?_zipIdx] at h
 cases h1 : xs[i]? with
 | none => rw [h1] at h; cases h
 | some a => rw [h1] at h; cases h; exact ⟨a, rfl, by simp⟩
theorem A0z {xs : LP} : (Y9 xs).length = xs.length := by unfold Y9; rw [List.length_map, List.length_zipIdx]
def pZip (pa : PEnv -> (List LP -> PEnv -> Prop) -> Prop) (env : PEnv) (Q : LP -> PEnv -> Prop) : Prop := pa env fun xss e => match xss with
 | [xs, ys] => Q (zipD xs ys) e
 | _ => False
def B6u (pa : PEnv -> (List LP -> PEnv -> Prop) -> Prop) (env : PEnv) (Q : LP -> PEnv -> Prop) : Prop := pa env fun xss e => match xss with
 | [xs] => Q (Y9 xs) e
 | _ => False
instance ri_enum {K : Frag} {ta : TA} {pa : PEnv -> (List LP -> PEnv -> Prop) -> Prop} [ha : RLs K ta pa] : RI K (B4x K ta) (B6u pa) where
 ok := by
  rintro c w env σ Qp R rfl E p k
  refine ha.ok c w env σ _ _ rfl E p fun vs xss e1 w1 E1 l1 b1 q1 => ?_
  split at q1
  ·rename_i xs
   cases b1 with | cons h t =>
    cases t
    obtain ⟨a1, us1, rfl, d1, s1⟩ := A3t h
    refine ⟨a1, us1, rfl, s1 w1 E1.wok E1.le0 (Same.refl _), k _ _ e1 w1 E1 l1 ?_ q1⟩
    intro w' ok l s
    have g1 := s1 w' ok l s
    have n1 := d1.len
    rw [A0z]
    refine ⟨fun i hi => ⟨us1, us1[i]'(by omega), g1, List.getElem?_eq_getElem _⟩, ⟨us1, g1, by omega⟩, fun i v H' y hi => ?_⟩
    obtain ⟨T, x, rfl, hT, rfl, y1⟩ := y
    obtain ⟨dx, x1, x2⟩ := d1.get (y1 us1 g1)
    refine ⟨w'.tup T (.tup [.int i, x]), .tuple [.int i, dx], rfl, Wd.tup_ok ok hT, Wd.tup_le ok hT, ?_, ?_⟩
    ·unfold Y9; rw [List.getElem?_map, List.getElem?_zipIdx, x1]; simp
    ·have f := (Wd.tup_le (o := .tup [.int i, x]) ok hT).f
     exact .tup (SqT.of D6) (.cons (.int _) (.cons (Den.same (s.trans f) x2) .nil))
  ·exact q1.elim
end Pu
namespace Pu
open PySem L2 My Prf
theorem A2v {n : Nat} {pr : LP -> PEnv -> (PEnv -> Prop) -> Prop} {xs : LP} {env : PEnv} {Q : PEnv -> Prop} : qTup n pr (.tuple xs) env Q = (xs.length = n /\ pr xs env Q) := rfl
theorem A2w {pr : LP -> PEnv -> (PEnv -> Prop) -> Prop} {c : Rat × Rat} {env : PEnv} {Q : PEnv -> Prop} : qTup 2 pr (dcn c) env Q = pr [dq c.1, dq c.2] env Q := by
 show (2 = 2 /\ _) = _; simp
theorem B79 {a b : Rat} : PyData.tuple [dq a, dq b] = dcn (a, b) := rfl
theorem B47 {α : Type} {f : α -> PyData} {xs : List α} (lo hi : Option Int) : ∃ ys : List α, cutD (xs.map f) lo hi = ys.map f /\ (∀ y ∈ ys, y ∈ xs) /\ ys.length <= xs.length := by
 refine ⟨(xs.drop (HT.sIx (xs.map f).length 0 lo)).take (HT.sIx (xs.map f).length (xs.map f).length hi - HT.sIx (xs.map f).length 0 lo), ?_, fun y hy => List.mem_of_mem_drop (List.mem_of_mem_take hy), ?_⟩
 ·unfold cutD; rw [List.map_take, List.map_drop]
 ·rw [List.length_take, List.length_drop]; omega
end Pu
namespace L2
open PySem PySem.Spec PyProof.Rows
section
variable {prog : Program} {w : World} {A : Around} {E : Value -> Shared -> Prop} {s : Shared}
end
end L2
namespace L2
open PySem PySem.Spec PyProof.Rows
section
variable {prog : Program} {w : World} {A : Around} {E : Value -> Shared -> Prop} {s : Shared}
end
section
variable {X : Cx}
end
end L2
namespace Pu
open PySem L2 My Prf
end Pu
namespace Pu
open PySem L2 My Prf
def okA : Nat -> PyData -> Prop
 | _, .none => True
 | _, .bool _ => True
 | _, .int _ => True
 | _, .str s => (PyData.str s).canLay0 = true
 | _, .dict _ => False
 | 0, .list _ => False
 | 0, .tuple _ => False
 | n + 1, .list xs => xs.length < 1000 /\ ∀ x ∈ xs, okA n x
 | n + 1, .tuple xs => xs.length < 1000 /\ ∀ x ∈ xs, okA n x
theorem B0g {P : Program} {w : World} {K : Frag} {mg : Str -> Option Value} {base : Heap} {k : Nat} {f : Addr} {fd : FuncData} {ps : List Str} {md : List Md} (h : md.length = ps.length) : FnOk P w K mg base CX0 k f fd ps (spOf K md fun _ _ => False) :=
 ⟨spOf.len h, fun _ _ _ _ _ _ _ _ _ _ _ _ _ hs => by obtain ⟨_, _, _, _, _, _, z, _⟩ := hs; exact z.elim⟩
theorem A8b {s : Str} : PyData.eqv (.str s) (.str s) = true := by show (s == s) = true; simp
theorem A64 (q : Rat) (n : Nat) : okA (n + 1) (dq q) := by
 show _ < 1000 /\ _
 refine ⟨by simp, fun x hx => ?_⟩
 simp at hx
 rcases hx with rfl | rfl <;> (unfold okA; trivial)
theorem B4g (c : Rat × Rat) (n : Nat) : okA (n + 2) (dcn c) := by
 show _ < 1000 /\ _
 refine ⟨by simp, fun x hx => ?_⟩
 simp at hx
 rcases hx with rfl | rfl <;> exact A64 _ _
theorem B66 {cs : LR} (h : cs.length < 1000) (n : Nat) : okA (n + 3) (.list (cs.map dcn)) := by
 show _ < 1000 /\ _
 refine ⟨by simpa using h, fun x hx => ?_⟩
 obtain ⟨c, _, rfl⟩ := List.mem_map.mp hx
 exact B4g c n
end Pu
namespace Pu
open PySem L2 My Prf
def B8 : LP -> OT
 | [] => .nil
 | x :: r => .cons (.leaf x) (B8 r)
def OT.len : OT -> Nat
 | .cons _ t => t.len + 1
 | .nil => 0
 | _ => 1
def OT.kid : OT -> Nat -> Option OT
 | .cons h _, 0 => some h
 | .cons _ t, n + 1 => t.kid n
 | _, _ => none
theorem L1 : ∀ xs, (B8 xs).fp = []
 | [] => rfl
 | _ :: r => by show [] ++ (B8 r).fp = []; rw [L1 r]; rfl
theorem I0 : ∀ xs, (B8 xs).dat = xs
 | [] => rfl
 | x :: r => by show [x] ++ (B8 r).dat = x :: r; rw [I0 r]; rfl
theorem M0 {K : Frag} {w : Wd} : ∀ {vs : List V} {xs : LP}, DenAll K w.F vs xs -> Tre K w (B8 xs) vs
 | _, _, .nil => rfl
 | _, _, .cons h t => ⟨_, _, rfl, ⟨_, rfl, h⟩, M0 t⟩
theorem J2 {K : Frag} {w : Wd} : ∀ {xs : LP} {vs : List V}, Tre K w (B8 xs) vs -> DenAll K w.F vs xs
 | [], _, e => by cases (show _ = [] from e); exact .nil
 | _ :: _, _, ⟨_, _, rfl, ⟨_, e, h⟩, t⟩ => by cases e; exact .cons h (J2 t)
theorem Tre.len {K : Frag} {w : Wd} : ∀ {t : OT} {vs : List V}, Tre K w t vs -> vs.length = t.len
 | .leaf _, _, ⟨_, e, _⟩ => by rw [e]; rfl
 | .nd _ _ _, _, ⟨e, _⟩ => by rw [e]; rfl
 | .nil, _, e => by rw [show _ = [] from e]; rfl
 | .cons _ _, _, ⟨_, _, e, _, t⟩ => by rw [e]; show _ + 1 = _ + 1; rw [t.len]
theorem Tre.kid {K : Frag} {w : Wd} : ∀ {t : OT} {vs : List V} {n : Nat} {u : OT}, Tre K w t vs -> t.kid n = some u -> ∃ v, vs[n]? = some v /\ Tre K w u [v]
 | .cons _ _, _, 0, _, ⟨v, _, e, h, _⟩, q => by cases q; rw [e]; exact ⟨v, rfl, h⟩
 | .cons _ _, _, n + 1, _, ⟨_, _, e, _, t⟩, q => by rw [e]; exact t.kid (n := n) q
theorem V9 : ∀ {t : OT} {n : Nat} {u : OT} {a : Addr}, t.kid n = some u -> a ∈ u.fp -> a ∈ t.fp
 | .cons _ _, 0, _, _, q, h => by cases q; simp [OT.fp, h]
 | .cons _ _, n + 1, _, _, q, h => by simp [OT.fp, V9 (n := n) q h]
noncomputable def hm (w : Wd) : Hpp := fun a => open Classical in if w.M a then none else w.H a
theorem U0 {w : Wd} {a : Addr} {o : HO} (h : w.H a = some o) (n : ¬ w.M a) : hm w a = some o := by unfold hm; rw [if_neg n]; exact h
theorem A77 {w : Wd} {a : Addr} {o : HO} (h : hm w a = some o) : w.H a = some o /\ ¬ w.M a := by
 unfold hm at h; split at h
 ·cases h
 ·exact ⟨h, ‹_›⟩
theorem hm_F {w : Wd} (ok : w.Ok) : Same w.F (hm w) := fun a o h => U0 (ok.sub a o h) fun z => by rw [ok.nf a z] at h; cases h
theorem B4z {w w' : Wd} (l : Lw w w') : Same (hm w) (hm w') := fun a o h => by
 obtain ⟨h1, h2⟩ := A77 h
 exact U0 (l.h _ _ h1 h2) (l.nm (by rw [h1]; simp) h2)
theorem Tre.den {K : Frag} {w : Wd} (ok : w.Ok) : ∀ {t : OT} {vs : List V}, Tre K w t vs -> (∀ a ∈ t.fp, ¬ w.M a) -> DenAll K (hm w) vs t.dat
 | .leaf _, _, ⟨_, e, h⟩, _ => by rw [e]; exact .cons (Den.same (hm_F ok) h) .nil
 | .nd true a _, _, ⟨e, _, h, k⟩, n => by rw [e]; exact .cons (.lst (SqL.of (U0 h (n a (by simp [OT.fp])))) (Tre.den ok k fun q hq => n q (by simp [OT.fp, hq]))) .nil
 | .nd false a _, _, ⟨e, _, h, k⟩, n => by rw [e]; exact .cons (.tup (SqT.of (U0 h (n a (by simp [OT.fp])))) (Tre.den ok k fun q hq => n q (by simp [OT.fp, hq]))) .nil
 | .nil, _, e, _ => by rw [show _ = [] from e]; exact .nil
 | .cons _ _, _, ⟨v, r, e, h, t⟩, n => by
  rw [e]
  exact (Tre.den ok h fun q hq => n q (by simp [OT.fp, hq])).app (vs := [v]) (us := r) (Tre.den ok t fun q hq => n q (by simp [OT.fp, hq]))
def VH (K : Frag) (w : Wd) (v : V) (x : PyData) : Prop := Den K (hm w) v x
theorem VR.vh {c : Ct} {w : Wd} {v : V} {t : OT} {x : PyData} (ok : w.Ok) (h : VR c w v (.tr t)) (e : t.dat = [x]) : VH c.K w v x := by
 have := h.1.den ok fun a ha => (h.2.1 a ha).2.2.1
 rw [e] at this
 cases this with | cons a _ => exact a
theorem VV.vh {K : Frag} {w : Wd} {v : V} {x : PyData} (ok : w.Ok) (h : VV K w v x) : VH K w v x := by
 rcases h with h | ⟨l, vs, xs, rfl, rfl, h1, h2, h3⟩
 ·exact Den.same (hm_F ok) h
 ·exact .lst (SqL.of (U0 h1 h2)) (DenAll.same (hm_F ok) h3)
class RH (K : Frag) (te : TE) (pd : outParam PDt) : Prop where
 ok : ∀ (c : Ct) (w : Wd) (env : PEnv) (σ : St) (Qp : PyData -> PEnv -> Prop) (Q : VK), c.K = K -> EnvOk c w env σ -> pd env Qp -> (∀ v x env' w', EnvOk c w' env' σ -> Lw w w' -> VH K w' v x -> Qp x env' -> Q v w'.H) -> te σ w.H Q
def B3t (i : Nat) (env : PEnv) (Q : PyData -> PEnv -> Prop) : Prop := match env[i]? with
 | some (some (.d x)) => Q x env
 | some (some (.own xs)) => Q (.list xs) env
 | some (some (.bor xs)) => Q (.list xs) env
 | some (some (.tr t)) => ∃ x, t.dat = [x] /\ Q x env
 | _ => False
instance rh_var {K : Frag} {i : Nat} : RH K (tVar i) (B3t i) where
 ok := by
  rintro c w env σ Qp Q rfl E p k
  unfold B3t at p
  split at p
  ·rename_i x e
   obtain ⟨v, h1, h2⟩ := E.at' i _ e
   exact ⟨v, h1, k v _ env w E (Lw.refl w) (Den.same (hm_F E.wok) h2) p⟩
  ·rename_i xs e
   obtain ⟨v, h1, l, vs, e', g1, g2, g3, g4, g5⟩ := E.at' i _ e
   exact ⟨v, h1, k v _ env w E (Lw.refl w) (VV.vh E.wok (.inr ⟨l, vs, xs, e', rfl, g1, g3, g5⟩)) p⟩
  ·rename_i xs e
   obtain ⟨v, h1, h2⟩ := E.at' i _ e
   exact ⟨v, h1, k v _ env w E (Lw.refl w) ((h2.vv E.le0).vh E.wok) p⟩
  ·rename_i t e
   obtain ⟨x, e1, q⟩ := p
   obtain ⟨v, h1, h2⟩ := E.at' i _ e
   exact ⟨v, h1, k v _ env w E (Lw.refl w) (h2.vh E.wok e1) q⟩
  ·exact p.elim
def Own (c : Ct) (w : Wd) (t : OT) : Prop := (∀ a ∈ t.fp, w.H a ≠ none /\ w.F a = none /\ ¬ w.M a /\ c.w0.H a = none) /\ t.fp.Nodup
def NewT (c : Ct) (env : PEnv) (σ : St) (t : OT) : Prop := ∀ a ∈ t.fp, (∀ (j : Nat) s u, env[j]? = some (some s) -> σ[j]? = some (some u) -> ¬ s.foot u a) /\ ¬ c.Z a
def SV.ot (s : SV) (k : OT -> Prop) : Prop := match s with
 | .d x => k (.leaf x)
 | .own xs => ∀ a, k (.nd true a (B8 xs))
 | .tr t => k t
 | _ => False
theorem Res.ot {c : Ct} {w w1 : Wd} {env : PEnv} {σ : St} {v : V} {s : SV} {k : OT -> Prop} (R : Res c w env σ w1 v s) (h : s.ot k) : ∃ t, Tre c.K w1 t [v] /\ Own c w1 t /\ NewT c env σ t /\ k t := by
 obtain ⟨E, lw, val, new, _⟩ := R
 cases s with
 | d x => exact ⟨.leaf x, ⟨v, rfl, val⟩, ⟨fun a z => (nomatch z), List.nodup_nil⟩, fun a z => (nomatch z), h⟩
 | own xs =>
  obtain ⟨l, vs, rfl, h1, h2, h3, h4, h5⟩ := val
  have one : ∀ a, a ∈ (OT.nd true l (B8 xs)).fp -> a = l := fun a ha => by
   rw [show (OT.nd true l (B8 xs)).fp = l :: (B8 xs).fp from rfl, L1] at ha
   simpa using ha
  refine ⟨.nd true l (B8 xs), ⟨rfl, vs, h1, M0 h5⟩, ⟨fun a ha => ?_, by show (l :: (B8 xs).fp).Nodup; rw [L1]; simp⟩, fun a ha => ?_, h l⟩
  ·rw [one a ha]; exact ⟨by rw [h1]; simp, h2, h3, h4⟩
  ·rw [one a ha]; exact new l rfl
 | bor xs => exact (show False from h).elim
 | st => exact (show False from h).elim
 | tr t => exact ⟨t, val.1, val.2, new, h⟩
 | bt t => exact (show False from h).elim
 | al t => exact (show False from h).elim
theorem VR.reZ {K : Frag} {w0 w : Wd} {Z Z' : Addr -> Prop} {v : V} : ∀ {s : SV}, VR ⟨K, w0, Z⟩ w v s -> VR ⟨K, w0, Z'⟩ w v s
 | .d _, h => h
 | .own _, h => h
 | .bor _, h => h
 | .st, h => h
 | .tr _, h => h
 | .bt _, h => h
 | .al _, h => h
def Ct.with (c : Ct) (t : OT) : Ct := ⟨c.K, c.w0, fun a => c.Z a \/ a ∈ t.fp⟩
theorem EnvOk.hold {c : Ct} {w : Wd} {env : PEnv} {σ : St} {t : OT} (E : EnvOk c w env σ) (o : Own c w t) (n : NewT c env σ t) : EnvOk (c.with t) w env σ :=
 ⟨E.wok, E.le0, E.len, fun i s q => let ⟨v, h1, h2⟩ := E.at' i s q; ⟨v, h1, h2.reZ⟩, E.own, fun a z => z.elim (E.zf a) fun ha => let ⟨h1, h2, h3, _⟩ := o.1 a ha; ⟨h2, h1, h3⟩, fun a j s u z q q' => z.elim (fun z => E.zo a j s u z q q') fun ha => (n a ha).1 j s u q q'⟩
theorem EnvOk.letgo {c : Ct} {w : Wd} {env : PEnv} {σ : St} {t : OT} (E : EnvOk (c.with t) w env σ) : EnvOk c w env σ :=
 ⟨E.wok, E.le0, E.len, fun i s q => let ⟨v, h1, h2⟩ := E.at' i s q; ⟨v, h1, h2.reZ⟩, E.own, fun a z => E.zf a (.inl z), fun a j s u z q q' => E.zo a j s u (.inl z) q q'⟩
class RAt (K : Frag) (ta : TA) (pa : outParam (PEnv -> (OT -> PEnv -> Prop) -> Prop)) : Prop where
 ok : ∀ (c : Ct) (w : Wd) (env : PEnv) (σ : St) (Qp : OT -> PEnv -> Prop) (Q : List V -> Hpp -> Prop), c.K = K -> EnvOk c w env σ -> pa env Qp -> (∀ vs t env' w', EnvOk c w' env' σ -> Lw w w' -> Tre K w' t vs -> Own c w' t -> NewT c env' σ t -> Qp t env' -> Q vs w'.H) -> ta σ w.H Q
def B3z (env : PEnv) (Q : OT -> PEnv -> Prop) : Prop := Q .nil env
def A6l (pe : PX) (pr : PEnv -> (OT -> PEnv -> Prop) -> Prop) (env : PEnv) (Q : OT -> PEnv -> Prop) : Prop := pe env fun s e1 => s.ot fun t => pr e1 fun r e2 => (∀ a ∈ r.fp, a ∉ t.fp) -> Q (.cons t r) e2
instance rat_nil {K : Frag} : RAt K tNil B3z := ⟨fun c w env σ Qp Q _ E p k => k [] .nil env w E (Lw.refl w) rfl ⟨fun a z => (nomatch z), List.nodup_nil⟩ (fun a z => nomatch z) p⟩
instance rat_cons {K : Frag} {ta : TE} {tr : TA} {pe : PX} {pr : PEnv -> (OT -> PEnv -> Prop) -> Prop} [ha : RE K ta pe] [hr : RAt K tr pr] : RAt K (K6 ta tr) (A6l pe pr) where
 ok := by
  rintro c w env σ Qp Q rfl E p k
  refine ha.ok c w env σ _ _ rfl E p fun v s e1 w1 R q1 => ?_
  obtain ⟨t, ht, ho, hn, q⟩ := R.ot q1
  refine hr.ok (c.with t) w1 e1 σ _ _ rfl (R.ev.hold ho hn) q fun vs r e2 w2 E2 l2 hr' ho' hn' q2 => ?_
  refine k (v :: vs) (.cons t r) e2 w2 E2.letgo (R.lw.trans l2) ⟨v, vs, rfl, ht.mono l2 fun a ha => (ho.1 a ha).2.2.1, hr'⟩ ⟨fun a ha => ?_, List.nodup_append.mpr ⟨ho.2, ho'.2, fun a ha b hb e => (hn' b hb).2 (.inr (e ▸ ha))⟩⟩ (fun a ha => ?_) (q2 fun a ha z => (hn' a ha).2 (.inr z))
  ·rcases List.mem_append.mp (show a ∈ t.fp ++ r.fp from ha) with z | z
   ·obtain ⟨z1, z2, z3⟩ := E2.zf a (.inr z)
    exact ⟨z2, z1, z3, (ho.1 a z).2.2.2⟩
   ·exact ho'.1 a z
  ·rcases List.mem_append.mp (show a ∈ t.fp ++ r.fp from ha) with z | z
   ·exact ⟨fun j s u q q' => E2.zo a j s u (.inr z) q q', (hn a z).2⟩
   ·exact ⟨(hn' a z).1, fun y => (hn' a z).2 (.inl y)⟩
theorem Res.laid {c : Ct} {w : Wd} {env : PEnv} {σ : St} {p : Addr} {vs : List V} {t : OT} {b : Bool} (E : EnvOk c w env σ) (h : w.H p = none) (ht : Tre c.K w t vs) (o : Own c w t) (n : NewT c env σ t) : Res c w env σ (w.lay p (ho b vs)) (.ref p) (.tr (.nd b p t)) := by
 have le := Wd.lay_le (o := ho b vs) h
 refine ⟨E.mono (Wd.lay_ok E.wok h) le, le.toLw, ⟨⟨rfl, vs, D6, ht.mono le.toLw fun a ha => (o.1 a ha).2.2.1⟩, fun a ha => ?_, List.nodup_cons.mpr ⟨fun z => (o.1 p z).1 h, o.2⟩⟩, fun a f => ?_, rfl⟩
 ·rcases List.mem_cons.mp (show a ∈ p :: t.fp from ha) with rfl | z
  ·exact ⟨by show upd w.H a _ a ≠ none; rw [D6]; simp, E.wok.fnone h, fun z => E.wok.mne h z rfl, E.le0.dom a h⟩
  ·obtain ⟨h1, h2, h3, h4⟩ := o.1 a z
   exact ⟨fun y => h1 (L8 y), h2, h3, h4⟩
 ·rcases List.mem_cons.mp (show a ∈ p :: t.fp from f) with rfl | z
  ·exact E.fresh h
  ·exact n a z
def B5q (ta : TA) : TE := tLst ta
def B5p (ta : TA) : TE := tTup ta
def A9r (b : Bool) (pa : PEnv -> (OT -> PEnv -> Prop) -> Prop) (env : PEnv) (Q : SV -> PEnv -> Prop) : Prop := pa env fun t e => t.len <= 1000 /\ ∀ a, a ∉ t.fp -> Q (.tr (.nd b a t)) e
instance re_lstT {K : Frag} {ta : TA} {pa : PEnv -> (OT -> PEnv -> Prop) -> Prop} [ha : RAt K ta pa] : RE K (B5q ta) (A9r true pa) where
 ok := by
  rintro c w env σ Qp Q rfl E p k
  refine ha.ok c w env σ _ _ rfl E p fun vs t e1 w1 E1 l1 ht ho hn q1 => ⟨?_, fun p hp => ?_⟩
  ·rw [ht.len]; exact Nat.le_of_lt (O7 q1.1)
  ·exact k _ _ e1 _ ((Res.laid (b := true) E1 hp ht ho hn).pre l1) (q1.2 p fun z => (ho.1 p z).1 hp)
instance re_tupT {K : Frag} {ta : TA} {pa : PEnv -> (OT -> PEnv -> Prop) -> Prop} [ha : RAt K ta pa] : RE K (B5p ta) (A9r false pa) where
 ok := by
  rintro c w env σ Qp Q rfl E p k
  refine ha.ok c w env σ _ _ rfl E p fun vs t e1 w1 E1 l1 ht ho hn q1 => ⟨?_, fun p hp => ?_⟩
  ·rw [ht.len]; exact Nat.le_of_lt (O7 q1.1)
  ·exact k _ _ e1 _ ((Res.laid (b := false) E1 hp ht ho hn).pre l1) (q1.2 p fun z => (ho.1 p z).1 hp)
def asTr (o : Option (Option SV)) (k : OT -> Prop) : Prop := match o with
 | some (some (.tr t)) => k t
 | _ => False
theorem A71 {α : Type _} {xs : List α} {n : Nat} {v : α} (h : xs[n]? = some v) : L2.atI xs (n : Int) = some v := by
 have hn : n < xs.length := (List.getElem?_eq_some_iff.mp h).1
 unfold L2.atI
 rw [show ixN xs.length (n : Int) = some n by unfold ixN; simp [hn]]
 exact h
end Pu
namespace L2
open PySem PySem.Spec PyProof.Rows
section
variable {X : Cx} {e : Expr}
theorem B8w {t : TA} (h : QE X e (tLst t)) : QE X e (Pu.B5q t) := h
theorem B8v {t : TA} (h : QE X e (tTup t)) : QE X e (Pu.B5p t) := h
end
end L2
namespace Pu
open PySem L2 My Prf
def SV.asH (s : SV) (k : PyData -> Prop) : Prop := match s with
 | .d x => k x
 | .own xs => k (.list xs)
 | .tr t => ∃ x, t.dat = [x] /\ k x
 | _ => False
def B3q (pe : PX) (env : PEnv) (Q : PyData -> PEnv -> Prop) : Prop := pe env fun s e => s.asH fun x => Q x e
instance (priority := 200) rh_re {K : Frag} {te : TE} {pe : PX} [h : RE K te pe] : RH K te (B3q pe) where
 ok := by
  rintro c w env σ Qp Q rfl E p k
  refine h.ok c w env σ _ Q rfl E p fun v s env' w' R q => ?_
  have E' := R.ev
  cases s with
  | d x => exact k v x env' w' E' R.lw (Den.same (hm_F E'.wok) R.val) q
  | own xs =>
   obtain ⟨l, vs, e', g1, g2, g3, g4, g5⟩ := R.val
   exact k v _ env' w' E' R.lw (VV.vh E'.wok (.inr ⟨l, vs, xs, e', rfl, g1, g3, g5⟩)) q
  | tr t =>
   obtain ⟨x, e, q⟩ := q
   exact k v x env' w' E' R.lw (VR.vh E'.wok R.val e) q
  | bor xs => exact (show False from q).elim
  | bt t => exact (show False from q).elim
  | al t => exact (show False from q).elim
  | st => exact (show False from q).elim
theorem VR.btv {c : Ct} {w : Wd} {v : V} {t : OT} (l : Le c.w0 w) (h : VR c w v (.bt t)) : TV c.K w v t := by
 have lw : Lw ⟨c.w0.M, c.w0.H, w.F⟩ w := ⟨Same.refl _, l.h, l.m, l.mn, l.dom⟩
 exact ⟨h.1.mono lw h.2, fun a ha => l.nm (h.1.has a ha) (h.2 a ha)⟩
class RTr (K : Frag) (te : TE) (pb : outParam (PEnv -> (OT -> PEnv -> Prop) -> Prop)) : Prop where
 ok : ∀ (c : Ct) (w : Wd) (env : PEnv) (σ : St) (Qp : OT -> PEnv -> Prop) (Q : VK), c.K = K -> EnvOk c w env σ -> pb env Qp -> (∀ v t env' w', EnvOk c w' env' σ -> Lw w w' -> TV K w' v t -> Qp t env' -> Q v w'.H) -> te σ w.H Q
def pTrV (i : Nat) (env : PEnv) (Q : OT -> PEnv -> Prop) : Prop := match env[i]? with
 | some (some (.d x)) => Q (.leaf x) env
 | some (some (.tr t)) => Q t env
 | some (some (.bt t)) => Q t env
 | _ => False
instance rtr_var {K : Frag} {i : Nat} : RTr K (tVar i) (pTrV i) where
 ok := by
  rintro c w env σ Qp Q rfl E p k
  unfold pTrV at p
  split at p
  ·rename_i x e
   obtain ⟨v, h1, h2⟩ := E.at' i _ e
   exact ⟨v, h1, k v (.leaf x) env w E (Lw.refl w) ⟨⟨v, rfl, h2⟩, fun a z => nomatch z⟩ p⟩
  ·rename_i t e
   obtain ⟨v, h1, h2⟩ := E.at' i _ e
   exact ⟨v, h1, k v _ env w E (Lw.refl w) ⟨h2.1, fun a ha => (h2.2.1 a ha).2.2.1⟩ p⟩
  ·rename_i t e
   obtain ⟨v, h1, h2⟩ := E.at' i _ e
   exact ⟨v, h1, k v _ env w E (Lw.refl w) (h2.btv E.le0) p⟩
  ·exact p.elim
def A6n (pb : PEnv -> (OT -> PEnv -> Prop) -> Prop) (pr : PAs) (env : PEnv) (Q : List SV -> PEnv -> Prop) : Prop := pb env fun t e1 => pr e1 fun as e2 => Q (.bt t :: as) e2
instance ram_bt {K : Frag} {md : List Md} {ta : TE} {tr : TA} {pb : PEnv -> (OT -> PEnv -> Prop) -> Prop} {pr : PAs} [ha : RTr K ta pb] [hr : RAm K md tr pr] : RAm K (.bt :: md) (K6 ta tr) (A6n pb pr) where
 ok := by
  rintro c w env σ Qp Q rfl E p k
  refine ha.ok c w env σ _ _ rfl E p fun x t e1 w1 E1 l1 v1 q1 => ?_
  refine hr.ok c w1 e1 σ _ _ rfl E1 q1 fun vs xs e2 w2 E2 l2 v2 q2 => ?_
  exact k _ _ e2 w2 E2 (l1.trans l2) (.bt (v1.mono l2 v1.1.has) v2) q2
def OT.lvs : OT -> Option LP
 | .nil => some []
 | .cons (.leaf x) t => t.lvs.map (x :: ·)
 | _ => none
theorem N8 : ∀ xs, (B8 xs).lvs = some xs
 | [] => rfl
 | x :: r => by show (B8 r).lvs.map _ = _; rw [N8 r]; rfl
theorem M2 : ∀ {t : OT} {xs : LP}, t.lvs = some xs -> t = B8 xs
 | .nil, _, h => by cases h; rfl
 | .cons (.leaf x) t, xs, h => by
  have h' : t.lvs.map (x :: ·) = some xs := h
  cases q : t.lvs with
  | none => rw [q] at h'; cases h'
  | some ys => rw [q] at h'; cases h'; rw [M2 q]; rfl
def OT.sv : OT -> SV
 | .leaf (.list xs) => .bor xs
 | .leaf x => .d x
 | .nd true a k => match k.lvs with
  | some xs => .bor xs
  | none => .bt (.nd true a k)
 | t => .bt t
theorem S8 {a : Addr} {xs : LP} : OT.sv (.nd true a (B8 xs)) = .bor xs := by show (match (B8 xs).lvs with | some xs => SV.bor xs | none => _) = _; rw [N8]
theorem VR.sv {c : Ct} {w : Wd} {v : V} {u : OT} (h : VR c w v (.bt u)) : VR c w v u.sv := by
 unfold OT.sv
 split
 ·obtain ⟨⟨v', e, h⟩, _⟩ := h
  cases e; exact .inl h
 ·obtain ⟨⟨v', e, h⟩, _⟩ := h
  cases e; exact h
 ·rename_i a k
  split
  ·rename_i xs q
   obtain ⟨⟨e, us, h1, h2⟩, h3⟩ := h
   cases e
   rw [M2 q] at h2
   exact .inr ⟨a, us, rfl, h1, h3 a (by simp [OT.fp]), J2 (w := ⟨c.w0.M, c.w0.H, w.F⟩) h2⟩
  ·exact h
 ·exact h
theorem B00 {c : Ct} {env : PEnv} {σ : St} {v : V} : ∀ {u : OT}, New c env σ v u.sv := by
 intro u a f
 unfold OT.sv at f
 split at f
 ·exact f.elim
 ·exact f.elim
 ·split at f
  ·exact f.elim
  ·exact f.elim
 ·exact f.elim
def OT.pair : OT -> Option (OT × OT)
 | .nd false _ (.cons u (.cons v .nil)) => some (u, v)
 | .leaf (.tuple [x, y]) => some (.leaf x, .leaf y)
 | _ => none
def pUnp (i a b : Nat) (pr : LP -> PEnv -> (PEnv -> Prop) -> Prop) (D : PEnds) (env : PEnv) : Prop := match env[i]? with
 | some (some (.bt t)) => ∃ u v, t.pair = some (u, v) /\ D.nx ((env.set a (some u.sv)).set b (some v.sv))
 | some (some (.d x)) => qTup 2 pr x env D.nx
 | _ => False
theorem B5o {c : Ct} {w : Wd} {v : V} {t u1 u2 : OT} (ok : w.Ok) (l : Le c.w0 w) (h : VR c w v (.bt t)) (e : t.pair = some (u1, u2)) : ∃ p x y, v = .ref p /\ SqT c.K w.H p [x, y] /\ VR c w x (.bt u1) /\ VR c w y (.bt u2) := by
 unfold OT.pair at e
 split at e
 ·rename_i a k1 k2
  cases e
  obtain ⟨⟨ev, us, h1, x, r, e1, hx, y, r2, e2, hy, e3⟩, h3⟩ := h
  cases ev
  have e3' : r2 = [] := e3
  subst e1; subst e2; subst e3'
  exact ⟨a, x, y, rfl, SqT.of (l.h _ _ h1 (h3 a (by simp [OT.fp]))), ⟨hx, fun q hq => h3 q (by simp [OT.fp, hq])⟩, ⟨hy, fun q hq => h3 q (by simp [OT.fp, hq])⟩⟩
 ·cases e
  obtain ⟨⟨v', ev, h⟩, _⟩ := h
  cases ev
  obtain ⟨p, vs, rfl, h1, h2⟩ := Den.tupE h
  cases h2 with
  | cons hx t => cases t with
   | cons hy t =>
    cases t
    exact ⟨p, _, _, rfl, SqT.same ok.sub h1, ⟨⟨_, rfl, hx⟩, fun q hq => nomatch hq⟩, ⟨⟨_, rfl, hy⟩, fun q hq => nomatch hq⟩⟩
 ·cases e
instance (priority := high) rs_unp {K : Frag} {i a b : Nat} {pr : LP -> PEnv -> (PEnv -> Prop) -> Prop} [hr : RGs K (A16 (R5 a) (A16 (R5 b) gNil)) pr] : RS K (tAsg (tVar i) (gTup K 2 (A16 (R5 a) (A16 (R5 b) gNil)))) (pUnp i a b pr) where
 ok := by
  rintro c w env σ Dp D rfl E h p
  unfold pUnp at p
  split at p
  ·rename_i t e
   obtain ⟨u1, u2, hp, q⟩ := p
   obtain ⟨v, h1, h2⟩ := E.at' i _ e
   obtain ⟨p, x, y, rfl, hs, hx, hy⟩ := B5o E.wok E.le0 h2 hp
   refine ⟨_, h1, p, [x, y], rfl, hs, rfl, x, [y], rfl, y, [], rfl, rfl, ?_⟩
   have E1 := E.set (i := a) hx.sv B00
   have E2 := E1.set (i := b) hy.sv B00
   exact h.nx _ _ w E2 (Same.refl _) q
  ·rename_i x e
   obtain ⟨v, h1, h2⟩ := E.at' i _ e
   refine ⟨v, h1, ?_⟩
   exact rg_tup.ok c w env σ v x _ _ rfl E h2 p fun e2 σ2 E2 q2 => h.nx e2 σ2 w E2 (Same.refl _) q2
  ·exact p.elim
end Pu
namespace Pu
open PySem L2 My Prf
theorem fdE {a : Int} {n : Nat} (h : (n : Int) ∣ a) : a.fdiv n = a / n := Int.fdiv_eq_ediv_of_dvd h
theorem fdN (a n : Nat) : (a : Int).fdiv (n : Int) = ((a / n : Nat) : Int) := by
 rw [Int.fdiv_eq_ediv_of_nonneg _ (Int.natCast_nonneg n)]; rfl
theorem B3j (p q : Rat) (g t : Int) (hg : g = ((Int.gcd (p.den : Int) (q.den : Int) : Nat) : Int)) (ht : t = p.num * (q.den : Int).fdiv g + q.num * (p.den : Int).fdiv g) :
  t.fdiv ((Int.gcd t g : Nat) : Int) = (p + q).num /\ (p.den : Int).fdiv g * (q.den : Int).fdiv ((Int.gcd t g : Nat) : Int) = ((p + q).den : Int) := by
 have e : p + q = Rat.add p q := rfl
 have hgn : Int.gcd (p.den : Int) (q.den : Int) = Nat.gcd p.den q.den := rfl
 rw [hgn] at hg
 rw [e]; unfold Rat.add
 dsimp only
 split
 ·rename_i h1
  rw [h1] at hg
  subst hg
  have ht' : t = p.num * q.den + q.num * p.den := by rw [ht, fdN, fdN]; simp
  have h2 : Int.gcd t ((1 : Nat) : Int) = 1 := by simp
  rw [h2, ht']
  refine ⟨by simp, ?_⟩
  rw [fdN, fdN]; simp
 ·rename_i h1
  rw [Rat.maybeNormalize_eq]
  rw [hg, fdN, fdN] at ht
  have h3 : Int.gcd t g = t.natAbs.gcd (p.den.gcd q.den) := by rw [hg]; rfl
  rw [h3]
  subst ht
  refine ⟨?_, ?_⟩
  ·show _ = Int.divExact _ _ (Int.gcd_dvd_left _ ((p.den.gcd q.den : Nat) : Int))
   rw [Int.divExact_eq_ediv]
   exact fdE (Int.gcd_dvd_left _ ((p.den.gcd q.den : Nat) : Int))
  ·show _ = ((_ / _ : Nat) : Int)
   rw [hg, fdN, fdN]
   have hd : (p.num * ((q.den / p.den.gcd q.den : Nat) : Int) + q.num * ((p.den / p.den.gcd q.den : Nat) : Int)).natAbs.gcd (p.den.gcd q.den) ∣ q.den := Nat.dvd_trans (Nat.gcd_dvd_right ..) (Nat.gcd_dvd_right ..)
   rw [Nat.mul_div_assoc _ hd, Int.natCast_mul]
theorem A4j {t : Int} (q : Rat) : ((Int.gcd t (q.den : Int) : Nat) : Int) ≠ 0 := by
 have h := q.den_nz
 intro h0
 have h1 : Int.gcd t (q.den : Int) = 0 := by omega
 have h2 := (Int.gcd_eq_zero_iff.mp h1).2
 omega
theorem A3l {t g : Int} (h : g ≠ 0) : ((Int.gcd t g : Nat) : Int) ≠ 0 := by
 intro h0
 have h1 : Int.gcd t g = 0 := by omega
 exact h (Int.gcd_eq_zero_iff.mp h1).2
theorem B0i {k : Nat} {a g : Int} (h : Sm k a) (g1 : 0 <= g) : Sm k (a.fdiv g) := by
 unfold Sm at *
 rw [Int.fdiv_eq_ediv_of_nonneg _ g1]
 rcases Int.lt_or_le 0 g with h0 | h0
 ·have h2 := Int.natAbs_ediv_le_natAbs a g
  omega
 ·have : g = 0 := by omega
  subst this
  rw [Int.ediv_zero]; exact Nat.two_pow_pos k
theorem B76 (q : Rat) : PyData.tuple [.int (-q.num), .int q.den] = dq (-q) := rfl
end Pu
namespace Pu
open PySem L2 My Prf
section
variable {x y : PyData} {xs ys : LP} {i j : Nat} {env e : PEnv} {s : SV} {t : OT}
theorem B8l {k : PyData -> Prop} : (SV.d x).asD k = k x := rfl
theorem B8k {k : PyData -> Prop} : (SV.own xs).asD k = k (.list xs) := rfl
def oVar (o : Option (Option SV)) (i : Nat) (env : PEnv) (Q : SV -> PEnv -> Prop) : Prop := match o with
 | some (some (.d x)) => Q (.d x) env
 | some (some (.own xs)) => Q (.d (.list xs)) (env.set i (some (.d (.list xs))))
 | some (some .st) => Q .st env
 | _ => False
theorem B1c {Q : SV -> PEnv -> Prop} : pVar i env Q = oVar env[i]? i env Q := rfl
theorem B1v {Q : SV -> PEnv -> Prop} : oVar (some (some (.d x))) i env Q = Q (.d x) env := rfl
theorem B1u {Q : SV -> PEnv -> Prop} : oVar (some (some (.own xs))) i env Q = Q (.d (.list xs)) (env.set i (some (.d (.list xs)))) := rfl
def A90 (o : Option (Option SV)) (env : PEnv) (Q : PyData -> PEnv -> Prop) : Prop := match o with
 | some (some (.d x)) => Q x env
 | some (some (.own xs)) => Q (.list xs) env
 | some (some (.bor xs)) => Q (.list xs) env
 | _ => False
theorem A51 {Q : PyData -> PEnv -> Prop} : B3s i env Q = A90 env[i]? env Q := rfl
theorem A67 {Q : PyData -> PEnv -> Prop} : A90 (some (some (.d x))) env Q = Q x env := rfl
theorem A66 {Q : PyData -> PEnv -> Prop} : A90 (some (some (.own xs))) env Q = Q (.list xs) env := rfl
theorem A68 {Q : PyData -> PEnv -> Prop} : A90 (some (some (.bor xs))) env Q = Q (.list xs) env := rfl
theorem pI_i {C : Int -> Int -> Prop} {gd : Int -> Int -> PyData} {i j : Int} {Q : SV -> Prop} : pI C gd (.int i) (.int j) Q = (C i j /\ Q (.d (gd i j))) := rfl
theorem B6s {gd : Int -> Int -> PyData} {i j : Int} {Q : SV -> Prop} : pI0 gd (.int i) (.int j) Q = Q (.d (gd i j)) := rfl
theorem pU_i {gd : Int -> PyData} {i : Int} {Q : SV -> Prop} : pU gd (.int i) Q = Q (.d (gd i)) := rfl
theorem B1s {i : Int} {Q : SV -> Prop} : pAbs [.int i] Q = Q (.d (.int (if i < 0 then -i else i))) := rfl
theorem B1h {i j : Int} {Q : SV -> Prop} : pMax [.int i, .int j] Q = Q (.d (.int (if j > i then j else i))) := rfl
theorem B1g {i j : Int} {Q : SV -> Prop} : pMin [.int i, .int j] Q = Q (.d (.int (if j < i then j else i))) := rfl
theorem B1q {b : Bool} {Q : SV -> Prop} : pInt [.bool b] Q = Q (.d (.int (if b then 1 else 0))) := rfl
theorem A23 {Q : SV -> Prop} : A6a [.list ys] Q = Q (.own ys) := rfl
def oKit (o : Option Bool) (Q : SV -> Prop) : Prop := match o with
 | some b => Q (.d (.bool b))
 | none => False
theorem B1p {c : String} {pa : PDt} {Q : SV -> PEnv -> Prop} : pIsi c pa env Q = pa env fun x e => oKit (kitB (tyD x) c) fun s => Q s e := rfl
theorem B11 {b : Bool} {Q : SV -> Prop} : oKit (some b) Q = Q (.d (.bool b)) := rfl
theorem B8m {b : Bool} {k : Bool -> Prop} : asB (.bool b) k = k b := rfl
theorem B8g {k : LP -> Prop} : asL (.list xs) k = k xs := rfl
theorem B2a {k : Prop} : isSt (some (some .st)) k = k := rfl
theorem B8h {i : Int} {k : Int -> Prop} : asI (.int i) k = k i := rfl
def B4i (o : Option (Option SV)) (D : PEnds) (env : PEnv) : Prop := match o with
 | some (some (.bor _)) => False
 | some (some (.bt _)) => False
 | some (some (.al _)) => False
 | some (some s) => D.rt s env
 | _ => False
theorem A57 {D : PEnds} : B3w i D env = B4i env[i]? D env := rfl
theorem A7f {D : PEnds} : B4i (some (some (.d x))) D env = D.rt (.d x) env := rfl
theorem A7e {D : PEnds} : B4i (some (some (.own xs))) D env = D.rt (.own xs) env := rfl
theorem B07 {Q : PEnv -> Prop} : qNil [] env Q = Q env := rfl
theorem A5e {pg : PyData -> PEnv -> (PEnv -> Prop) -> Prop} {pr : LP -> PEnv -> (PEnv -> Prop) -> Prop} {Q : PEnv -> Prop} : B27 pg pr (x :: xs) env Q = pg x env fun e => pr xs e Q := rfl
def oPar (i j : Nat) (xs : LP) (D : PEnds) (e : PEnv) : Prop := match xs with
 | [x, y] => D.nx ((e.set i (some (.d x))).set j (some (.d y)))
 | _ => False
theorem B1f {pa : PAr} {D : PEnds} : pPar i j pa D env = pa env fun xs e => oPar i j xs D e := rfl
theorem B10 {D : PEnds} : oPar i j [x, y] D e = D.nx ((e.set i (some (.d x))).set j (some (.d y))) := rfl
theorem A81 {k : LP -> Prop} : Z3 (some (some (.own xs))) k = k xs := rfl
def A3d (o : Option (Option SV)) (i : Nat) (env : PEnv) (Q : LP -> PEnv -> Prop) : Prop := match o with
 | some (some (.d x)) => U6 x fun xs => Q xs env
 | some (some (.own xs)) => Q xs (env.set i (some (.d (.list xs))))
 | some (some (.bor xs)) => Q xs env
 | _ => False
theorem A26 {Q : LP -> PEnv -> Prop} : A6h i env Q = A3d env[i]? i env Q := rfl
theorem A3b {Q : LP -> PEnv -> Prop} : A3d (some (some (.d x))) i env Q = U6 x fun xs => Q xs env := rfl
theorem A3a {Q : LP -> PEnv -> Prop} : A3d (some (some (.own xs))) i env Q = Q xs (env.set i (some (.d (.list xs)))) := rfl
theorem A3c {Q : LP -> PEnv -> Prop} : A3d (some (some (.bor xs))) i env Q = Q xs env := rfl
def B68 (xs : LP) (Q : LP -> Prop) : Prop := match xs with
 | [.int j] => (-(2 ^ 62) <= j /\ j < 2 ^ 62) /\ Q (rngD 0 j.toNat)
 | _ => False
theorem A56 {pa : PAr} {Q : LP -> PEnv -> Prop} : B6q pa env Q = pa env fun xs e => B68 xs fun ys => Q ys e := rfl
theorem A7d {j : Int} {Q : LP -> Prop} : B68 [.int j] Q = ((-(2 ^ 62) <= j /\ j < 2 ^ 62) /\ Q (rngD 0 j.toNat)) := rfl
def B67 (xs : LP) (Q : LP -> Prop) : Prop := match xs with
 | [.int i, .int j] => (-(2 ^ 62) <= i /\ i < 2 ^ 62 /\ -(2 ^ 62) <= j /\ j < 2 ^ 62) /\ Q (rngD i (j - i).toNat)
 | _ => False
theorem A55 {pa : PAr} {Q : LP -> PEnv -> Prop} : B6p pa env Q = pa env fun xs e => B67 xs fun ys => Q ys e := rfl
theorem A7c {i j : Int} {Q : LP -> Prop} : B67 [.int i, .int j] Q = ((-(2 ^ 62) <= i /\ i < 2 ^ 62 /\ -(2 ^ 62) <= j /\ j < 2 ^ 62) /\ Q (rngD i (j - i).toNat)) := rfl
theorem B1r {Q : SV -> Prop} : pCat (.list xs) (.list ys) Q = (xs.length + ys.length <= 1000000 /\ Q (.own (xs ++ ys))) := rfl
def B7a (o : Option (Option SV)) (i : Nat) (env : PEnv) (Q : LP -> PEnv -> Prop) : Prop := match o with
 | some (some (.d x)) => asL x fun xs => Q xs env
 | some (some (.own xs)) => Q xs (env.set i (some (.d (.list xs))))
 | some (some (.bor xs)) => Q xs env
 | _ => False
theorem A59 {Q : LP -> PEnv -> Prop} : B33 i env Q = B7a env[i]? i env Q := rfl
theorem A7h {Q : LP -> PEnv -> Prop} : B7a (some (some (.bor xs))) i env Q = Q xs env := rfl
def B7d (xss : List LP) (Q : LP -> Prop) : Prop := match xss with
 | [xs] => Q (Y9 xs)
 | _ => False
theorem A6j {pa : PEnv -> (List LP -> PEnv -> Prop) -> Prop} {Q : LP -> PEnv -> Prop} : B6u pa env Q = pa env fun xss e => B7d xss fun ys => Q ys e := rfl
theorem A7j {Q : LP -> Prop} : B7d [xs] Q = Q (Y9 xs) := rfl
def A91 (o : Option (Option SV)) (env : PEnv) (Q : PyData -> PEnv -> Prop) : Prop := match o with
 | some (some (.d x)) => Q x env
 | some (some (.own xs)) => Q (.list xs) env
 | some (some (.bor xs)) => Q (.list xs) env
 | some (some (.tr t)) => ∃ x, t.dat = [x] /\ Q x env
 | _ => False
theorem A52 {Q : PyData -> PEnv -> Prop} : B3t i env Q = A91 env[i]? env Q := rfl
theorem A7b {Q : PyData -> PEnv -> Prop} : A91 (some (some (.d x))) env Q = Q x env := rfl
theorem A7a {Q : PyData -> PEnv -> Prop} : A91 (some (some (.own xs))) env Q = Q (.list xs) env := rfl
theorem A69 {Q : PyData -> PEnv -> Prop} : A91 (some (some (.tr t))) env Q = ∃ x, t.dat = [x] /\ Q x env := rfl
theorem ot_o {k : OT -> Prop} : (SV.own xs).ot k = ∀ a, k (.nd true a (B8 xs)) := rfl
theorem B2n {k : OT -> Prop} : asTr (some (some (.tr t))) k = k t := rfl
theorem B8j {k : PyData -> Prop} : (SV.d x).asH k = k x := rfl
theorem B8i {k : PyData -> Prop} : (SV.own xs).asH k = k (.list xs) := rfl
def oTrV (o : Option (Option SV)) (env : PEnv) (Q : OT -> PEnv -> Prop) : Prop := match o with
 | some (some (.d x)) => Q (.leaf x) env
 | some (some (.tr t)) => Q t env
 | some (some (.bt t)) => Q t env
 | _ => False
theorem B1e {Q : OT -> PEnv -> Prop} : pTrV i env Q = oTrV env[i]? env Q := rfl
theorem B1y {Q : OT -> PEnv -> Prop} : oTrV (some (some (.d x))) env Q = Q (.leaf x) env := rfl
theorem B1x {Q : OT -> PEnv -> Prop} : oTrV (some (some (.tr t))) env Q = Q t env := rfl
theorem B1z {Q : OT -> PEnv -> Prop} : oTrV (some (some (.bt t))) env Q = Q t env := rfl
def oUnp (o : Option (Option SV)) (a b : Nat) (pr : LP -> PEnv -> (PEnv -> Prop) -> Prop) (D : PEnds) (env : PEnv) : Prop := match o with
 | some (some (.bt t)) => ∃ u v, t.pair = some (u, v) /\ D.nx ((env.set a (some u.sv)).set b (some v.sv))
 | some (some (.d x)) => qTup 2 pr x env D.nx
 | _ => False
theorem B1d {a b : Nat} {pr : LP -> PEnv -> (PEnv -> Prop) -> Prop} {D : PEnds} : pUnp i a b pr D env = oUnp env[i]? a b pr D env := rfl
theorem B1w {a b : Nat} {pr : LP -> PEnv -> (PEnv -> Prop) -> Prop} {D : PEnds} : oUnp (some (some (.d x))) a b pr D env = qTup 2 pr x env D.nx := rfl
class Box (α : Type) where
 f : α -> Prop
def hold {α : Type} [b : Box α] (x : α) : Prop := b.f x
theorem A3j {α : Type} {f : α -> Prop} {x : α} : @hold α ⟨f⟩ x = f x := rfl
theorem A6q {psp : PSp} {pa : PAs} {env : PEnv} {Q : SV -> PEnv -> Prop} : B6w psp pa env Q = pa env fun as e => psp as (@hold SV ⟨fun s => Q s e⟩) := rfl
theorem B1j {xs : LP} {i : Int} {Q : SV -> Prop} : pIx (.list xs) (.int i) Q = pGet xs i (@hold SV ⟨Q⟩) := rfl
theorem B1i {xs : LP} {i : Int} {Q : SV -> Prop} : pIx (.tuple xs) (.int i) Q = pGet xs i (@hold SV ⟨Q⟩) := rfl
theorem A6p {pi : PAr} {pg : PyData -> PEnv -> (PEnv -> Prop) -> Prop} {pt : PTt} {pd : PDt} {cap : List (Option Nat)} {env : PEnv} {Q : SV -> PEnv -> Prop} : B6v pi pg pt pd cap env Q = pi env fun xs e => xs.length < 1000000 /\ N2 xs pg pt pd (J7 cap e) (@hold LP ⟨fun ys => Q (.own ys) e⟩) := rfl
theorem V4 {pi : PAr} {pg : PyData -> PEnv -> (PEnv -> Prop) -> Prop} {pt : PTt} {pd : PDt} {cap : List (Option Nat)} {i : Nat} {D : PEnds} {env : PEnv} : A22 pi pg pt pd cap i D env = pi env fun xs e => xs.length < 1000000 /\ N2 xs pg pt pd (J7 cap e) (@hold LP ⟨fun ys => D.nx (e.set i (some (.own ys)))⟩) := rfl
end
end Pu
namespace L2
open PySem PySem.Spec PyProof.Rows
section
variable {X : Cx}
def rInD (K : PySem.W.Frag) (neg : Bool) : R2 := fun x y H Q => ∃ dx dy xs, Den K H x dx /\ Den K H y dy /\ (dy = .list xs \/ dy = .tuple xs) /\ PyData.canLayAll0 xs = true /\ dx.canLay0 = true /\ dx.depth <= 60 /\ Q (.bl (if neg then !(xs.any fun z => z.eqv dx) else xs.any fun z => z.eqv dx)) H
theorem B60 (hu : X.A.units + 64 < cLine) : OpR X (compareOp .In) (rInD X.K false) := by
 intro pins s σ H x y v u Q I rx ry h
 obtain ⟨dx, dy, xs, h1, h2, h3, c1, c2, hd, q⟩ := h
 obtain ⟨as, r1⟩ := h1.reads I rx c2
 obtain ⟨bs, r2⟩ := h2.reads I ry (by rcases h3 with rfl | rfl <;> exact c1)
 rcases h3 with rfl | rfl
 ·exact PySem.SeqAt.in_list_reads r2 r1 c1 c2 (by omega) ⟨.bl _, H, I, rfl, q⟩
 ·exact PySem.SeqAt.in_tuple_reads r2 r1 c1 c2 (by omega) ⟨.bl _, H, I, rfl, q⟩
theorem A1z {K : PySem.W.Frag} (h : X.K = K) (hu : X.A.units + 64 < cLine) : OpR X (compareOp .In) (rInD K false) := by subst h; exact B60 hu
end
end L2
namespace Pu
open PySem L2 My Prf
def pIn (neg : Bool) (x y : PyData) (Q : SV -> Prop) : Prop := U6 y fun xs => PyData.canLayAll0 xs = true /\ x.canLay0 = true /\ x.depth <= 60 /\ Q (.d (.bool (if neg then !(xs.any fun z => z.eqv x) else xs.any fun z => z.eqv x)))
instance ro_in {K : Frag} {neg : Bool} : RO K (rInD K neg) (pIn neg) where
 ok := by
  rintro c w env σ x y dx dy Qp Q rfl E vx vy p k
  unfold pIn U6 at p
  split at p
  ·rename_i xs
   exact ⟨dx, _, xs, vx.den E.wok, vy.den E.wok, .inl rfl, p.1, p.2.1, p.2.2.1, k _ _ w (Res.data E (.bl _)) p.2.2.2⟩
  ·rename_i xs
   exact ⟨dx, _, xs, vx.den E.wok, vy.den E.wok, .inr rfl, p.1, p.2.1, p.2.2.1, k _ _ w (Res.data E (.bl _)) p.2.2.2⟩
  ·exact p.elim
theorem hm_H {w : Wd} : Same (hm w) w.H := fun _ _ h => (A77 h).1
instance (priority := high) re_neH {K : Frag} {ta tb : TE} {pa pb : PDt} [ha : RH K ta pa] [hb : RH K tb pb] : RE K (tOp (rNeD K) ta tb) (pOp pNeD pa pb) where
 ok := by
  rintro c w env σ Qp Q rfl E p k
  refine ha.ok c w env σ _ _ rfl E p fun x dx e1 w1 E1 l1 v1 q1 => ?_
  refine hb.ok c w1 e1 σ _ _ rfl E1 q1 fun y dy e2 w2 E2 l2 v2 q2 => ?_
  have v1' : VH c.K w2 x dx := Den.same (B4z l2) v1
  exact ⟨dx, dy, Den.same hm_H v1', Den.same hm_H v2, q2.1, q2.2.1, q2.2.2.1, k _ _ e2 w2 ((Res.data E2 (.bl _)).pre (l1.trans l2)) q2.2.2.2⟩
instance (priority := high) re_eqH {K : Frag} {ta tb : TE} {pa pb : PDt} [ha : RH K ta pa] [hb : RH K tb pb] : RE K (tOp (rEqD K) ta tb) (pOp pEqD pa pb) where
 ok := by
  rintro c w env σ Qp Q rfl E p k
  refine ha.ok c w env σ _ _ rfl E p fun x dx e1 w1 E1 l1 v1 q1 => ?_
  refine hb.ok c w1 e1 σ _ _ rfl E1 q1 fun y dy e2 w2 E2 l2 v2 q2 => ?_
  have v1' : VH c.K w2 x dx := Den.same (B4z l2) v1
  exact ⟨dx, dy, Den.same hm_H v1', Den.same hm_H v2, q2.1, q2.2.1, q2.2.2.1, k _ _ e2 w2 ((Res.data E2 (.bl _)).pre (l1.trans l2)) q2.2.2.2⟩
def B9f (o : Option (Option SV)) (n : Int) (env : PEnv) (Q : LP -> PEnv -> Prop) : Prop := match o with
 | some (some (.bt t)) => ∃ u v xs, t.pair = some (u, v) /\ n = 1 /\ v.sv = .bor xs /\ Q xs env
 | _ => False
theorem EnvOk.take {c : Ct} {w : Wd} {env : PEnv} {σ : St} {i : Nat} {s : SV} (E : EnvOk c w env σ) (h : env[i]? = some (some s)) (hr : s.isRes = true) : ∃ v, σ[i]? = some (some v) /\ Res c w (env.set i none) σ w v s := by
 obtain ⟨v, hv, hV⟩ := E.at' i _ h
 have up : ∀ {j : Nat} {t : SV}, (env.set i none)[j]? = some (some t) -> i ≠ j /\ env[j]? = some (some t) := by
  intro j t q
  rw [List.getElem?_set] at q
  split at q
  ·split at q <;> cases q
  ·rename_i z; exact ⟨z, q⟩
 have E' : EnvOk c w (env.set i none) σ := ⟨E.wok, E.le0, by simpa using E.len, fun j s q => E.at' j s (up q).2, fun j k s t v u a q1 q2 => E.own j k s t v u a (up q1).2 (up q2).2, E.zf, fun a j t u za q => E.zo a j t u za (up q).2⟩
 exact ⟨v, hv, E', Lw.refl w, hV, fun a f => ⟨fun j t u q z g => (up q).1 (E.own i j _ _ _ _ a h (up q).2 hv z f g), fun za => E.zo a i _ _ za h hv f⟩, hr⟩
def B4j (o : Option (Option SV)) (i : Nat) (env : PEnv) (k : OT -> PEnv -> Prop) : Prop := match o with
 | some (some (.d x)) => k (.leaf x) env
 | some (some (.own xs)) => ∀ a, k (.nd true a (B8 xs)) (env.set i none)
 | some (some (.tr t)) => k t (env.set i none)
 | _ => False
theorem A7g {xs : LP} {i : Nat} {env : PEnv} {k : OT -> PEnv -> Prop} : B4j (some (some (.own xs))) i env k = ∀ a, k (.nd true a (B8 xs)) (env.set i none) := rfl
def A28 (i : Nat) (pr : PEnv -> (OT -> PEnv -> Prop) -> Prop) (env : PEnv) (Q : OT -> PEnv -> Prop) : Prop := B4j env[i]? i env fun t e1 => pr e1 fun r e2 => (∀ a ∈ r.fp, a ∉ t.fp) -> Q (.cons t r) e2
instance (priority := high) rat_move {K : Frag} {i : Nat} {tr : TA} {pr : PEnv -> (OT -> PEnv -> Prop) -> Prop} [hr : RAt K tr pr] : RAt K (K6 (tVar i) tr) (A28 i pr) where
 ok := by
  rintro c w env σ Qp Q rfl E p k
  have go : ∀ (e1 : PEnv) (v : V) (s : SV), σ[i]? = some (some v) -> Res c w e1 σ w v s -> (s.ot fun t => pr e1 fun r e2 => (∀ a ∈ r.fp, a ∉ t.fp) -> Qp (.cons t r) e2) -> K6 (tVar i) tr σ w.H Q := by
   intro e1 v s hv R q1
   refine ⟨v, hv, ?_⟩
   obtain ⟨t, ht, ho, hn, q⟩ := R.ot q1
   refine hr.ok (c.with t) w e1 σ _ _ rfl (R.ev.hold ho hn) q fun vs r e2 w2 E2 l2 hr' ho' hn' q2 => ?_
   refine k (v :: vs) (.cons t r) e2 w2 E2.letgo (R.lw.trans l2) ⟨v, vs, rfl, ht.mono l2 fun a ha => (ho.1 a ha).2.2.1, hr'⟩ ⟨fun a ha => ?_, List.nodup_append.mpr ⟨ho.2, ho'.2, fun a ha b hb e => (hn' b hb).2 (.inr (e ▸ ha))⟩⟩ (fun a ha => ?_) (q2 fun a ha z => (hn' a ha).2 (.inr z))
   ·rcases List.mem_append.mp (show a ∈ t.fp ++ r.fp from ha) with z | z
    ·obtain ⟨z1, z2, z3⟩ := E2.zf a (.inr z)
     exact ⟨z2, z1, z3, (ho.1 a z).2.2.2⟩
    ·exact ho'.1 a z
   ·rcases List.mem_append.mp (show a ∈ t.fp ++ r.fp from ha) with z | z
    ·exact ⟨fun j s u q q' => E2.zo a j s u (.inr z) q q', (hn a z).2⟩
    ·exact ⟨(hn' a z).1, fun y => (hn' a z).2 (.inl y)⟩
  unfold A28 B4j at p
  split at p
  ·rename_i x e
   obtain ⟨v, h1, h2⟩ := E.at' i _ e
   exact go env v (.d x) h1 (Res.data E h2) p
  ·rename_i xs e
   obtain ⟨v, h1, R⟩ := E.take e rfl
   exact go _ v (.own xs) h1 R p
  ·rename_i t e
   obtain ⟨v, h1, R⟩ := E.take e rfl
   exact go _ v (.tr t) h1 R p
  ·exact p.elim
end Pu
namespace L2
open PySem PySem.Spec PyProof.Rows
section
variable {X : Cx} {tg : Expr}
def B56 (K : PySem.W.Frag) : List V -> Hp -> VK -> Prop := fun xs H Q => (∃ p ys, xs = [.ref p] /\ (SqL K H p ys \/ SqT K H p ys) /\ Q (.int ys.length) H) \/ ∃ z, xs = [.str z] /\ z.length <= sizeLine /\ Q (.int z.length) H
theorem C2 {K : PySem.W.Frag} (h : X.K = K) : CallR X (.builtin "len") (B56 K) := by subst h; exact call_len_seq.or A09
theorem A3g : 1000 <= sizeLine := by rw [sizeLine_eq]; decide
end
end L2
namespace L2
open PySem PySem.Spec PyProof.Rows
section
variable {X : Cx} {tg : Expr} {pos : Pos}
theorem K0 {o i : Expr} {to ti : TE} {t : TSet} (ho : QE X o to) (hi : QE X i ti) (hs : PSet X t)
  (ha : ∀ v, assign (.Subscript o i pos) X.env v = (do
   let ov <- holding [v] (eval o X.env)
   let iv <- holding [v, ov] (eval i X.env)
   standAt pos
   holding [v, ov, iv] (setItem ov iv v)
   release [v, ov, iv] []) := by intro _; rfl) : QG X (.Subscript o i pos) (gSub to ti t) := ⟨A20 ho.out hi.out hs ha⟩
end
end L2
namespace Pu
open PySem L2 My Prf
def asS (x : PyData) (k : Str -> Prop) : Prop := match x with
 | .str z => k z
 | _ => False
theorem VV.strE {K : Frag} {w : Wd} {v : V} {z : Str} (h : VV K w v (.str z)) : v = .str z := by
 rcases h with h | ⟨l, vs, xs, e, e', _⟩
 ·cases h; rfl
 ·cases e'
def sgn (c : Nat) : PyData := .str ⟨#[c]⟩
def B35 (z : Str) (i : Int) (Q : SV -> Prop) : Prop := ∃ c, atI z.cps.toList i = some c /\ Q (.d (sgn c))
def pIx2 (x y : PyData) (Q : SV -> Prop) : Prop := match x with
 | .str z => asI y fun i => z.length <= 1000 /\ B35 z i Q
 | x => pIx x y Q
theorem B1n {xs : LP} {y : PyData} {Q : SV -> Prop} : pIx2 (.list xs) y Q = pIx (.list xs) y Q := rfl
theorem B1k {xs : LP} {y : PyData} {Q : SV -> Prop} : pIx2 (.tuple xs) y Q = pIx (.tuple xs) y Q := rfl
theorem B1m {q : Rat} {y : PyData} {Q : SV -> Prop} : pIx2 (dq q) y Q = pIx (dq q) y Q := rfl
theorem B1o {q : Rat × Rat} {y : PyData} {Q : SV -> Prop} : pIx2 (dcn q) y Q = pIx (dcn q) y Q := rfl
theorem B1l {z : Str} {i : Int} {Q : SV -> Prop} : pIx2 (.str z) (.int i) Q = (z.length <= 1000 /\ B35 z i Q) := rfl
instance (priority := high) ro_ix2 {K : Frag} : RO K (rIx K) pIx2 where
 ok := by
  rintro c w env σ x y dx dy Qp Q rfl E vx vy p k
  unfold pIx2 at p
  split at p
  ·unfold asI at p
   split at p
   ·obtain ⟨hl, cc, h1, q⟩ := p
    exact .inr (.inr ⟨_, _, cc, vx.strE, vy.intE, Nat.le_trans hl A3g, h1, k _ _ w (Res.data E (.str _)) q⟩)
   ·exact p.elim
  ·exact ro_ix.ok c w env σ x y dx dy Qp Q rfl E vx vy p k
def A6e (xs : LP) (Q : SV -> Prop) : Prop := match xs with
 | [.list ys] => Q (.d (.int ys.length))
 | [.tuple ys] => Q (.d (.int ys.length))
 | [.str z] => z.length <= 1000 /\ Q (.d (.int z.length))
 | _ => False
theorem A6d {ys : LP} {Q : SV -> Prop} : A6e [.list ys] Q = Q (.d (.int ys.length)) := rfl
theorem A6b {ys : LP} {Q : SV -> Prop} : A6e [.tuple ys] Q = Q (.d (.int ys.length)) := rfl
theorem A6c {q : Rat} {Q : SV -> Prop} : A6e [dq q] Q = Q (.d (.int 2)) := rfl
instance rb_len2 {K : Frag} : RB K (B56 K) A6e where
 ok := by
  rintro c w env σ vs xs Qp Q rfl E vv p k
  unfold A6e at p
  split at p
  ·cases vv with | cons h t => cases t; obtain ⟨a, us, e, h1, h2⟩ := h.lst E.wok; exact .inl ⟨a, us, by rw [e], .inl h1, by rw [h2.len]; exact k _ _ w (Res.data E (.int _)) p⟩
  ·cases vv with | cons h t => cases t; obtain ⟨a, us, e, h1, h2⟩ := h.tup E.wok; exact .inl ⟨a, us, by rw [e], .inr h1, by rw [h2.len]; exact k _ _ w (Res.data E (.int _)) p⟩
  ·cases vv with | cons h t => cases t; exact .inr ⟨_, by rw [h.strE], Nat.le_trans p.1 A3g, k _ _ w (Res.data E (.int _)) p.2⟩
  ·exact p.elim
def B3v (pd : PDt) (i : Nat) (pi : PDt) (D : PEnds) (env : PEnv) : Prop := pd env fun x e => Z3 e[i]? fun _ => pi e fun y e2 => asI y fun n => Z3 e2[i]? fun xs => ∃ j, ixN xs.length n = some j /\ D.nx (e2.set i (some (.own (xs.set j x))))
theorem DenAll.setAt {K : Frag} {F : Hpp} {v : V} {x : PyData} (d : Den K F v x) : ∀ {vs : List V} {xs : LP} (j : Nat), DenAll K F vs xs -> DenAll K F (vs.set j v) (xs.set j x)
 | _, _, _, .nil => .nil
 | _, _, 0, .cons _ t => .cons d t
 | _, _, j + 1, .cons h t => .cons h (DenAll.setAt d j t)
instance rs_setI {K : Frag} {i : Nat} {te ti : TE} {pd pi : PDt} [he : RD K te pd] [hi : RW K ti pi] : RS K (tAsg te (gSub (tVar i) ti A9e)) (B3v pd i pi) where
 ok := by
  rintro c w env σ Dp D rfl E h p
  refine he.ok c w env σ _ _ rfl E p fun v x e1 w1 E1 l1 d1 q1 => ?_
  unfold Z3 at q1
  split at q1
  ·rename_i xs0 e0
   obtain ⟨o, g0, l, vs, ev, h1, h2, h3, h4, h5⟩ := E1.at' i _ e0
   subst ev
   refine ⟨_, g0, hi.ok c w1 e1 σ _ _ rfl E1 q1 fun u y e2 w2 E2 l2 d2 q2 => ?_⟩
   unfold asI at q2
   split at q2
   ·rename_i n
    split at q2
    ·rename_i xs e
     obtain ⟨j, hj, q2⟩ := q2
     obtain ⟨o', g0', l', vs', ev', k1, k2, k3, k4, k5⟩ := E2.at' i _ e
     rw [g0] at g0'; cases g0'; cases ev'
     have hn := d2.intE
     refine ⟨l, vs', n, j, rfl, hn, k1, by rw [k5.len]; exact hj, ?_⟩
     exact h.nx _ σ ⟨w2.M, upd w2.H l (.lst (vs'.set j v)), w2.F⟩ (E2.write e g0 k1 k2 k3 k4 (DenAll.setAt (Den.same l2.f d1) j k5)) (l1.f.trans l2.f) q2
    ·exact q2.elim
   ·exact q2.elim
  ·exact q1.elim
theorem A7z : kitB "int" "tuple" = some false := by decide +kernel
theorem A70 : kitB "bool" "tuple" = some false := by decide +kernel
theorem A7y : kitB "str" "tuple" = some false := by decide +kernel
end Pu
namespace L2
open PySem PySem.Spec PyProof.Rows
section
variable {prog : Program} {w : World} {A : Around} {E : Value -> Shared -> Prop} {h : Heap} {g : Array GenState} {d : Drawn} {t : Nat} {os : OsState} {a C : Addr} {o : Obj} {vs : Array Value} {K : PySem.W.Frag}
end
end L2
namespace L2
open PySem PySem.Spec PyProof.Rows
section
variable {P : Program} {w : World} {outer : List Env} {H H' : Hp} {s s' : Shared} {a : Addr} {cls a0 : Value} {B : Heap}
end
section
variable {P : Program} {w : World} {K : PySem.W.Frag} {mg : Str -> Option Value} {base : Heap} {N : List Str} {qual : Str} {scope : Scope} {f : Addr} {cd : Value} {A : Around} {outer : List Env} {s0 : Shared} {H0 : Hp} {E : XK}
end
end L2
namespace L2
open PySem PySem.Spec PyProof.Rows
section
variable {X : Cx} {E : XK} {x : Str} {C : Addr} {pos np cpos : Pos} {e : Expr} {es : List Expr} {t : TA}
end
abbrev Cx.held (X : Cx) (a : Addr) (oe : Obj) : Cx := { X with A := X.A.mark (some (.ref a)), calm := false, pn := (a, oe) :: X.pn, xe := fun _ _ => False }
section
variable {X : Cx} {pins : List (Addr × Obj)} {σ : St} {H : Hp} {s : Shared} {a : Addr} {oe : Obj}
end
end L2
namespace L2
open PySem PySem.Spec PyProof.Rows
section
variable {P : Program} {w : World} {outer : List Env} {H H' : Hp} {s s' : Shared} {a : Addr} {cls a0 : Value} {B : Heap}
end
section
variable {X : Cx} {pins : List (Addr × Obj)} {σ : St} {H H' : Hp} {s s' : Shared} {a : Addr} {cls a0 : Value} {B : Heap}
end
section
variable {X : Cx} {k i : Nat} {f C CH : Addr} {fd : FuncData} {ps : List Str} {sp : Sp} {x xh n : Str} {p pos pos2 pos3 pos4 pos5 : Pos} {e : Expr} {es : List Expr} {t : TA} {b0 : Stmt} {suite : List Stmt} {b : Bool}
end
end L2
namespace L2
open PySem PySem.Spec PyProof.Rows
section
variable {X : Cx} {a C : Addr} {oe : Obj} {i : Nat} {b : Bool}
inductive ClV : V -> Value -> Prop
 | own (c : Addr) : ClV (.ref c) (.ref c)
 | ty (c : String) : ClV (.ty c) (.type c)
theorem ClV.get {c : V} {u cv : Value} (h : ClV c cv) (r : RelV c u) : u = cv := by
 cases h with
 | own c => exact r
 | ty c => exact r
inductive ClVs : List V -> List Value -> Prop
 | nil : ClVs [] []
 | cons {c : V} {cv : Value} {r : List V} {s : List Value} : ClV c cv -> ClVs r s -> ClVs (c :: r) (cv :: s)
theorem ClVs.get : ∀ {cs : List V} {us cvs : List Value}, ClVs cs cvs -> Vals cs us -> us = cvs
 | [], _, _, .nil, .nil => rfl
 | _ :: _, _, _, .cons h t, .cons r s => by rw [h.get r, t.get s]
end
end L2
namespace L2
open PySem PySem.Spec PyProof.Rows
section
variable {X : Cx}
variable {k i : Nat} {f C CH : Addr} {fd : FuncData} {ps : List Str} {sp : Sp} {x xh n : Str} {p pos pos2 pos3 pos4 pos5 : Pos} {e : Expr} {es : List Expr} {t : TA} {b0 : Stmt} {suite : List Stmt} {b : Bool}
end
end L2
namespace Pu
open PySem PySem.Spec PyProof.Rows L2 My Prf
end Pu
namespace L2
open PySem PySem.Spec PyProof.Rows
theorem us0 : ∀ {us : List Value}, us.length = 0 -> us = []
 | [], _ => rfl
theorem usS {n : Nat} : ∀ {us : List Value}, us.length = n + 1 -> ∃ a r, us = a :: r /\ r.length = n
 | a :: r, h => ⟨a, r, rfl, Nat.succ.inj h⟩
theorem us1 {us : List Value} (h : us.length = 1) : ∃ a, us = [a] := by
 obtain ⟨a, r, e, k⟩ := usS h
 exact ⟨a, by rw [e, us0 k]⟩
theorem us2 {us : List Value} (h : us.length = 2) : ∃ a b, us = [a, b] := by
 obtain ⟨a, r, e, k⟩ := usS h; obtain ⟨b, z⟩ := us1 k; exact ⟨a, b, by rw [e, z]⟩
theorem us3 {us : List Value} (h : us.length = 3) : ∃ a b c, us = [a, b, c] := by
 obtain ⟨a, r, e, k⟩ := usS h; obtain ⟨b, c, z⟩ := us2 k; exact ⟨a, b, c, by rw [e, z]⟩
theorem us4 {us : List Value} (h : us.length = 4) : ∃ a b c d, us = [a, b, c, d] := by
 obtain ⟨a, r, e, k⟩ := usS h; obtain ⟨b, c, d, z⟩ := us3 k; exact ⟨a, b, c, d, by rw [e, z]⟩
theorem us5 {us : List Value} (h : us.length = 5) : ∃ a b c d x, us = [a, b, c, d, x] := by
 obtain ⟨a, r, e, k⟩ := usS h; obtain ⟨b, c, d, x, z⟩ := us4 k; exact ⟨a, b, c, d, x, by rw [e, z]⟩
end L2
namespace L2
open PySem PySem.Spec PyProof.Rows
section
variable {X : Cx}
theorem B4b : OpR X (binaryOp .Mult) rRep := B6x
end
end L2
namespace Pu
open PySem L2 My Prf
theorem A8h {K : Frag} {F : Hpp} {vs : List V} {xs : LP} (d : DenAll K F vs xs) : ∀ k : Nat, DenAll K F (List.replicate k vs).flatten (List.replicate k xs).flatten
 | 0 => .nil
 | k + 1 => by rw [List.replicate_succ, List.replicate_succ, List.flatten_cons, List.flatten_cons]; exact d.app (A8h d k)
def pRep (pe : PX) (pb : PDt) (env : PEnv) (Q : SV -> PEnv -> Prop) : Prop := pe env fun s e => ∃ xs, s = .own xs /\ pb e fun y e2 => ∃ n : Int, y = .int n /\ 0 <= n /\ n <= 1000 /\ xs.length <= 1000 /\ Q (.own (List.replicate n.toNat xs).flatten) e2
instance re_rep {K : Frag} {ta tb : TE} {pe : PX} {pb : PDt} [ha : RE K ta pe] [hb : RW K tb pb] : RE K (tOp rRep ta tb) (pRep pe pb) where
 ok := by
  rintro c w env σ Qp Q rfl E p k
  refine ha.ok c w env σ _ _ rfl E p fun v s e1 w1 R1 q1 => ?_
  obtain ⟨xs, rfl, q1⟩ := q1
  obtain ⟨E1, l1, ⟨l, vs, rfl, h1, h2, h3, h4, h5⟩, _, _⟩ := R1
  refine hb.ok c w1 e1 σ _ _ rfl E1 q1 fun u y e2 w2 E2 l2 v2 q2 => ?_
  obtain ⟨n, rfl, n0, n1, hx, q2⟩ := q2
  have hl := h5.len
  have hn : n.toNat <= 1000 := by omega
  refine ⟨l, n, vs, rfl, v2.intE, l2.h _ _ h1 h3, by omega, by omega, ?_, fun p hp => k _ _ e2 _ ((Res.lst E2 hp (A8h (DenAll.same l2.f h5) _)).pre (l1.trans l2)) q2⟩
  have : vs.length * n.toNat <= 1000 * 1000 := Nat.mul_le_mul (by omega) hn
  exact Nat.le_trans this (by decide)
end Pu
namespace L2
open PySem PySem.Spec PyProof.Rows
section
variable {prog : Program} {w : World} {A : Around} {E : Value -> Shared -> Prop} {s : Shared}
end
section
variable {prog : Program} {w : World} {A : Around} {E : Value -> Shared -> Prop} {s : Shared} {R : Result -> Shared -> Prop} {us vs : Array Value}
end
section
variable {prog : Program} {w : World} {A : Around} {E : Value -> Shared -> Prop} {s : Shared} {us vs : Array Value}
end
end L2
namespace L2
open PySem PySem.Spec PyProof.Rows
section
variable {X : Cx} {pins : List (Addr × Obj)} {σ : St} {H : Hp} {s : Shared}
end
end L2
namespace L2
open PySem PySem.Spec PyProof.Rows
section
variable {X : Cx}
end
end L2
namespace Pu
open PySem L2 My Prf
end Pu
namespace L2
open PySem PySem.Spec PyProof.Rows
def A1s (K : PySem.W.Frag) : V -> List V -> Hp -> VK -> Prop := fun x vs H Q => ∃ y d xs j, vs = [y] /\ Den K H x (.list xs) /\ Den K H y d /\ PyData.canLayAll0 xs = true /\ d.canLay0 = true /\ d.depth <= 60 /\ xs.length <= 1000 /\ xs.findIdx? (fun z => z.eqv d) = some j /\ Q (.int j) H
section
variable {X : Cx}
theorem A7m (hu : X.A.units + 64 < cLine) : MtR X "list.index" (A1s X.K) := by
 intro pins s σ H x vs v us Q I rx rv h
 obtain ⟨y, d, xs, j, rfl, h1, h2, c1, c2, hd, hl, hj, q⟩ := h
 obtain ⟨u, rfl, ru⟩ := rv.one
 obtain ⟨as, r1⟩ := h1.reads I rx c1
 obtain ⟨bs, r2⟩ := h2.reads I ru c2
 cases r1 with
 | list e1 e2 e3 e4 =>
  rename_i l o vs n ns
  have em := PySem.SeqAt.readsAll_map xs _ _ c1 e4
  have hsz : vs.size = xs.length := by rw [<- em, List.length_map, Array.length_toList]
  obtain ⟨hjl, hjt, hjn⟩ := List.findIdx?_eq_some_iff_getElem.mp hj
  have at' : ∀ m (hm : m < vs.size), PySem.SeqAt.readOf s.heap vs[m] = xs[m]'(by omega) := fun m hm => by
   have : (vs.toList.map (PySem.SeqAt.readOf s.heap))[m]? = xs[m]? := by rw [em]
   rw [List.getElem?_map, Array.getElem?_toList, Array.getElem?_eq_getElem hm, List.getElem?_eq_getElem (by omega)] at this
   exact Option.some.inj this
  obtain ⟨cl, dd, dt, sl⟩ := o
  have e2' : cl = .type "list" := e2
  have e3' : dt = .seq vs n := e3
  subst e2' e3'
  refine call_meets PySem.F.slot_list_index ⟨_, e1, rfl⟩ PySem.F.entry_list_index (PySem.F.args_list_index_2 _ _) (PySem.SeqAt.list_indexAt l vs n dd sl u (fun z => PyData.eqv (PySem.SeqAt.readOf s.heap z) d) j (by omega) (by omega) (by rw [at' j (by omega)]; exact hjt) (fun m hm hlt => by
   rw [at' m hm]
   exact Bool.eq_false_iff.mpr (hjn m hlt))) ⟨e1, PySem.SeqAt.items_eqAt e4 r2 c1 c2 (by omega), ?_⟩
  exact ⟨.int j, H, I.tok _, ⟨_, rfl⟩, q⟩
theorem Q5 {K : PySem.W.Frag} (h : X.K = K) (hu : X.A.units + 64 < cLine) : MtR X "list.index" (A1s K) := by subst h; exact A7m hu
end
end L2
namespace Pu
open PySem L2 My Prf
def pIdx (po pa : PDt) (env : PEnv) (Q : SV -> PEnv -> Prop) : Prop := po env fun x e => asL x fun xs => pa e fun d e2 => PyData.canLayAll0 xs = true /\ d.canLay0 = true /\ d.depth <= 60 /\ xs.length <= 1000 /\ ∃ j : Nat, xs.findIdx? (fun z => z.eqv d) = some j /\ Q (.d (.int (j : Int))) e2
instance re_idx {K : Frag} {to ta : TE} {po pa : PDt} [ho : RW K to po] [ha : RD K ta pa] : RE K (tBM K "list" (A1s K) to (K6 ta tNil)) (pIdx po pa) where
 ok := by
  rintro c w env σ Qp Q rfl E p k
  refine ho.ok c w env σ _ _ rfl E p fun v x e1 w1 E1 l1 d1 q1 => ?_
  unfold asL at q1
  split at q1
  ·rename_i xs
   obtain ⟨a, us, e, h1, h2⟩ := d1.lst E1.wok
   subst e
   refine ⟨.inl ⟨rfl, _, h1⟩, ha.ok c w1 e1 σ _ _ rfl E1 q1 fun u y e2 w2 E2 l2 d2 q2 => ?_⟩
   obtain ⟨c1, c2, hd, hl, j, hj, q⟩ := q2
   exact ⟨u, y, xs, j, rfl, (d1.mono l2).den E2.wok, Den.same E2.wok.sub d2, c1, c2, hd, hl, hj, k _ _ e2 w2 ((Res.data E2 (.int _)).pre (l1.trans l2)) q⟩
  ·exact q1.elim
end Pu
namespace L2
open PySem PySem.Spec PyProof.Rows
section
variable {X : Cx}
end
end L2
namespace Pu
open PySem L2 My Prf
end Pu
namespace L2
open PySem PySem.Spec PyProof.Rows
section
variable {X : Cx}
end
end L2
namespace Pu
open PySem L2 My Prf
end Pu
namespace L2
open PySem PySem.Spec PyProof.Rows
def B04 (K : PySem.W.Frag) : List V -> Hp -> VK -> Prop := fun xs H Q => ∃ p ys, xs = [.ref p] /\ SqL K H p ys /\ ∀ l, H l = none -> Q (.ref l) (upd H l (.tup ys))
theorem A8o {X : Cx} {K : PySem.W.Frag} (h : X.K = K) : CallR X (.type "tuple") (B04 K) := by
 subst h
 intro pins s σ H xs us Q I r q
 obtain ⟨p, ys, e, hq, k⟩ := q
 exact Z2 pins s σ H xs us Q I r ⟨p, ys, e, .inl ⟨hq, k⟩⟩
end L2
namespace Pu
open PySem L2 My Prf
end Pu
namespace L2
open PySem PySem.Spec PyProof.Rows
def told : PyData -> Str
 | .str z => z
 | d => d.shown
section
variable {X : Cx}
end
end L2
namespace Pu
open PySem L2 My Prf
end Pu
namespace L2
open PySem PySem.Spec PyProof.Rows
section
variable {X : Cx} {pins : List (Addr × Obj)} {σ : St} {H : Hp} {s : Shared}
end
end L2
namespace L2
open PySem PySem.Spec PyProof.Rows
section
variable {X : Cx}
end
end L2
namespace Pu
open PySem L2 My Prf
end Pu
namespace L2
open PySem PySem.Spec PyProof.Rows
end L2
namespace Pu
open PySem L2 My Prf
end Pu
namespace L2
open PySem PySem.Spec PyProof.Rows
section
variable {prog : Program} {w : World} {A : Around} {E : Value -> Shared -> Prop}
end
end L2
namespace Pu
open PySem L2 My Prf
theorem A88 {K : Frag} {F H : Hpp} {a : Addr} {vs : List V} (s : Same F H) (h : SqL K F a vs) : SqL K H a vs := by
 rcases h with (h | ⟨o, h⟩) | h
 ·exact .inl (.inl (s _ _ h))
 ·exact .inl (.inr ⟨o, s _ _ h⟩)
 ·exact .inr h
end Pu
namespace L2
open PySem PySem.Spec PyProof.Rows
section
variable {M : Model} {A : Around} {E : Value -> Shared -> Prop} {s : Shared}
end
section
variable {P : Program} {w : World} {K : PySem.W.Frag} {mg : Str -> Option Value} {base : Heap} {N : List Str} {qual : Str} {scope : Scope} {f : Addr} {cd : Value} {A : Around} {outer : List Env} {s0 : Shared} {H0 : Hp} {E : XK}
end
end L2
namespace L2
open PySem PySem.Spec PyProof.Rows
section
variable {X : Cx} {scope : Scope} {cl : List (Str × Addr)} {N' : List Str} {cap : List (Option Nat)} {elt tg iter : Expr} {ifs : List Expr} {wi : TI} {g : TG} {tt : TT} {te : TE} {pos : Pos}
end
section
variable {P : Program} {w : World} {K : PySem.W.Frag} {mg : Str -> Option Value} {base : Heap} {N : List Str} {qual : Str} {dsc : Scope} {f : Addr} {cd : Value} {A : Around} {outer : List Env} {s0 : Shared} {H0 : Hp} {E : XK}
variable {scope : Scope} {cl : List (Str × Addr)} {N' : List Str} {cap : List (Option Nat)} {elt tg iter : Expr} {ifs : List Expr} {wi : TI} {g : TG} {tt : TT} {te : TE} {pos : Pos}
end
end L2
namespace L2
open PySem PySem.Spec PyProof.Rows
section
variable {X : Cx} {e : Expr} {t u : TE}
end
section
variable {P : Program} {w : World} {K : PySem.W.Frag} {mg : Str -> Option Value} {base : Heap} {N : List Str} {qual : Str} {dsc : Scope} {f : Addr} {cd : Value} {A : Around} {outer : List Env} {s0 : Shared} {H0 : Hp} {E : XK}
variable {scope : Scope} {cl : List (Str × Addr)} {N' : List Str} {cap : List (Option Nat)} {elt tg iter : Expr} {ifs : List Expr} {wi : TI} {g : TG} {tt : TT} {te : TE} {pos : Pos}
end
end L2
namespace Pu
open PySem PySem.Spec PyProof.Rows L2 My Prf
end Pu
namespace L2
open PySem PySem.Spec PyProof.Rows
def A5a : R2 := fun x y H Q => ∃ i n, x = .str i /\ y = .int n /\ (0 <= n /\ n <= 100) /\ i.length <= 100 /\ Q (.str (Txt.mul i n)) H
theorem B7h {x : Str} {n : Int} (h0 : 0 <= n) (h1 : n <= 100) (h : x.length <= 100) : MulOk x n := by
 refine ⟨?_, fun hn _ => ?_, fun hn _ => ?_⟩
 ·rw [Bool.or_eq_false_iff]
  exact ⟨decide_eq_false (by omega), decide_eq_false (by omega)⟩
 ·have hp : 0 < n := by omega
  have h2 : 100 * n <= 2 ^ 63 - 1 := by omega
  have h3 : (100 : Int) <= (2 ^ 63 - 1) / n := Int.le_ediv_of_mul_le hp h2
  omega
 ·have h2 : x.length * n.toNat <= 100 * 100 := Nat.mul_le_mul h (by omega)
  have h3 : 100 * 100 <= sizeLine := by rw [sizeLine_eq]; decide
  show decide _ = false
  exact decide_eq_false (by omega)
theorem B4d {X : Cx} : OpR X (binaryOp .Mult) A5a := by
 intro pins s σ H x y v u Q I rx ry h
 obtain ⟨i, n, rfl, rfl, ⟨h0, h1⟩, h2, q⟩ := h
 obtain ⟨t, rfl⟩ := rx
 obtain ⟨t2, rfl⟩ := ry
 exact PySem.SB.mul (B7h h0 h1 h2) fun t' k => ⟨.str _, H, I.tok _, ⟨t', rfl⟩, q⟩
end L2
namespace Pu
open PySem L2 My Prf
def B32 (x y : PyData) (Q : SV -> Prop) : Prop := asS x fun i => asI y fun n => (0 <= n /\ n <= 100) /\ i.length <= 100 /\ Q (.d (.str (Txt.mul i n)))
theorem A58 {i : Str} {n : Int} {Q : SV -> Prop} : B32 (.str i) (.int n) Q = ((0 <= n /\ n <= 100) /\ i.length <= 100 /\ Q (.d (.str (Txt.mul i n)))) := rfl
instance ro_mulS {K : Frag} : RO K A5a B32 where
 ok := by
  rintro c w env σ x y dx dy Qp Q rfl E vx vy p k
  unfold B32 asS at p
  split at p
  ·unfold asI at p
   split at p
   ·exact ⟨_, _, vx.strE, vy.intE, p.1, p.2.1, k _ _ w (Res.data E (.str _)) p.2.2⟩
   ·exact p.elim
  ·exact p.elim
end Pu
namespace L2
open PySem PySem.Spec PyProof.Rows
theorem B5h {b n : Nat} (h : n <= b) : Builtin.Slice.sliceAdjust none (some (b : Int)) 1 (n : Int) = (0, (n : Int)) := by
 have e1 : ¬ ((1 : Int) < 0) := by decide
 have e2 : ¬ ((b : Int) < 0) := by omega
 have e3 : min (b : Int) (n : Int) = n := by omega
 simp only [Builtin.Slice.sliceAdjust, e1, e2, if_false, e3]
theorem B3i (n : Nat) : Builtin.Slice.slicePlaces 0 (n : Int) 1 = n := by
 have e1 : (1 : Int) > 0 := by decide
 simp only [Builtin.Slice.slicePlaces, e1, if_true, Int.ediv_one]
 split <;> omega
section
variable {pg : Program} {wo : World} {ar : Around} {xe : Value -> Shared -> Prop} {st : Shared}
theorem B5f {q : Addr} {b n : Nat} {tk : Tok} {Q : Int × Int × Nat -> Shared -> Prop} (hs : st.heap.IsSliceOf q .none (.int b tk) .none) (hb : n <= b) (k : Q (0, 1, n) st) :
  wpAny (model pg wo) ar (Builtin.Slice.sliceApplied (.ref q) (pure (n : Int))) Q xe st := by
 obtain ⟨ob, g1, g2, g3⟩ := id hs
 unfold Builtin.Slice.sliceApplied Builtin.Slice.sliceFields
 refine wpAny_bind (wpAny_bind (wpAny_field g1 g3 (x := .none) rfl ?_))
 refine wpAny_bind (wpAny_field g1 g3 (x := .int b tk) rfl ?_)
 refine wpAny_bind (wpAny_field g1 g3 (x := .none) rfl ?_)
 refine wpAny_pure ?_
 refine wpAny_bind (slicePart_none ?_)
 show wpAny _ _ (if ((1 : Int) == 0) = true then _ else _) _ _ st
 rw [if_neg (by decide)]
 refine wpAny_bind (slicePart_none ?_)
 refine wpAny_bind (slicePart_int ?_)
 refine wpAny_bind (wpAny_pure ?_)
 show wpAny _ _ (match Builtin.Slice.sliceAdjust none (some (b : Int)) 1 (n : Int) with | (x, y) => pure (x, (1 : Int), Builtin.Slice.slicePlaces x y 1)) _ _ st
 rw [B5h hb]
 show wpAny _ _ (pure ((0 : Int), (1 : Int), Builtin.Slice.slicePlaces 0 (n : Int) 1)) _ _ st
 rw [B3i]
 exact wpAny_pure k
theorem B0e {a q : Addr} {its : Array Value} {b : Nat} {tk : Tok} {Q : Value -> Shared -> Prop} (ht : IsTup st.heap a its) (hs : st.heap.IsSliceOf q .none (.int b tk) .none) (hb : its.size <= b) (k : Q (.ref a) st) :
  wpAny (model pg wo) ar (getItem (.ref a) (.ref q)) Q xe st := by
 obtain ⟨ob, g1, g2, g3⟩ := id hs
 have tq : st.TypeIs (.ref q) "slice" := ⟨ob, g1, g2⟩
 unfold getItem
 try with_reducible refine wpAny_holding ?_
 first | refine wpAny_bind (wpAny_pure ?_) | skip
 refine wpAny_bind (wpAny_sequenceKey ht.typeIs (by decide) ?_)
 refine wpAny_bind (wpAny_callSpecial?_slot (name := Str.ofString "__getitem__") ht.typeIs slot_tuple_getitem ?_)
 refine wpAny_call_entry slot_tuple_getitem ht.typeIs entry_tuple_getitem ?_ (args_tuple_getitem _ _)
 show wpAny _ _ (Builtin.Tuple.tupleItemsOf (.ref a) >>= _) _ _ st
 refine wpAny_bind (tupleItemsOf_ ht ?_)
 refine wpAny_bind (wpAny_typeOf tq ?_)
 rw [if_pos (by decide)]
 refine wpAny_bind (B5f hs hb ?_)
 show wpAny _ _ (if ((0 : Int) == 0 && (1 : Int) == 1 && its.size == its.size) = true then _ else _) _ _ st
 rw [if_pos (by simp)]
 unfold Builtin.Tuple.tupleIsExact
 refine wpAny_bind (wpAny_bind (wpAny_typeOf ht.typeIs ?_))
 refine wpAny_pure ?_
 rw [if_pos (by decide)]
 first | exact wpAny_bind (wpAny_rule (wpAny_pure ⟨_, rfl, wpAny_pure k⟩)) | exact wpAny_bind (wpAny_pure (wpAny_pure ⟨_, rfl, wpAny_pure k⟩)) | exact wpAny_pure ⟨_, rfl, wpAny_pure k⟩
end
def rSlW (K : PySem.W.Frag) : V -> Option Int -> Option Int -> Hp -> VK -> Prop := fun x lo hi H Q => ∃ (a : Addr) (xs : List V) (b : Nat), x = .ref a /\ SqT K H a xs /\ lo = none /\ hi = some (b : Int) /\ xs.length <= b /\ Q (.ref a) H
theorem A89 {X : Cx} : SlR X (rSlW X.K) := by
 intro pins s σ H x v vl vu lo hi q Q I rx hs pl pu h
 obtain ⟨a, xs, b, rfl, hx, rfl, rfl, hb, k⟩ := h
 cases rx
 obtain ⟨its, r, ht, hz⟩ := I.tuple hx
 have hlen := r.length
 cases pl
 cases pu
 refine ⟨"tuple", _, slot_tuple_getitem.lookup, ht.typeIs, ?_⟩
 exact B0e ht hs (by rw [List.size_toArray]; omega) ⟨.ref a, H, I, rfl, k⟩
def B54 (K : PySem.W.Frag) : V -> Option Int -> Option Int -> Hp -> VK -> Prop := fun x lo hi H Q => rSlT K x lo hi H Q \/ rSlW K x lo hi H Q
theorem B20 {X : Cx} {K : PySem.W.Frag} (h : X.K = K) : SlR X (B54 K) := by
 subst h
 exact SlR.or B5u A89
end L2
namespace Pu
open PySem L2 My Prf
def pSlT (pa : PDt) (pl ph : PEnv -> (Option Int -> PEnv -> Prop) -> Prop) (env : PEnv) (Q : SV -> PEnv -> Prop) : Prop := pa env fun x e => pl e fun lo e1 => ph e1 fun hi e2 => ∃ (xs : LP) (b : Nat), x = .tuple xs /\ lo = none /\ hi = some (b : Int) /\ Q (.d (.tuple (xs.take b))) e2
instance re_slT {K : Frag} {te : TE} {tl th : TO} {pa : PDt} {pl ph : PEnv -> (Option Int -> PEnv -> Prop) -> Prop} [ha : RD K te pa] [hl : RP K tl pl] [hh : RP K th ph] : RE K (tSl (B54 K) te tl th) (pSlT pa pl ph) where
 ok := by
  rintro c w env σ Qp Q rfl E p k
  refine ha.ok c w env σ _ _ rfl E p fun v dx e1 w1 E1 l1 d1 q1 => ?_
  refine hl.ok c w1 e1 σ _ _ rfl E1 q1 fun lo e2 w2 E2 l2 q2 => ?_
  refine hh.ok c w2 e2 σ _ _ rfl E2 q2 fun hi e3 w3 E3 l3 q3 => ?_
  obtain ⟨xs, b, rfl, rfl, rfl, q⟩ := q3
  have d3 : Den c.K w3.F v (.tuple xs) := (d1.same l2.f).same l3.f
  obtain ⟨a, vs, e, g1, g2⟩ := VV.tup E3.wok (.inl d3)
  have hlen := g2.len
  by_cases hb : xs.length <= b
  ·refine .inr ⟨a, vs, b, e, g1, rfl, rfl, by rw [hlen]; exact hb, ?_⟩
   rw [List.take_of_length_le hb] at q
   rw [<- e]
   exact k _ _ e3 _ ((Res.data E3 d3).pre (l1.trans (l2.trans l3))) q
  ·refine .inl ⟨a, vs, e, g1, fun z => hb ?_, fun p hp => ?_⟩
   ·have := z.2
    rw [HT.sIx_nat] at this
    omega
   ·have ec : cutV vs none (some (b : Int)) = vs.take b := by
     unfold cutV
     rw [HT.sIx_none, HT.sIx_nat, List.drop_zero, Nat.sub_zero, Nat.min_eq_left (by omega)]
    rw [ec]
    exact k _ _ e3 _ ((Res.tup E3 hp (g2.take b)).pre (l1.trans (l2.trans l3))) q
end Pu
namespace Pu
open PySem L2 My Prf
def OT.part : OT -> Int -> Option OT
 | .leaf (.tuple xs), i => (L2.atI xs i).map .leaf
 | .leaf (.list xs), i => (L2.atI xs i).map .leaf
 | .nd _ _ k, i => (ixN k.len i).bind k.kid
 | _, _ => none
theorem B49 {c : Ct} {w w' : Wd} {v : V} {t : OT} (s : Same w.F w'.F) (h : VR c w v (.bt t)) : VR c w' v (.bt t) := ⟨h.1.sameF s, h.2⟩
theorem A5z {c : Ct} {w : Wd} {v : V} {t u : OT} {i : Int} (ok : w.Ok) (l : Le c.w0 w) (h : VR c w v (.bt t)) (e : t.part i = some u) : ∃ p vs x, v = .ref p /\ (SqL c.K w.H p vs \/ SqT c.K w.H p vs) /\ L2.atI vs i = some x /\ VR c w x (.bt u) := by
 unfold OT.part at e
 split at e
 ·obtain ⟨⟨v', ev, h⟩, _⟩ := h
  cases ev
  obtain ⟨x, hx, rfl⟩ := Option.map_eq_some_iff.mp e
  obtain ⟨p, vs, rfl, h1, h2⟩ := Den.tupE h
  obtain ⟨y, hy, hd⟩ := h2.atIE hx
  exact ⟨p, vs, y, rfl, .inr (SqT.same ok.sub h1), hy, ⟨_, rfl, hd⟩, fun q hq => nomatch hq⟩
 ·obtain ⟨⟨v', ev, h⟩, _⟩ := h
  cases ev
  obtain ⟨x, hx, rfl⟩ := Option.map_eq_some_iff.mp e
  obtain ⟨p, vs, rfl, h1, h2⟩ := Den.lstE h
  obtain ⟨y, hy, hd⟩ := h2.atIE hx
  exact ⟨p, vs, y, rfl, .inl (ok.sub.seq h1), hy, ⟨_, rfl, hd⟩, fun q hq => nomatch hq⟩
 ·rename_i b a k
  obtain ⟨⟨ev, us, h1, h2⟩, h3⟩ := h
  cases ev
  obtain ⟨j, hj, hk⟩ := Option.bind_eq_some_iff.mp e
  obtain ⟨x, hx, hu⟩ := h2.kid hk
  have hH := l.h _ _ h1 (h3 a (by simp [OT.fp]))
  refine ⟨a, us, x, rfl, ?_, ?_, hu, fun q hq => h3 q (List.mem_cons_of_mem _ (V9 hk hq))⟩
  ·cases b with
   | true => exact .inl (SqL.of hH)
   | false => exact .inr (SqT.of hH)
  ·unfold L2.atI
   rw [h2.len, hj]; exact hx
 ·cases e
class RTb (K : Frag) (te : TE) (pb : outParam (PEnv -> (OT -> PEnv -> Prop) -> Prop)) : Prop where
 ok : ∀ (c : Ct) (w : Wd) (env : PEnv) (σ : St) (Qp : OT -> PEnv -> Prop) (Q : VK), c.K = K -> EnvOk c w env σ -> pb env Qp -> (∀ v t env' w', EnvOk c w' env' σ -> Lw w w' -> VR c w' v (.bt t) -> Qp t env' -> Q v w'.H) -> te σ w.H Q
def B4k (o : Option (Option SV)) (env : PEnv) (Q : OT -> PEnv -> Prop) : Prop := match o with
 | some (some (.bt t)) => Q t env
 | some (some (.d x)) => Q (.leaf x) env
 | _ => False
def A9s (i : Nat) (env : PEnv) (Q : OT -> PEnv -> Prop) : Prop := B4k env[i]? env Q
theorem A7i {t : OT} {env : PEnv} {Q : OT -> PEnv -> Prop} : B4k (some (some (.bt t))) env Q = Q t env := rfl
instance rtb_var {K : Frag} {i : Nat} : RTb K (tVar i) (A9s i) where
 ok := by
  rintro c w env σ Qp Q rfl E p k
  unfold A9s B4k at p
  split at p
  ·rename_i t e
   obtain ⟨v, h1, h2⟩ := E.at' i _ e
   exact ⟨v, h1, k v _ env w E (Lw.refl w) h2 p⟩
  ·rename_i x e
   obtain ⟨v, h1, h2⟩ := E.at' i _ e
   exact ⟨v, h1, k v (.leaf x) env w E (Lw.refl w) ⟨⟨v, rfl, h2⟩, fun a z => nomatch z⟩ p⟩
  ·exact p.elim
def tPth (te : TE) : TE := te
def pPth (pb : PEnv -> (OT -> PEnv -> Prop) -> Prop) (pi : PDt) (env : PEnv) (Q : OT -> PEnv -> Prop) : Prop := pb env fun t e1 => pi e1 fun y e2 => asI y fun n => ∃ u, t.part n = some u /\ Q u e2
instance rtb_pth {K : Frag} {te ti : TE} {pb : PEnv -> (OT -> PEnv -> Prop) -> Prop} {pi : PDt} [hb : RTb K te pb] [hi : RW K ti pi] : RTb K (tPth (tOp (rIx K) te ti)) (pPth pb pi) where
 ok := by
  rintro c w env σ Qp Q rfl E p k
  refine hb.ok c w env σ _ _ rfl E p fun v t e1 w1 E1 l1 v1 q1 => ?_
  refine hi.ok c w1 e1 σ _ _ rfl E1 q1 fun y dy e2 w2 E2 l2 v2 q2 => ?_
  unfold asI at q2
  split at q2
  ·rename_i n
   obtain ⟨u, hu, q⟩ := q2
   obtain ⟨p, vs, x, rfl, hs, hx, hv⟩ := A5z E2.wok E2.le0 (B49 l2.f v1) hu
   have hn := v2.intE
   rcases hs with hs | hs
   ·exact .inl ⟨p, vs, n, x, rfl, hn, hs, hx, k x u e2 w2 E2 (l1.trans l2) hv q⟩
   ·exact .inr (.inl ⟨p, vs, n, x, rfl, hn, hs, hx, k x u e2 w2 E2 (l1.trans l2) hv q⟩)
  ·exact q2.elim
def OT.vw (t : OT) (k : PyData -> Prop) : Prop := match t with
 | .leaf x => k x
 | t => ∃ xs, t.sv = .bor xs /\ k (.list xs)
theorem B8s {a : Addr} {xs : LP} {k : PyData -> Prop} (h : k (.list xs)) : OT.vw (.nd true a (B8 xs)) k := ⟨xs, S8, h⟩
def pVw (pb : PEnv -> (OT -> PEnv -> Prop) -> Prop) (env : PEnv) (Q : PyData -> PEnv -> Prop) : Prop := pb env fun t e => t.vw fun x => Q x e
def pBr (pb : PEnv -> (OT -> PEnv -> Prop) -> Prop) (env : PEnv) (Q : LP -> PEnv -> Prop) : Prop := pb env fun t e => ∃ xs, t.sv = .bor xs /\ Q xs e
instance (priority := high) rl_pth {K : Frag} {te : TE} {pb : PEnv -> (OT -> PEnv -> Prop) -> Prop} [hb : RTb K (tPth te) pb] : RL K (tPth te) (pBr pb) where
 ok := by
  rintro c w env σ Qp Q rfl E p k
  refine hb.ok c w env σ _ _ rfl E p fun v t e1 w1 E1 l1 v1 q1 => ?_
  obtain ⟨xs, hs, q⟩ := q1
  have h2 := v1.sv
  rw [hs] at h2
  exact k _ _ e1 w1 E1 l1 h2 q
instance (priority := high) ri_pth {K : Frag} {te : TE} {pb : PEnv -> (OT -> PEnv -> Prop) -> Prop} [hb : RTb K (tPth te) pb] : RI K (iSq K (tPth te)) (pBr pb) where
 ok := by
  rintro c w env σ Qp R rfl E p k
  refine hb.ok c w env σ _ _ rfl E p fun v t e1 w1 E1 l1 v1 q1 => ?_
  obtain ⟨xs, hs, q⟩ := q1
  have h2 := v1.sv
  rw [hs] at h2
  obtain ⟨l, vs, rfl, d, st⟩ := A3t h2
  exact .inl ⟨l, rfl, ⟨vs, st w1 E1.wok E1.le0 (Same.refl _)⟩, k _ _ e1 w1 E1 l1 (K5 d st) q⟩
end Pu
namespace L2
open PySem PySem.Spec PyProof.Rows
theorem qPth {X : Cx} {e : Expr} {t : TE} (h : QE X e t) : QE X e (Pu.tPth t) := h
end L2
namespace Pu
open PySem L2 My Prf
def Wd.less (w : Wd) (p q : Addr) : Wd := ⟨w.M, fun a => if a = p \/ a = q then none else w.H a, w.F⟩
def Mut (K : Frag) (w : Wd) (l : Addr) (xs : LP) : Prop := ∃ vs, w.H l = some (.lst vs) /\ w.F l = none /\ ¬ w.M l /\ DenAll K w.F vs xs
abbrev PMu := LP -> LP -> LP -> (PyData -> LP -> LP -> Prop) -> Prop
def spMu (K : Frag) (nd : Nat) (psp : PMu) : Sp := fun vs H Q _ => ∃ (w : Wd) (us : List V) (xs ys zs : LP) (p q : Addr) (Qp : PyData -> LP -> LP -> Prop), w.H = H /\ w.Ok /\ vs = us ++ [.ref p, .ref q] /\ us.length = nd /\ p ≠ q /\ DenAll K w.F us xs /\ Mut K w p ys /\ Mut K w q zs /\ psp xs ys zs Qp /\
 ∀ v x ys' zs' w', w'.Ok -> Le (w.less p q) w' -> Den K w'.F v x -> Mut K w' p ys' -> Mut K w' q zs' -> Qp x ys' zs' -> Q v w'.H
theorem spMu.len {K : Frag} {nd : Nat} {psp : PMu} {n : Nat} (h : nd + 2 = n) : ∀ vs H Q E, spMu K nd psp vs H Q E -> vs.length = n := by
 rintro vs H Q E ⟨w, us, xs, ys, zs, p, q, Qp, _, _, rfl, hl, _⟩
 simp; omega
theorem A0t {w : Wd} {p q a : Addr} (h : a = p \/ a = q) : (w.less p q).H a = none := if_pos h
theorem Q6 {w : Wd} {p q a : Addr} (h : a ≠ p) (h' : a ≠ q) : (w.less p q).H a = w.H a := if_neg (fun z => z.elim h h')
theorem A0s {w : Wd} {p q a : Addr} {o : HO} (h : (w.less p q).H a = some o) : w.H a = some o /\ a ≠ p /\ a ≠ q := by
 unfold Wd.less at h
 dsimp only at h
 split at h
 ·cases h
 ·rename_i z; exact ⟨h, fun e => z (.inl e), fun e => z (.inr e)⟩
theorem B4r {w : Wd} {p q : Addr} : Le (w.less p q) w :=
 ⟨⟨Same.refl _, fun b o h _ => (A0s h).1, fun _ h => h, fun _ h => .inl h, fun b h => by
  cases e : (w.less p q).H b with
  | none => rfl
  | some o => rw [(A0s e).1] at h; cases h⟩, fun a o h => .inl h⟩
theorem Mut.fp {K : Frag} {w : Wd} {l : Addr} {xs : LP} (h : Mut K w l xs) : Tre K w (.nd true l (B8 xs)) [.ref l] /\ w.H l ≠ none /\ w.F l = none /\ ¬ w.M l := by
 obtain ⟨vs, h1, h2, h3, h4⟩ := h
 exact ⟨⟨rfl, vs, h1, M0 h4⟩, by rw [h1]; simp, h2, h3⟩
theorem fp_one {l a : Addr} {xs : LP} : a ∈ (OT.nd true l (B8 xs)).fp ↔ a = l := by
 rw [show (OT.nd true l (B8 xs)).fp = l :: (B8 xs).fp from rfl, L1]; simp
theorem B43 {l : Addr} {xs : LP} : (OT.nd true l (B8 xs)).fp.Nodup := by rw [show (OT.nd true l (B8 xs)).fp = l :: (B8 xs).fp from rfl, L1]; simp
theorem Mut.of {c : Ct} {w : Wd} {v : V} {l : Addr} {xs : LP} (h : VR c w v (.tr (.nd true l (B8 xs)))) : Mut c.K w l xs := by
 obtain ⟨⟨_, us, h1, h2⟩, h3⟩ := h
 obtain ⟨_, g2, g3, _⟩ := h3.1 l (fp_one.mpr rfl)
 exact ⟨us, h1, g2, g3, J2 h2⟩
def B0h (nd : Nat) (p q : Addr) (Qp : PyData -> LP -> LP -> Prop) (x : PyData) (e : PEnv) : Prop := ∃ ys zs, e[nd]? = some (some (.tr (.nd true p (B8 ys)))) /\ e[nd + 1]? = some (some (.tr (.nd true q (B8 zs)))) /\ Qp x ys zs
def rtMu (nd : Nat) (p q : Addr) (Qp : PyData -> LP -> LP -> Prop) (s : SV) (e : PEnv) : Prop := match s with
 | .d x => B0h nd p q Qp x e
 | _ => False
theorem B02 {nd : Nat} {p q : Addr} {Qp : PyData -> LP -> LP -> Prop} {x : PyData} {e : PEnv} : rtMu nd p q Qp (.d x) e = B0h nd p q Qp x e := rfl
theorem B45 {K : Frag} {ts : TS} {ps : PSt} [hs : RS K ts ps] {nd : Nat} {psp : PMu} {vs : List V} {H : Hpp} {Q : VK} {E : XK} {N : List Str} (h : spMu K nd psp vs H Q E)
  (hb : ∀ xs ys zs p q Qp, p ≠ q -> psp xs ys zs Qp -> ps ⟨B0h nd p q Qp .none, rtMu nd p q Qp, fun _ => False, fun _ => False⟩ (xs.map (fun x => some (.d x)) ++ (some (.tr (.nd true p (B8 ys))) :: some (.tr (.nd true q (B8 zs))) :: List.replicate (N.length - (nd + 2)) none))) : ts { nx := fun _ H' => Q .non H', rt := Q } (L2.start N vs) H := by
 obtain ⟨w, us, xs, ys, zs, p, q, Qp, rfl, ok, rfl, hl, hne, hd, m1, m2, hp, k⟩ := h
 have hxl : xs.length = nd := by rw [<- hl]; exact hd.len.symm
 have cas : ∀ (i : Nat) s, (xs.map (fun x => some (SV.d x)) ++ (some (.tr (.nd true p (B8 ys))) :: some (.tr (.nd true q (B8 zs))) :: List.replicate (N.length - (nd + 2)) none))[i]? = some (some s) ->
   (∃ x, xs[i]? = some x /\ s = .d x) \/ (i = nd /\ s = .tr (.nd true p (B8 ys))) \/ (i = nd + 1 /\ s = .tr (.nd true q (B8 zs))) := by
  intro i s e
  rw [List.getElem?_append] at e
  split at e
  ·rw [List.getElem?_map] at e
   cases q : xs[i]? with
   | none => rw [q] at e; cases e
   | some t => rw [q] at e; cases e; exact .inl ⟨t, rfl, rfl⟩
  ·rename_i z
   rw [List.length_map, hxl] at z e
   match hi : i - nd, e with
   | 0, e => cases e; exact .inr (.inl ⟨by omega, rfl⟩)
   | 1, e => cases e; exact .inr (.inr ⟨by omega, rfl⟩)
   | j + 2, e =>
    rw [List.getElem?_cons_succ, List.getElem?_cons_succ, List.getElem?_replicate] at e
    split at e <;> cases e
 have st0 : ∀ (i : Nat) u, us[i]? = some u -> (L2.start N (us ++ [.ref p, .ref q]))[i]? = some (some u) := fun i u e => by
  have := (List.getElem?_eq_some_iff.mp e).1
  unfold L2.start
  rw [List.getElem?_append_left (by simp; omega), List.getElem?_map, List.getElem?_append_left (by omega), e]; rfl
 have st1 : (L2.start N (us ++ [.ref p, .ref q]))[nd]? = some (some (.ref p)) := by
  unfold L2.start
  rw [List.getElem?_append_left (by simp; omega), List.getElem?_map, List.getElem?_append_right (by omega), hl]; simp
 have st2 : (L2.start N (us ++ [.ref p, .ref q]))[nd + 1]? = some (some (.ref q)) := by
  unfold L2.start
  rw [List.getElem?_append_left (by simp; omega), List.getElem?_map, List.getElem?_append_right (by omega), hl]; simp
 have vr1 : VR ⟨K, w.less p q, noZ⟩ w (.ref p) (.tr (.nd true p (B8 ys))) := ⟨m1.fp.1, fun a ha => by rw [fp_one.mp ha]; exact ⟨m1.fp.2.1, m1.fp.2.2.1, m1.fp.2.2.2, A0t (.inl rfl)⟩, B43⟩
 have vr2 : VR ⟨K, w.less p q, noZ⟩ w (.ref q) (.tr (.nd true q (B8 zs))) := ⟨m2.fp.1, fun a ha => by rw [fp_one.mp ha]; exact ⟨m2.fp.2.1, m2.fp.2.2.1, m2.fp.2.2.2, A0t (.inr rfl)⟩, B43⟩
 have fin : ∀ x env σ w', EnvOk ⟨K, w.less p q, noZ⟩ w' env σ -> B0h nd p q Qp x env -> ∀ v, Den K w'.F v x -> Q v w'.H := fun x env σ w' E' ⟨ys', zs', e1, e2, qp⟩ v hv => by
  obtain ⟨u1, _, g1⟩ := E'.at' _ _ e1
  obtain ⟨u2, _, g2⟩ := E'.at' _ _ e2
  exact k v x ys' zs' w' E'.wok E'.le0 hv (Mut.of g1) (Mut.of g2) qp
 refine hs.ok ⟨K, w.less p q, noZ⟩ w _ (L2.start N (us ++ [.ref p, .ref q])) _ { nx := fun _ H' => Q .non H', rt := Q } rfl ⟨ok, B4r, by simp [L2.start, hxl, hl], fun i s e => ?_, fun i j s t v u a e e' g g' f f' => ?_, fun a z => z.elim, fun a j t u z => z.elim⟩ ⟨fun env σ w' E' _ q => fin _ env σ w' E' q _ .non, fun v s env σ w' E' h r hq => ?_, fun _ _ _ _ _ z => False.elim z, fun _ _ _ _ _ z => False.elim z⟩ (hb xs ys zs p q Qp hne hp)
 ·rcases cas i s e with ⟨x, hx, rfl⟩ | ⟨rfl, rfl⟩ | ⟨rfl, rfl⟩
  ·obtain ⟨u, hu, hx2⟩ := hd.at hx
   exact ⟨u, st0 i u hu, hx2⟩
  ·exact ⟨_, st1, vr1⟩
  ·exact ⟨_, st2, vr2⟩
 ·rcases cas i s e with ⟨x, hx, rfl⟩ | ⟨rfl, rfl⟩ | ⟨rfl, rfl⟩
  ·exact f.elim
  ·rcases cas j t e' with ⟨x, hx, rfl⟩ | ⟨rfl, rfl⟩ | ⟨rfl, rfl⟩
   ·exact f'.elim
   ·rfl
   ·exact absurd ((fp_one.mp f).symm.trans (fp_one.mp f')) hne
  ·rcases cas j t e' with ⟨x, hx, rfl⟩ | ⟨rfl, rfl⟩ | ⟨rfl, rfl⟩
   ·exact f'.elim
   ·exact absurd ((fp_one.mp f').symm.trans (fp_one.mp f)) hne
   ·rfl
 ·have hq' : rtMu nd p q Qp s env := hq
  unfold rtMu at hq'
  split at hq'
  ·exact fin _ env σ w' E' hq' v h
  ·exact hq'.elim
def tMu (i : Nat) : TE := tVar i
def oMu (o : Option (Option SV)) (k : Addr -> LP -> Prop) : Prop := match o with
 | some (some (.tr t)) => ∃ a xs, t = .nd true a (B8 xs) /\ k a xs
 | _ => False
theorem B83 {a : Addr} {xs : LP} {k : Addr -> LP -> Prop} (h : k a xs) : oMu (some (some (.tr (.nd true a (B8 xs))))) k := ⟨a, xs, rfl, h⟩
theorem A4i {xs ys : LP} (h : B8 xs = B8 ys) : xs = ys := by
 have := congrArg OT.dat h
 rwa [I0, I0] at this
theorem B69 {a : Addr} {xs : LP} {k : Addr -> LP -> Prop} : oMu (some (some (.tr (.nd true a (B8 xs))))) k = k a xs :=
 propext ⟨fun ⟨_, _, e, h⟩ => by
  have e1 := (OT.nd.inj e).2.1
  have e2 := A4i (OT.nd.inj e).2.2
  subst e1; subst e2; exact h, B83⟩
def pMuV (i : Nat) (env : PEnv) (Q : PyData -> PEnv -> Prop) : Prop := oMu env[i]? fun _ xs => Q (.list xs) env
instance (priority := high) rw_mu {K : Frag} {i : Nat} : RW K (tMu i) (pMuV i) where
 ok := by
  rintro c w env σ Qp Q rfl E p k
  unfold pMuV oMu at p
  split at p
  ·rename_i t e
   obtain ⟨a, xs, rfl, p⟩ := p
   obtain ⟨v, h1, h2⟩ := E.at' i _ e
   obtain ⟨vs, g1, g2, g3, g4⟩ := Mut.of h2
   have ev : v = .ref a := List.singleton_inj.mp h2.1.1
   exact ⟨v, h1, k v _ env w E (Lw.refl w) (.inr ⟨a, vs, xs, ev, rfl, g1, g3, g4⟩) p⟩
  ·exact p.elim
def A53 (pd : PDt) (i : Nat) (pi : PDt) (D : PEnds) (env : PEnv) : Prop := pd env fun x e => oMu e[i]? fun _ _ => pi e fun y e2 => asI y fun n => oMu e2[i]? fun a xs => ∃ j, ixN xs.length n = some j /\ D.nx (e2.set i (some (.tr (.nd true a (B8 (xs.set j x))))))
instance (priority := high) rs_setMu {K : Frag} {i : Nat} {te ti : TE} {pd pi : PDt} [he : RD K te pd] [hi : RW K ti pi] : RS K (tAsg te (gSub (tMu i) ti A9e)) (A53 pd i pi) where
 ok := by
  rintro c w env σ Dp D rfl E h p
  refine he.ok c w env σ _ _ rfl E p fun v x e1 w1 E1 l1 d1 q1 => ?_
  unfold oMu at q1
  split at q1
  ·rename_i t0 e0
   obtain ⟨a0, xs0, rfl, q1⟩ := q1
   obtain ⟨o, g0, h2⟩ := E1.at' i _ e0
   refine ⟨_, g0, hi.ok c w1 e1 σ _ _ rfl E1 q1 fun u y e2 w2 E2 l2 d2 q2 => ?_⟩
   unfold asI at q2
   split at q2
   ·rename_i n
    split at q2
    ·rename_i t e
     obtain ⟨a, xs, rfl, j, hj, q2⟩ := q2
     obtain ⟨o', g0', h2'⟩ := E2.at' i _ e
     rw [g0] at g0'; cases g0'
     obtain ⟨vs', k1, k2, k3, k5⟩ := Mut.of h2'
     have ev : o = .ref a := List.singleton_inj.mp h2'.1.1
     subst ev
     have hn := d2.intE
     refine ⟨a, vs', n, j, rfl, hn, k1, by rw [k5.len]; exact hj, ?_⟩
     refine h.nx _ σ ⟨w2.M, upd w2.H a (.lst (vs'.set j v)), w2.F⟩ (E2.writeAt (s' := .tr (.nd true a (B8 (xs.set j x)))) e g0 (fp_one.mpr rfl) (fun b hb => fp_one.mpr (fp_one.mp hb)) ⟨⟨rfl, _, D6, M0 (DenAll.setAt (Den.same l2.f d1) j k5)⟩, fun b hb => ?_, B43⟩) (l1.f.trans l2.f) q2
     rw [fp_one.mp hb]
     obtain ⟨z1, z2, z3, z4⟩ := h2'.2.1 a (fp_one.mpr rfl)
     exact ⟨fun z => z1 (L8 z), z2, z3, z4⟩
    ·exact q2.elim
   ·exact q2.elim
  ·exact q1.elim
class RA2 (K : Frag) (nd : Nat) (ta : TA) (pa : outParam (PEnv -> (LP -> Nat -> Nat -> PEnv -> Prop) -> Prop)) : Prop where
 ok : ∀ (c : Ct) (w : Wd) (env : PEnv) (σ : St) (Qp : LP -> Nat -> Nat -> PEnv -> Prop) (Q : List V -> Hpp -> Prop), c.K = K -> EnvOk c w env σ -> pa env Qp -> (∀ vs xs i j u v env' w', EnvOk c w' env' σ -> Lw w w' -> vs.length = nd -> DenAll K w'.F vs xs -> σ[i]? = some (some u) -> σ[j]? = some (some v) -> Qp xs i j env' -> Q (vs ++ [u, v]) w'.H) -> ta σ w.H Q
def is2 (o o' : Option (Option SV)) (k : Prop) : Prop := match o, o' with
 | some (some (.own _)), some (some (.own _)) => k
 | _, _ => False
theorem B7w {xs ys : LP} {k : Prop} : is2 (some (some (.own xs))) (some (some (.own ys))) k = k := rfl
def pA2 (i j : Nat) (env : PEnv) (Q : LP -> Nat -> Nat -> PEnv -> Prop) : Prop := is2 env[i]? env[j]? (Q [] i j env)
instance ra2_nil {K : Frag} {i j : Nat} : RA2 K 0 (K6 (tVar i) (K6 (tVar j) tNil)) (pA2 i j) where
 ok := by
  rintro c w env σ Qp Q rfl E p k
  unfold pA2 is2 at p
  split at p
  ·rename_i xs ys e1 e2
   obtain ⟨u, h1, _⟩ := E.at' i _ e1
   obtain ⟨v, h2, _⟩ := E.at' j _ e2
   exact ⟨u, h1, v, h2, k [] [] i j u v env w E (Lw.refl w) rfl .nil h1 h2 p⟩
  ·exact p.elim
def pC2 (pd : PDt) (pr : PEnv -> (LP -> Nat -> Nat -> PEnv -> Prop) -> Prop) (env : PEnv) (Q : LP -> Nat -> Nat -> PEnv -> Prop) : Prop := pd env fun x e1 => pr e1 fun xs i j e2 => Q (x :: xs) i j e2
instance ra2_cons {K : Frag} {n : Nat} {ta : TE} {tr : TA} {pd : PDt} {pr : PEnv -> (LP -> Nat -> Nat -> PEnv -> Prop) -> Prop} [ha : RD K ta pd] [hr : RA2 K n tr pr] : RA2 K (n + 1) (K6 ta tr) (pC2 pd pr) where
 ok := by
  rintro c w env σ Qp Q rfl E p k
  refine ha.ok c w env σ _ _ rfl E p fun x dx e1 w1 E1 l1 v1 q1 => ?_
  refine hr.ok c w1 e1 σ _ _ rfl E1 q1 fun vs xs i j u v e2 w2 E2 l2 hl d h1 h2 q2 => ?_
  exact k (x :: vs) (dx :: xs) i j u v e2 w2 E2 (l1.trans l2) (by simp [hl]) (.cons (Den.same l2.f v1) d) h1 h2 q2
theorem Tre.less {K : Frag} {w : Wd} {p q : Addr} : ∀ {t : OT} {vs : List V}, Tre K w t vs -> p ∉ t.fp -> q ∉ t.fp -> Tre K (w.less p q) t vs
 | .leaf _, _, h, _, _ => h
 | .nd _ a _, _, ⟨e, ys, h, k⟩, n, m => ⟨e, ys, by rw [Q6 (fun z => n (by simp [OT.fp, z])) (fun z => m (by simp [OT.fp, z]))]; exact h, Tre.less k (fun z => n (by simp [OT.fp, z])) fun z => m (by simp [OT.fp, z])⟩
 | .nil, _, e, _, _ => e
 | .cons _ _, _, ⟨v, r, e, h, t⟩, n, m => ⟨v, r, e, Tre.less h (fun z => n (by simp [OT.fp, z])) fun z => m (by simp [OT.fp, z]), Tre.less t (fun z => n (by simp [OT.fp, z])) fun z => m (by simp [OT.fp, z])⟩
theorem VR.less {c : Ct} {w : Wd} {v : V} {p q : Addr} : ∀ {s : SV}, VR c w v s -> ¬ s.foot v p -> ¬ s.foot v q -> VR c (w.less p q) v s
 | .d _, h, _, _ => h
 | .own _, ⟨l', vs, e, k1, k2, k3, k4, k5⟩, n, m => ⟨l', vs, e, by rw [Q6 (fun z => n (by rw [<- z]; exact e)) (fun z => m (by rw [<- z]; exact e))]; exact k1, k2, k3, k4, k5⟩
 | .bor _, h, _, _ => h
 | .st, h, _, _ => h
 | .bt _, h, _, _ => h
 | .al _, h, _, _ => h
 | .tr _, ⟨h, o, d⟩, n, m => ⟨h.less n m, fun a ha => ⟨by rw [Q6 (fun z => n (by rw [<- z]; exact ha)) (fun z => m (by rw [<- z]; exact ha))]; exact (o a ha).1, (o a ha).2⟩, d⟩
theorem EnvOk.mut {c : Ct} {w w' : Wd} {env : PEnv} {σ : St} {i j : Nat} {p q : Addr} {ys zs ys' zs' : LP} (E : EnvOk c w env σ) (ei : env[i]? = some (some (.own ys))) (ej : env[j]? = some (some (.own zs))) (si : σ[i]? = some (some (.ref p))) (sj : σ[j]? = some (some (.ref q)))
  (ok : w'.Ok) (l : Le (w.less p q) w') (m1 : Mut c.K w' p ys') (m2 : Mut c.K w' q zs') : EnvOk c w' ((env.set i (some (.own ys'))).set j (some (.own zs'))) σ := by
 obtain ⟨v1, hv1, hV1⟩ := E.at' i _ ei
 rw [si] at hv1; cases hv1
 obtain ⟨v2, hv2, hV2⟩ := E.at' j _ ej
 rw [sj] at hv2; cases hv2
 obtain ⟨_, _, _, z1⟩ := hV1.foot (a := p) rfl
 obtain ⟨_, _, _, z2⟩ := hV2.foot (a := q) rfl
 have le0 : Le c.w0 (w.less p q) := ⟨⟨E.le0.f, fun b o h n => by
   rw [Q6 (fun z => by rw [z, z1] at h; cases h) (fun z => by rw [z, z2] at h; cases h)]; exact E.le0.h b o h n, E.le0.m, E.le0.mn, fun b h => by
   by_cases y : b = p \/ b = q
   ·rcases y with rfl | rfl
    ·exact z1
    ·exact z2
   ·rw [Q6 (fun z => y (.inl z)) (fun z => y (.inr z))] at h; exact E.le0.dom b h⟩, E.le0.n⟩
 have hd : ∀ {k : Nat} {t : SV}, ((env.set i (some (.own ys'))).set j (some (.own zs')))[k]? = some (some t) -> (k = j /\ t = .own zs') \/ (k = i /\ t = .own ys') \/ (k ≠ i /\ k ≠ j /\ env[k]? = some (some t)) := by
  intro k t q
  rw [List.getElem?_set] at q
  split at q
  ·rename_i e
   split at q
   ·cases q; exact .inl ⟨e.symm, rfl⟩
   ·cases q
  ·rename_i e
   rw [List.getElem?_set] at q
   split at q
   ·rename_i e'
    split at q
    ·cases q; exact .inr (.inl ⟨e'.symm, rfl⟩)
    ·cases q
   ·rename_i e'
    exact .inr (.inr ⟨fun z => e' z.symm, fun z => e z.symm, q⟩)
 have fo : ∀ {k : Nat} {t : SV} {u : V} {a : Addr}, ((env.set i (some (.own ys'))).set j (some (.own zs')))[k]? = some (some t) -> σ[k]? = some (some u) -> t.foot u a -> ∃ s, env[k]? = some (some s) /\ s.foot u a := by
  intro k t u a q g f
  rcases hd q with ⟨rfl, rfl⟩ | ⟨rfl, rfl⟩ | ⟨_, _, q⟩
  ·exact ⟨_, ej, f⟩
  ·exact ⟨_, ei, f⟩
  ·exact ⟨_, q, f⟩
 refine ⟨ok, le0.trans l, by simpa using E.len, fun k t q => ?_, fun k k' s t v u a q1 q2 q3 q4 f1 f2 => ?_, fun a za => ?_, fun a k t u za q q' f => ?_⟩
 ·rcases hd q with ⟨rfl, rfl⟩ | ⟨rfl, rfl⟩ | ⟨n1, n2, q⟩
  ·obtain ⟨vs, h1, h2, h3, h4⟩ := m2
   exact ⟨_, sj, _, vs, rfl, h1, h2, h3, z2, h4⟩
  ·obtain ⟨vs, h1, h2, h3, h4⟩ := m1
   exact ⟨_, si, _, vs, rfl, h1, h2, h3, z1, h4⟩
  ·obtain ⟨u, g1, g2⟩ := E.at' k t q
   exact ⟨u, g1, (g2.less (fun f => n1 (E.own k i _ _ _ _ p q ei g1 si f rfl)) (fun f => n2 (E.own k j _ _ _ _ _ q ej g1 sj f rfl))).mono l⟩
 ·obtain ⟨s', p1, g1⟩ := fo q1 q3 f1
  obtain ⟨t', p2, g2⟩ := fo q2 q4 f2
  exact E.own k k' _ _ _ _ a p1 p2 q3 q4 g1 g2
 ·obtain ⟨y1, y2, y3⟩ := E.zf a za
  have n1 : a ≠ p := fun z => E.zo a i _ _ za ei si (by rw [z]; rfl)
  have n2 : a ≠ q := fun z => E.zo a j _ _ za ej sj (by rw [z]; rfl)
  have y2' : (w.less p q).H a ≠ none := by rw [Q6 n1 n2]; exact y2
  exact ⟨l.fnone y1 y2', l.hsome y2', l.nm y2' y3⟩
 ·obtain ⟨s', p1, g1⟩ := fo q q' f
  exact E.zo a k _ _ za p1 q' g1
def own2 (o o' : Option (Option SV)) (k : LP -> LP -> Prop) : Prop := match o, o' with
 | some (some (.own xs)), some (some (.own ys)) => k xs ys
 | _, _ => False
theorem B1t {xs ys : LP} {k : LP -> LP -> Prop} : own2 (some (some (.own xs))) (some (some (.own ys))) k = k xs ys := rfl
def pMu (psp : PMu) (pa : PEnv -> (LP -> Nat -> Nat -> PEnv -> Prop) -> Prop) (env : PEnv) (Q : PyData -> PEnv -> Prop) : Prop := pa env fun xs i j e => i ≠ j /\ own2 e[i]? e[j]? fun ys zs => psp xs ys zs fun x ys' zs' => Q x ((e.set i (some (.own ys'))).set j (some (.own zs')))
theorem B8e {K : Frag} {nd : Nat} {psp : PMu} {E0 : XK} {ta : TA} {pa : PEnv -> (LP -> Nat -> Nat -> PEnv -> Prop) -> Prop} [ha : RA2 K nd ta pa] {c : Ct} {w : Wd} {env : PEnv} {σ : St} {Qp : PyData -> PEnv -> Prop} {Q : VK} (hK : c.K = K) (E : EnvOk c w env σ) (p : pMu psp pa env Qp)
  (k : ∀ v x env' w', EnvOk c w' env' σ -> Same w.F w'.F -> Den K w'.F v x -> Qp x env' -> Q v w'.H) : A1o (spMu K nd psp) [] E0 ta σ w.H Q := by
 subst hK
 refine ha.ok c w env σ _ _ rfl E p fun vs xs i j u v e1 w1 E1 l1 hl d s1 s2 q1 => ?_
 rw [List.append_nil]
 obtain ⟨hij, q1⟩ := q1
 unfold own2 at q1
 split at q1
 ·rename_i ys zs ei ej
  obtain ⟨u', g1, l, vs1, rfl, a1, a2, a3, a4, a5⟩ := E1.at' i _ ei
  rw [s1] at g1; cases g1
  obtain ⟨v', g2, l', vs2, rfl, b1, b2, b3, b4, b5⟩ := E1.at' j _ ej
  rw [s2] at g2; cases g2
  refine ⟨w1, vs, xs, ys, zs, l, l', _, rfl, E1.wok, rfl, hl, fun z => hij (E1.own i j _ _ _ _ l ei ej s1 s2 rfl (by rw [z]; rfl)), d, ⟨vs1, a1, a2, a3, a5⟩, ⟨vs2, b1, b2, b3, b5⟩, q1, fun v x ys' zs' w' ok le hv m1 m2 q => ?_⟩
  exact k v x _ w' (E1.mut ei ej s1 s2 ok le m1 m2) (l1.f.trans le.f) hv q
 ·exact q1.elim
def A6s (psp : PMu) (pa : PEnv -> (LP -> Nat -> Nat -> PEnv -> Prop) -> Prop) (m : Nat) (D : PEnds) (env : PEnv) : Prop := pMu psp pa env fun x e => D.nx (e.set m (some (.d x)))
instance (priority := high) rs_asgMu {K : Frag} {nd : Nat} {psp : PMu} {E0 : XK} {ta : TA} {pa : PEnv -> (LP -> Nat -> Nat -> PEnv -> Prop) -> Prop} {m : Nat} [ha : RA2 K nd ta pa] : RS K (tAsg (A1o (spMu K nd psp) [] E0 ta) (R5 m)) (A6s psp pa m) where
 ok := by
  rintro c w env σ Dp D rfl E h p
  exact B8e rfl E p fun v x e1 w1 E1 s1 hv q => h.nx _ _ w1 (E1.set (s := .d x) hv (fun _ z => nomatch z)) s1 q
end Pu
namespace L2
open PySem PySem.Spec PyProof.Rows
theorem qMu {X : Cx} {e : Expr} {i : Nat} (h : QE X e (tVar i)) : QE X e (Pu.tMu i) := h
end L2
namespace Pu
open PySem L2 My Prf
def tKp (i : Nat) : TE := tVar i
theorem A9t {c : Ct} {w : Wd} {env : PEnv} {σ : St} {i : Nat} {xs : LP} (E : EnvOk c w env σ) (e : env[i]? = some (some (.own xs))) : ∃ a vs, σ[i]? = some (some (.ref a)) /\ SqL c.K w.H a vs /\ Walk ⟨c.K, w, c.Z⟩ w (Itl c.K a) xs := by
 obtain ⟨v, h1, l, vs, rfl, g1, g2, g3, g4, g5⟩ := E.at' i _ e
 exact ⟨l, vs, h1, SqL.of g1, K5 (c := ⟨c.K, w, c.Z⟩) g5 fun w' ok l' s => SqL.of (l'.h _ _ g1 g3)⟩
def P5 (i : Nat) (pg : PyData -> PEnv -> (PEnv -> Prop) -> Prop) (pt : PTt) (pd : PDt) (cap : List (Option Nat)) (j : Nat) (D : PEnds) (env : PEnv) : Prop := Z3 env[i]? fun xs => xs.length < 1000000 /\ N2 xs pg pt pd (J7 cap env) fun ys => D.nx (env.set j (some (.own ys)))
instance (priority := high) rs_setCompK {K : Frag} {i j : Nat} {g : TG} {tt : TT} {te : TE} {cap : List (Option Nat)} {pg : PyData -> PEnv -> (PEnv -> Prop) -> Prop} {pt : PTt} {pd : PDt} [hg : RG K g pg] [ht : RT K tt pt] [he : RD K te pd] : RS K (R7 (iSq K (tKp i)) g tt te cap j) (P5 i pg pt pd cap j) where
 ok := by
  rintro c w env σ Dp D rfl E h p
  unfold P5 Z3 at p
  split at p
  ·rename_i xs e
   obtain ⟨a, vs, h1, h2, wk⟩ := A9t E e
   refine ⟨_, h1, .inl ⟨a, rfl, ⟨vs, h2⟩, fun D' hD => ?_⟩⟩
   exact A19 (pg := pg) (pt := pt) (pd := pd) rfl E wk p.1 p.2 hD fun w' ys R q' => h.nx _ _ w' (R.ev.set R.val R.new) R.lw.f q'
  ·exact p.elim
end Pu
namespace L2
open PySem PySem.Spec PyProof.Rows
theorem qKp {X : Cx} {e : Expr} {i : Nat} (h : QE X e (tVar i)) : QE X e (Pu.tKp i) := h
end L2
namespace Pu
open PySem L2 My Prf
theorem B3r {K : Frag} {w : Wd} {v : V} {t u : OT} {i : Int} (ok : w.Ok) (h : TV K w v t) (e : t.part i = some u) : ∃ p vs x, v = .ref p /\ (SqL K w.H p vs \/ SqT K w.H p vs) /\ L2.atI vs i = some x /\ TV K w x u := by
 obtain ⟨p, vs, x, e1, h1, h2, h3⟩ := A5z (c := ⟨K, w, noZ⟩) ok (Le.refl w) (show VR ⟨K, w, noZ⟩ w v (.bt t) from h) e
 exact ⟨p, vs, x, e1, h1, h2, h3⟩
def tPo (te : TE) : TE := te
instance (priority := high) rtr_po {K : Frag} {te ti : TE} {pb : PEnv -> (OT -> PEnv -> Prop) -> Prop} {pi : PDt} [hb : RTr K te pb] [hi : RW K ti pi] : RTr K (tPo (tOp (rIx K) te ti)) (pPth pb pi) where
 ok := by
  rintro c w env σ Qp Q rfl E p k
  refine hb.ok c w env σ _ _ rfl E p fun v t e1 w1 E1 l1 v1 q1 => ?_
  refine hi.ok c w1 e1 σ _ _ rfl E1 q1 fun y dy e2 w2 E2 l2 v2 q2 => ?_
  unfold asI at q2
  split at q2
  ·rename_i n
   obtain ⟨u, hu, q⟩ := q2
   obtain ⟨p, vs, x, rfl, hs, hx, hv⟩ := B3r E2.wok (v1.mono l2 v1.1.has) hu
   have hn := v2.intE
   rcases hs with hs | hs
   ·exact .inl ⟨p, vs, n, x, rfl, hn, hs, hx, k x u e2 w2 E2 (l1.trans l2) hv q⟩
   ·exact .inr (.inl ⟨p, vs, n, x, rfl, hn, hs, hx, k x u e2 w2 E2 (l1.trans l2) hv q⟩)
  ·exact q2.elim
theorem B5r : ∀ {t : OT} {xs : LP}, t.sv = .bor xs -> t = .leaf (.list xs) \/ ∃ a, t = .nd true a (B8 xs)
 | .leaf (.list ys), xs, h => by cases (show SV.bor ys = .bor xs from h); exact .inl rfl
 | .nd true a k, xs, h => by
  have h' : (match k.lvs with | some xs => SV.bor xs | none => .bt (.nd true a k)) = .bor xs := h
  cases q : k.lvs with
  | none => rw [q] at h'; cases h'
  | some ys => rw [q] at h'; cases h'; exact .inr ⟨a, by rw [M2 q]⟩
theorem TV.vw {K : Frag} {w : Wd} {v : V} {t : OT} {k : PyData -> Prop} (h : TV K w v t) (q : t.vw k) : ∃ x, VV K w v x /\ k x := by
 have go : ∀ {t : OT} {xs : LP}, TV K w v t -> t.sv = .bor xs -> VV K w v (.list xs) := fun {t xs} h e => by
  rcases B5r e with rfl | ⟨a, rfl⟩
  ·obtain ⟨⟨v', ev, h⟩, _⟩ := h
   cases ev; exact .inl h
  ·obtain ⟨⟨ev, us, h1, h2⟩, h3⟩ := h
   cases ev
   exact .inr ⟨a, us, xs, rfl, rfl, h1, h3 a (by simp [OT.fp]), J2 h2⟩
 unfold OT.vw at q
 split at q
 ·obtain ⟨⟨v', ev, h⟩, _⟩ := h
  cases ev; exact ⟨_, .inl h, q⟩
 ·obtain ⟨xs, e, q⟩ := q
  exact ⟨_, go h e, q⟩
instance (priority := high) rw_po {K : Frag} {te : TE} {pb : PEnv -> (OT -> PEnv -> Prop) -> Prop} [hb : RTr K (tPo te) pb] : RW K (tPo te) (pVw pb) where
 ok := by
  rintro c w env σ Qp Q rfl E p k
  refine hb.ok c w env σ _ _ rfl E p fun v t e1 w1 E1 l1 v1 q1 => ?_
  obtain ⟨x, hx, q⟩ := v1.vw q1
  exact k _ _ e1 w1 E1 l1 hx q
def OT.setK : OT -> Nat -> OT -> OT
 | .cons _ t, 0, x => .cons x t
 | .cons h t, n + 1, x => .cons h (t.setK n x)
 | t, _, _ => t
theorem A72 : ∀ {ks : OT} {j : Nat} {u : OT}, ks.kid j = some u -> ∃ A B, ks.fp = A ++ u.fp ++ B /\ ∀ x, (ks.setK j x).fp = A ++ x.fp ++ B
 | .cons _ t, 0, _, q => by cases q; exact ⟨[], t.fp, rfl, fun x => rfl⟩
 | .cons h t, n + 1, u, q => by
  obtain ⟨A, B, e1, e2⟩ := A72 (ks := t) (j := n) (u := u) q
  exact ⟨h.fp ++ A, B, by show h.fp ++ t.fp = _; rw [e1]; simp, fun x => by show h.fp ++ (t.setK n x).fp = _; rw [e2]; simp⟩
theorem Tre.agree {K : Frag} {w w' : Wd} (f : Same w.F w'.F) : ∀ {t : OT} {vs : List V}, Tre K w t vs -> (∀ a ∈ t.fp, ∀ o, w.H a = some o -> w'.H a = some o) -> Tre K w' t vs
 | .leaf _, _, ⟨v, e, h⟩, _ => ⟨v, e, Den.same f h⟩
 | .nd _ p _, _, ⟨e, us, h, k⟩, n => ⟨e, us, n p (by simp [OT.fp]) _ h, Tre.agree f k fun q hq => n q (by simp [OT.fp, hq])⟩
 | .nil, _, e, _ => e
 | .cons _ _, _, ⟨v, r, e, h, t⟩, n => ⟨v, r, e, Tre.agree f h fun q hq => n q (by simp [OT.fp, hq]), Tre.agree f t fun q hq => n q (by simp [OT.fp, hq])⟩
theorem Tre.setK {K : Frag} {w w' : Wd} {x : OT} {v : V} (f : Same w.F w'.F) : ∀ {ks : OT} {us : List V} {j : Nat} {u : OT}, Tre K w ks us -> ks.kid j = some u -> us[j]? = some v -> ks.fp.Nodup -> (∀ a o, w.H a = some o -> a ∉ u.fp -> w'.H a = some o) -> Tre K w' x [v] -> Tre K w' (ks.setK j x) us
 | .cons h t, _, 0, u, ⟨y, r, rfl, hh, ht⟩, q, ev, nd, ag, hx => by
  cases q
  have : y = v := by simpa using ev
  subst this
  have d := (List.nodup_append.mp nd).2.2
  exact ⟨y, r, rfl, hx, ht.agree f fun a ha o ho => ag a o ho fun z => d a z a ha rfl⟩
 | .cons h t, _, n + 1, u, ⟨y, r, rfl, hh, ht⟩, q, ev, nd, ag, hx => by
  obtain ⟨_, n2, d⟩ := List.nodup_append.mp nd
  have q' : t.kid n = some u := q
  refine ⟨y, r, rfl, hh.agree f fun a ha o ho => ag a o ho fun z => d a ha a (V9 q' z) rfl, ?_⟩
  exact Tre.setK f (ks := t) (j := n) ht q' (by simpa using ev) n2 ag hx
structure Sub (K : Frag) (w : Wd) (T u : OT) (r : OT -> OT) (v0 v : V) : Prop where
 tre : Tre K w u [v]
 re : ∀ (w' : Wd) x, (∀ a o, w.H a = some o -> a ∉ u.fp -> w'.H a = some o) -> Same w.F w'.F -> Tre K w' x [v] -> Tre K w' (r x) [v0]
 fp : ∃ A B, T.fp = A ++ u.fp ++ B /\ ∀ x, (r x).fp = A ++ x.fp ++ B
theorem EnvOk.change {c : Ct} {w : Wd} {env : PEnv} {σ : St} {i : Nat} {T u : OT} {r : OT -> OT} {v0 v : V} {a : Addr} {xs ys : LP} {us : List V} (E : EnvOk c w env σ) (e : env[i]? = some (some (.tr T))) (hv : σ[i]? = some (some v0)) (S : Sub c.K w T u r v0 v) (hu : u = .nd true a (B8 xs)) (hd : DenAll c.K w.F us ys) :
  EnvOk c ⟨w.M, upd w.H a (.lst us), w.F⟩ (env.set i (some (.tr (r (.nd true a (B8 ys)))))) σ := by
 subst hu
 obtain ⟨v', hv', VRT⟩ := E.at' i _ e
 rw [hv] at hv'; cases hv'
 obtain ⟨tre, re, A, B, eT, er⟩ := S
 obtain ⟨ev, _⟩ := tre
 cases ev
 have ef : (r (.nd true a (B8 ys))).fp = T.fp := by
  rw [er, eT, show (OT.nd true a (B8 ys)).fp = a :: (B8 ys).fp from rfl, show (OT.nd true a (B8 xs)).fp = a :: (B8 xs).fp from rfl, L1, L1]
 have haT : a ∈ T.fp := by rw [eT]; simp [OT.fp]
 refine E.writeAt (s' := .tr (r (.nd true a (B8 ys)))) e hv haT (fun b hb => by show b ∈ T.fp; rw [<- ef]; exact hb) ⟨re _ _ (fun b o ho hn => ?_) (Same.refl _) ⟨rfl, us, D6, M0 hd⟩, fun b hb => ?_, by rw [ef]; exact VRT.2.2⟩
 ·show upd w.H a _ b = _
  rw [D8 (fun z => hn (by rw [z]; simp [OT.fp]))]; exact ho
 ·rw [ef] at hb
  obtain ⟨z1, z2⟩ := VRT.2.1 b hb
  exact ⟨fun z => z1 (L8 z), z2⟩
theorem Sub.lst {K : Frag} {w : Wd} {T u : OT} {r : OT -> OT} {v0 v : V} {a : Addr} {xs : LP} (S : Sub K w T u r v0 v) (hu : u = .nd true a (B8 xs)) : v = .ref a /\ ∃ us, w.H a = some (.lst us) /\ DenAll K w.F us xs := by
 subst hu
 obtain ⟨⟨ev, us, h1, h2⟩, _⟩ := S
 cases ev
 exact ⟨rfl, us, h1, J2 h2⟩
def OT.slot : OT -> SV
 | .leaf x => .d x
 | .nd true a k => match k.lvs with
  | some xs => .own xs
  | none => .tr (.nd true a k)
 | t => .tr t
def tUn (te : TE) : TE := te
class RHs (K : Frag) (md : List Md) (ta : TA) (pa : outParam PAr) : Prop where
 ok : ∀ (c : Ct) (w : Wd) (env : PEnv) (σ : St) (Qp : LP -> PEnv -> Prop) (Q : List V -> Hpp -> Prop), c.K = K -> EnvOk c w env σ -> pa env Qp -> (∀ vs xs env' w', EnvOk c w' env' σ -> Lw w w' -> DenAll K (hm w') vs xs -> (∀ w'', w''.F = hm w' -> Args K w'' md vs (xs.map .d)) -> Qp xs env' -> Q vs w'.H) -> ta σ w.H Q
instance rhs_nil {K : Frag} : RHs K [] tNil pNil := ⟨fun c w env σ Qp Q _ E p k => k [] [] env w E (Lw.refl w) .nil (fun _ _ => .nil) p⟩
instance rhs_cons {K : Frag} {md : List Md} {ta : TE} {tr : TA} {pa : PDt} {pr : PAr} [ha : RH K ta pa] [hr : RHs K md tr pr] : RHs K (.dat :: md) (K6 ta tr) (A6o pa pr) where
 ok := by
  rintro c w env σ Qp Q rfl E p k
  refine ha.ok c w env σ _ _ rfl E p fun x dx e1 w1 E1 l1 v1 q1 => ?_
  refine hr.ok c w1 e1 σ _ _ rfl E1 q1 fun vs xs e2 w2 E2 l2 d2 a2 q2 => ?_
  have v1' : Den c.K (hm w2) x dx := Den.same (B4z l2) v1
  exact k _ _ e2 w2 E2 (l1.trans l2) (.cons v1' d2) (fun w'' e => .dat (by rw [e]; exact v1') (a2 w'' e)) q2
def B0z (sp : Sp) (dvs : List V) (X : XK) (t : TA) : TE := A1o sp dvs X t
def A6r (psp : PSp) (pa : PAr) (env : PEnv) (Q : SV -> PEnv -> Prop) : Prop := pa env fun xs e => psp (xs.map .d) fun s => ∃ b, s = .d (.bool b) /\ Q (.d (.bool b)) e
instance re_callN {K : Frag} {md : List Md} {psp : PSp} {X : XK} {ta : TA} {pa : PAr} [ha : RHs K md ta pa] : RE K (B0z (spOf K md psp) [] X ta) (A6r psp pa) where
 ok := by
  rintro c w env σ Qp Q rfl E p k
  refine ha.ok c w env σ _ _ rfl E p fun vs xs e2 w2 E2 l2 d2 a2 q2 => ?_
  rw [List.append_nil]
  refine ⟨⟨w2.M, w2.H, hm w2⟩, xs.map .d, _, rfl, ⟨fun a o h => (A77 h).1, E2.wok.st, fun a ha => ?_⟩, a2 _ rfl, q2, fun v s w' ok l h r q => ?_⟩
  ·show hm w2 a = none
   unfold hm; rw [if_pos ha]
  ·obtain ⟨b, rfl, q⟩ := q
   have ev : v = .bl b := Den.blE h
   have fl : ∀ a o, w2.F a = some o -> w2.H a = some o /\ ¬ w2.M a := fun a o e => ⟨E2.wok.sub a o e, fun z => by rw [E2.wok.nf a z] at e; cases e⟩
   have le : Le w2 ⟨w'.M, w'.H, w2.F⟩ := ⟨⟨Same.refl _, l.h, l.m, l.mn, l.dom⟩, fun a o e => .inl e⟩
   have ok' : Wd.Ok ⟨w'.M, w'.H, w2.F⟩ := ⟨fun a o e => l.h a o (fl a o e).1 (fl a o e).2, ok.st, fun a ha => by
    cases e : w2.F a with
    | none => rfl
    | some o =>
     obtain ⟨f1, f2⟩ := fl a o e
     rcases l.mn a ha with z | z
     ·exact absurd z f2
     ·have z' : w2.H a = none := z
      rw [f1] at z'; cases z'⟩
   exact k v (.d (.bool b)) e2 ⟨w'.M, w'.H, w2.F⟩ ⟨E2.mono ok' le, l2.trans le.toLw, by rw [ev]; exact .bl b, fun _ z => (nomatch z), rfl⟩ q
def kids : List OT -> OT
 | [] => .nil
 | t :: r => .cons t (kids r)
theorem J6 {t : OT} : ∀ {ts : List OT}, (kids (ts ++ [t])).fp = (kids ts).fp ++ t.fp
 | [] => by show t.fp ++ [] = [] ++ t.fp; simp
 | s :: r => by show s.fp ++ (kids (r ++ [t])).fp = (s.fp ++ (kids r).fp) ++ t.fp; rw [J6]; simp
theorem Tre.snoc {K : Frag} {w : Wd} {t : OT} {v : V} (h : Tre K w t [v]) : ∀ {ts : List OT} {vs : List V}, Tre K w (kids ts) vs -> Tre K w (kids (ts ++ [t])) (vs ++ [v])
 | [], _, e => by cases (show _ = [] from e); exact ⟨v, [], rfl, h, rfl⟩
 | _ :: _, _, ⟨x, r, rfl, hx, hr⟩ => ⟨x, r ++ [v], rfl, hx, Tre.snoc h hr⟩
def A29 (xs : LP) (pg : PyData -> PEnv -> (PEnv -> Prop) -> Prop) (pt : PTt) (pe : PX) (e0 : PEnv) (Fin : List OT -> Prop) : Prop :=
 ∃ Pv : Nat -> PEnv -> List OT -> Prop, Pv 0 e0 [] /\ (∀ i x e ys, xs[i]? = some x -> Pv i e ys -> pg x e fun e2 => pt e2 fun b e3 => if b = true then pe e3 fun s e4 => s.ot fun t => Pv (i + 1) e4 (ys ++ [t]) else Pv (i + 1) e3 ys) /\ ∀ e ys, Pv xs.length e ys -> Fin ys
theorem B0k {K : Frag} {g : TG} {tt : TT} {te : TE} {pg : PyData -> PEnv -> (PEnv -> Prop) -> Prop} {pt : PTt} {pe : PX} [hg : RG K g pg] [ht : RT K tt pt] [he : RE K te pe] {c : Ct} {w : Wd} {env : PEnv} {σ : St} {J : It} {xs : LP} {cap : List (Option Nat)} {D : Addr} {Fp : List OT -> Prop} {Fin : Hpp -> Prop}
  (hK : c.K = K) (E : EnvOk c w env σ) (wk : Walk ⟨c.K, w, c.Z⟩ w J xs) (hn : xs.length < 1000000) (p : A29 xs pg pt pe (J7 cap env) Fp) (hD : w.H D = none) (k : ∀ w' ts, Res c w env σ w' (.ref D) (.tr (.nd true D (kids ts))) -> Fp ts -> Fin w'.H) : A04 J g tt te D Fin (capσ cap σ) w.H := by
 subst hK
 obtain ⟨Pv, p0, step, fin⟩ := p
 refine ⟨fun i m σ' H' vs => m = xs.length - i /\ i <= xs.length /\ ∃ e w' ts, w'.H = H' /\ EnvOk ⟨c.K, w, fun a => a = D \/ a ∈ (kids ts).fp⟩ w' e σ' /\ w'.H D = some (.lst vs) /\ vs.length <= i /\ Tre c.K w' (kids ts) vs /\ (∀ a ∈ (kids ts).fp, w.H a = none /\ a ≠ D) /\ (kids ts).fp.Nodup /\ Pv i e ts,
  ⟨xs.length, rfl, Nat.zero_le _, J7 cap env, w.lay D (.lst []), [], rfl, ?_, D6, Nat.le_refl _, rfl, (fun a z => nomatch z), List.nodup_nil, p0⟩, ?_⟩
 ·have E0 := E.cap cap hD
  exact ⟨E0.wok, E0.le0, E0.len, fun i s q => let ⟨v, h1, h2⟩ := E0.at' i s q; ⟨v, h1, h2.reZ⟩, E0.own, fun a z => z.elim (E0.zf a) fun z => (nomatch z), fun a j t u z => z.elim (E0.zo a j t u) fun z => (nomatch z)⟩
 rintro i m σ1 _ vs ⟨rfl, hle, e1, w1, ts, rfl, E1, h1, hvl, d1, fr, nd, q1⟩
 refine ⟨h1, Z7 (by omega), ?_⟩
 obtain ⟨go, stop, yld⟩ := wk w1 E1.wok E1.le0 E1.le0.f
 by_cases hlt : i < xs.length
 ·refine .inr ⟨go i hlt, fun v H' y => ?_⟩
  obtain ⟨w1', x, rfl, ok1', le1, hx, dx⟩ := yld i v H' y hlt
  have nm1 : ∀ a ∈ (kids ts).fp, ¬ w1.M a := fun a ha => (E1.zf a (.inr ha)).2.2
  replace h1 := le1.h _ _ h1 (E1.zf D (.inl rfl)).2.2
  replace E1 := E1.mono ok1' le1
  replace d1 := d1.mono le1.toLw nm1
  clear yld go stop y le1 ok1' nm1
  generalize w1' = w1 at E1 h1 d1 dx
  have cc : Ct := ⟨c.K, w, fun a => a = D \/ a ∈ (kids ts).fp⟩
  refine hg.ok ⟨c.K, w, fun a => a = D \/ a ∈ (kids ts).fp⟩ w1 e1 σ1 v x _ _ rfl E1 dx (step i x e1 ts hx q1) fun e2 σ2 E2 q2 => ?_
  refine ht.ok ⟨c.K, w, fun a => a = D \/ a ∈ (kids ts).fp⟩ w1 e2 σ2 _ _ rfl E2 q2 fun b e3 w3 E3 l3 q3 => ?_
  have nmD : ∀ a, a = D \/ a ∈ (kids ts).fp -> ¬ w1.M a := fun a z => (E2.zf a z).2.2
  have h3 := l3.h _ _ h1 (nmD D (.inl rfl))
  have d3 := d1.mono l3 fun a ha => nmD a (.inr ha)
  cases b with
  | true =>
   refine he.ok ⟨c.K, w, fun a => a = D \/ a ∈ (kids ts).fp⟩ w3 e3 σ2 _ _ rfl E3 q3 fun y' s e4 w4 R q4 => ?_
   have nm3 : ∀ a, a = D \/ a ∈ (kids ts).fp -> ¬ w3.M a := fun a z => (E3.zf a z).2.2
   have h4 := R.lw.h _ _ h3 (nm3 D (.inl rfl))
   have d4 := d3.mono R.lw fun a ha => nm3 a (.inr ha)
   obtain ⟨t, tt', ho, hn', q5⟩ := R.ot q4
   have E4 := R.ev
   have nD : D ∉ (kids ts).fp := fun z => (fr D z).2 rfl
   have ntD : D ∉ t.fp := fun z => (hn' D z).2 (.inl rfl)
   refine ⟨vs, h4, Z7 (by omega), xs.length - (i + 1), by omega, rfl, hlt, e4, ⟨w4.M, upd w4.H D (.lst (vs ++ [y'])), w4.F⟩, ts ++ [t], rfl, ?_, D6, by rw [List.length_append]; simp; exact hvl, ?_, fun a ha => ?_, ?_, q5⟩
   ·have E5 := E4.writeZ (us := vs ++ [y']) (.inl rfl) hD
    refine ⟨E5.wok, E5.le0, E5.len, fun i s q => let ⟨v, h1, h2⟩ := E5.at' i s q; ⟨v, h1, h2.reZ⟩, E5.own, fun a z => ?_, fun a j s u z q q' => ?_⟩
    ·rcases z with z | z
     ·exact E5.zf a (.inl z)
     ·rw [J6, List.mem_append] at z
      rcases z with z | z
      ·exact E5.zf a (.inr z)
      ·obtain ⟨o1, o2, o3, _⟩ := ho.1 a z
       exact ⟨o2, fun y => o1 (L8 y), o3⟩
    ·rcases z with z | z
     ·exact E5.zo a j s u (.inl z) q q'
     ·rw [J6, List.mem_append] at z
      rcases z with z | z
      ·exact E5.zo a j s u (.inr z) q q'
      ·exact (hn' a z).1 j s u q q'
   ·exact Tre.snoc (tt'.writ ntD) (d4.writ nD)
   ·rw [J6, List.mem_append] at ha
    rcases ha with z | z
    ·exact fr a z
    ·exact ⟨(ho.1 a z).2.2.2, fun y => ntD (y ▸ z)⟩
   ·rw [J6]
    exact List.nodup_append.mpr ⟨nd, ho.2, fun a ha b hb e => (hn' b hb).2 (.inr (e ▸ ha))⟩
  | false =>
   exact ⟨xs.length - (i + 1), by omega, rfl, hlt, e3, w3, ts, rfl, E3, h3, by omega, d3, fr, nd, q3⟩
 ·have e : i = xs.length := by omega
  subst e
  obtain ⟨z1, z2, z3⟩ := E1.zf D (.inl rfl)
  have one : ∀ a, a ∈ (OT.nd true D (kids ts)).fp -> (a = D \/ a ∈ (kids ts).fp) /\ w.H a = none := fun a ha => by
   rcases List.mem_cons.mp (show a ∈ D :: (kids ts).fp from ha) with rfl | z
   ·exact ⟨.inl rfl, hD⟩
   ·exact ⟨.inr z, (fr a z).1⟩
  refine .inl ⟨stop, k w1 ts ⟨E.mono E1.wok E1.le0, E1.le0.toLw, ⟨⟨rfl, vs, h1, d1⟩, fun a ha => ?_, List.nodup_cons.mpr ⟨fun z => (fr D z).2 rfl, nd⟩⟩, fun a f => E.fresh (one a f).2, rfl⟩ (fin e1 ts q1)⟩
  obtain ⟨g1, g2⟩ := one a ha
  obtain ⟨y1, y2, y3⟩ := E1.zf a g1
  exact ⟨y2, y1, y3, E.le0.dom a g2⟩
def tCmT (t : TE) : TE := t
def pCmT (pi : PAr) (pg : PyData -> PEnv -> (PEnv -> Prop) -> Prop) (pt : PTt) (pe : PX) (cap : List (Option Nat)) (env : PEnv) (Q : SV -> PEnv -> Prop) : Prop := pi env fun xs e => xs.length < 1000000 /\ A29 xs pg pt pe (J7 cap e) fun ts => ∀ a, Q (.tr (.nd true a (kids ts))) e
instance re_cmT {K : Frag} {wi : TI} {g : TG} {tt : TT} {te : TE} {cap : List (Option Nat)} {pi : PAr} {pg : PyData -> PEnv -> (PEnv -> Prop) -> Prop} {pt : PTt} {pe : PX} [hi : RI K wi pi] [hg : RG K g pg] [ht : RT K tt pt] [he : RE K te pe] : RE K (tCmT (A87 wi g tt te cap)) (pCmT pi pg pt pe cap) where
 ok := by
  rintro c w env σ Qp Q rfl E p k
  refine hi.ok c w env σ _ _ rfl E p fun J xs e1 w1 E1 l1 wk ⟨hn, q⟩ D hD => ?_
  exact B0k (pg := pg) (pt := pt) (pe := pe) rfl E1 (wk.up E1.le0) hn q hD fun w' ts R q' => k _ _ e1 w' (R.pre l1) (q' D)
def OT.tup (a : Addr) (k : OT) : SV := match k.lvs with
 | some xs => .d (.tuple xs)
 | none => .tr (.nd false a k)
def B3u (pe : PX) (env : PEnv) (Q : SV -> PEnv -> Prop) : Prop := pe env fun s e => ∃ a k, s = .tr (.nd true a k) /\ ∀ p, Q (OT.tup p k) e
instance (priority := high) re_tupCm {K : Frag} {te : TE} {pe : PX} [he : RE K (tCmT te) pe] : RE K (tCB (B04 K) (K6 (tCmT te) tNil)) (B3u pe) where
 ok := by
  rintro c w env σ Qp Q rfl E p k
  refine he.ok c w env σ _ _ rfl E p fun v s e1 w1 R q => ?_
  obtain ⟨a, ks, rfl, q⟩ := q
  obtain ⟨⟨ev, us, h1, h2⟩, o, d⟩ := R.val
  cases ev
  refine ⟨a, us, rfl, SqL.of h1, fun p hp => ?_⟩
  have q := q p
  obtain ⟨d1, d2⟩ := List.nodup_cons.mp (show (a :: ks.fp).Nodup from d)
  unfold OT.tup at q
  split at q
  ·rename_i xs e
   rw [M2 e] at h2
   exact k _ _ e1 _ ((Res.tup R.ev hp (J2 h2)).pre R.lw) q
  ·refine k _ _ e1 _ ((Res.laid (b := false) R.ev hp h2 ⟨fun x hx => ?_, d2⟩ fun x hx => ?_).pre R.lw) q
   ·exact o x (List.mem_cons_of_mem _ hx)
   ·exact R.new x (List.mem_cons_of_mem _ hx)
end Pu
namespace L2
open PySem PySem.Spec PyProof.Rows
section
variable {X : Cx} {e : Expr}
theorem qPo {t : TE} (h : QE X e t) : QE X e (Pu.tPo t) := h
theorem qCmT {t : TE} (h : QE X e t) : QE X e (Pu.tCmT t) := h
theorem B08 {sp : Sp} {dvs : List V} {E : XK} {t : TA} (h : QE X e (A1o sp dvs E t)) : QE X e (Pu.B0z sp dvs E t) := h
end
end L2
namespace Pu
open PySem L2 My Prf
theorem Sub.root {c : Ct} {w : Wd} {T : OT} {v0 : V} (h : VR c w v0 (.tr T)) : Sub c.K w T T (fun x => x) v0 v0 := ⟨h.1, fun w' x _ _ h => h, [], [], by simp, fun x => by simp⟩
theorem Sub.ix {c : Ct} {w : Wd} {T : OT} {r : OT -> OT} {v0 v : V} {b : Bool} {a : Addr} {ks u : OT} {j : Nat} (VRT : VR c w v0 (.tr T)) (S : Sub c.K w T (.nd b a ks) r v0 v) (hk : ks.kid j = some u) : ∃ us x, v = .ref a /\ w.H a = some (ho b us) /\ us.length = ks.len /\ us[j]? = some x /\ Sub c.K w T u (fun x => r (.nd b a (ks.setK j x))) v0 x := by
 obtain ⟨⟨ev, us, hH, hks⟩, re, A, B, eT, er⟩ := S
 cases ev
 obtain ⟨x, hx, hu⟩ := hks.kid hk
 have nT := VRT.2.2
 rw [eT] at nT
 have nd : (OT.nd b a ks).fp.Nodup := (List.nodup_append.mp (List.nodup_append.mp nT).1).2.1
 obtain ⟨ha, nk⟩ := List.nodup_cons.mp (show (a :: ks.fp).Nodup from nd)
 obtain ⟨A', B', e1, e2⟩ := A72 hk
 refine ⟨us, x, rfl, hH, hks.len, hx, hu, fun w' y ag f hy => ?_, A ++ a :: A', B' ++ B, ?_, fun y => ?_⟩
 ·refine re w' _ (fun a' o ho hn => ag a' o ho fun z => hn (List.mem_cons_of_mem _ (V9 hk z))) f ⟨rfl, us, ag a _ hH fun z => ha (V9 hk z), ?_⟩
  exact Tre.setK f hks hk hx nk ag hy
 ·rw [eT, show (OT.nd b a ks).fp = a :: ks.fp from rfl, e1]; simp
 ·rw [er, show (OT.nd b a (ks.setK j y)).fp = a :: (ks.setK j y).fp from rfl, e2]; simp
def alAt (o : Option (Option SV)) (n : Nat) (k : Addr -> LP -> (OT -> OT) -> Prop) : Prop := asTr o fun T => ∃ b p ks a xs, T = .nd b p ks /\ ks.kid n = some (.nd true a (B8 xs)) /\ k a xs fun x => .nd b p (ks.setK n x)
theorem A83 {c : Ct} {w : Wd} {env : PEnv} {σ : St} {i n : Nat} {k : Addr -> LP -> (OT -> OT) -> Prop} (E : EnvOk c w env σ) (h : alAt env[i]? n k) : ∃ T v0 a xs r us, env[i]? = some (some (.tr T)) /\ σ[i]? = some (some v0) /\ Sub c.K w T (.nd true a (B8 xs)) r v0 (.ref a) /\ w.H a = some (.lst us) /\ ¬ w.M a /\ DenAll c.K w.F us xs /\ k a xs r /\ ∃ b p ks vs, v0 = .ref p /\ T = .nd b p ks /\ w.H p = some (ho b vs) /\ vs.length = ks.len /\ vs[n]? = some (.ref a) := by
 unfold alAt asTr at h
 split at h
 ·rename_i T e
  obtain ⟨b, p, ks, a, xs, rfl, hk, q⟩ := h
  obtain ⟨v0, h1, h2⟩ := E.at' i _ e
  obtain ⟨vs, x, rfl, hH, hl, hx, S⟩ := Sub.ix h2 (Sub.root h2) hk
  obtain ⟨rfl, us, g1, g2⟩ := S.lst rfl
  have ha : a ∈ (OT.nd b p ks).fp := List.mem_cons_of_mem _ (V9 hk (by simp [OT.fp]))
  exact ⟨_, _, a, xs, _, us, e, h1, S, g1, (h2.2.1 a ha).2.2.1, g2, q, b, p, ks, vs, rfl, rfl, hH, hl, hx⟩
 ·exact h.elim
class Fact' (p : Prop) : Prop where
 ok : p
instance fact0 : Fact' ((0 : Int) = ((0 : Nat) : Int)) := ⟨rfl⟩
def tAl (i n : Nat) (te : TE) : TE := te
def A6t (i n j : Nat) (D : PEnds) (env : PEnv) : Prop := alAt env[i]? n fun a _ _ => D.nx (env.set j (some (.al a)))
instance (priority := high) rs_asgAl {K : Frag} {i n j : Nat} {m : Int} [hm : Fact' (m = (n : Int))] : RS K (tAsg (tAl i n (tOp (rIx K) (tVar i) (tC (.int m)))) (R5 j)) (A6t i n j) where
 ok := by
  rintro c w env σ Dp D rfl E h p
  obtain ⟨T, v0, a, xs, r, us, e, hv, S, g1, nm, g2, q, b, p', ks, vs, rfl, rfl, hH, hl, hx⟩ := A83 E p
  have hm := hm.ok
  subst hm
  have E2 := E.set (i := j) (v := .ref a) (s := .al a) rfl (fun _ z => nomatch z)
  have fin := h.nx _ _ w E2 (Same.refl _) q
  refine ⟨_, hv, ?_⟩
  cases b with
  | true => exact .inl ⟨p', vs, n, .ref a, rfl, rfl, SqL.of hH, A71 hx, fin⟩
  | false => exact .inr (.inl ⟨p', vs, n, .ref a, rfl, rfl, SqT.of hH, A71 hx, fin⟩)
def tAr (i n j : Nat) : TE := tVar j
def isAl (o : Option (Option SV)) (k : Addr -> Prop) : Prop := match o with
 | some (some (.al a)) => k a
 | _ => False
theorem B2b {a : Addr} {k : Addr -> Prop} : isAl (some (some (.al a))) k = k a := rfl
def pArV (i n j : Nat) (env : PEnv) (Q : PyData -> PEnv -> Prop) : Prop := isAl env[j]? fun a => alAt env[i]? n fun a' xs _ => a' = a /\ Q (.list xs) env
instance (priority := high) rw_ar {K : Frag} {i n j : Nat} : RW K (tAr i n j) (pArV i n j) where
 ok := by
  rintro c w env σ Qp Q rfl E p k
  unfold pArV isAl at p
  split at p
  ·rename_i a ea
   obtain ⟨T, v0, a', xs, r, us, e, hv, S, g1, nm, g2, ⟨rfl, q⟩, _⟩ := A83 E p
   obtain ⟨v, h1, h2⟩ := E.at' j _ ea
   have h2' : v = .ref a' := h2
   subst h2'
   exact ⟨_, h1, k _ _ env w E (Lw.refl w) (.inr ⟨a', us, xs, rfl, rfl, g1, nm, g2⟩) q⟩
  ·exact p.elim
def A54 (pd : PDt) (i n j : Nat) (pi : PDt) (D : PEnds) (env : PEnv) : Prop := pd env fun x e => isAl e[j]? fun _ => pi e fun y e2 => asI y fun m => isAl e2[j]? fun a => alAt e2[i]? n fun a' xs r => a' = a /\ ∃ l, ixN xs.length m = some l /\ D.nx (e2.set i (some (.tr (r (.nd true a (B8 (xs.set l x)))))))
instance (priority := high) rs_setAl {K : Frag} {i n j : Nat} {te ti : TE} {pd pi : PDt} [he : RD K te pd] [hi : RW K ti pi] : RS K (tAsg te (gSub (tAr i n j) ti A9e)) (A54 pd i n j pi) where
 ok := by
  rintro c w env σ Dp D rfl E h p
  refine he.ok c w env σ _ _ rfl E p fun v x e1 w1 E1 l1 d1 q1 => ?_
  unfold isAl at q1
  split at q1
  ·rename_i a0 ea0
   obtain ⟨o, g0, h0⟩ := E1.at' j _ ea0
   refine ⟨_, g0, hi.ok c w1 e1 σ _ _ rfl E1 q1 fun u y e2 w2 E2 l2 d2 q2 => ?_⟩
   unfold asI at q2
   split at q2
   ·rename_i m
    split at q2
    ·rename_i a ea
     obtain ⟨T, v0, a', xs, r, us, e, hv, S, g1, nm, g2, ⟨rfl, l, hl, q⟩, _⟩ := A83 E2 q2
     obtain ⟨o', g0', h2⟩ := E2.at' j _ ea
     rw [g0] at g0'; cases g0'
     have h2' : o = .ref a' := h2
     subst h2'
     have hn := d2.intE
     exact ⟨a', us, m, l, rfl, hn, g1, by rw [g2.len]; exact hl, h.nx _ σ ⟨w2.M, upd w2.H a' (.lst (us.set l v)), w2.F⟩ (E2.change e hv S rfl (DenAll.setAt (Den.same l2.f d1) l g2)) (l1.f.trans l2.f) q⟩
    ·exact q2.elim
   ·exact q2.elim
  ·exact q1.elim
noncomputable def frzF (H F : Hpp) (t : OT) : Hpp := fun a => open Classical in if a ∈ t.fp then H a else F a
theorem Tre.frz {K : Frag} {w : Wd} {F' : Hpp} (s : Same w.F F') : ∀ {t : OT} {vs : List V}, Tre K w t vs -> (∀ a ∈ t.fp, F' a = w.H a) -> DenAll K F' vs t.dat
 | .leaf _, _, ⟨_, e, h⟩, _ => by rw [e]; exact .cons (Den.same s h) .nil
 | .nd true a _, _, ⟨e, _, h, k⟩, n => by rw [e]; exact .cons (.lst (SqL.of ((n a (by simp [OT.fp])).trans h)) (Tre.frz s k fun q hq => n q (by simp [OT.fp, hq]))) .nil
 | .nd false a _, _, ⟨e, _, h, k⟩, n => by rw [e]; exact .cons (.tup (SqT.of ((n a (by simp [OT.fp])).trans h)) (Tre.frz s k fun q hq => n q (by simp [OT.fp, hq]))) .nil
 | .nil, _, e, _ => by rw [show _ = [] from e]; exact .nil
 | .cons _ _, _, ⟨v, r, e, h, t⟩, n => by
  rw [e]
  exact (Tre.frz s h fun q hq => n q (by simp [OT.fp, hq])).app (vs := [v]) (us := r) (Tre.frz s t fun q hq => n q (by simp [OT.fp, hq]))
theorem EnvOk.frzT {c : Ct} {w : Wd} {env : PEnv} {σ : St} {i : Nat} {T : OT} {x : PyData} (E : EnvOk c w env σ) (h : env[i]? = some (some (.tr T))) (ex : T.dat = [x]) :
  ∃ w' v, w'.H = w.H /\ σ[i]? = some (some v) /\ EnvOk c w' (env.set i (some (.d x))) σ /\ Lw w w' /\ Den c.K w'.F v x := by
 obtain ⟨v, hv, hV⟩ := E.at' i _ h
 have sm : Same w.F (frzF w.H w.F T) := fun a o q => by
  unfold frzF
  split
  ·rename_i z; rw [(hV.2.1 a z).2.1] at q; cases q
  ·exact q
 have hin : ∀ a ∈ T.fp, frzF w.H w.F T a = w.H a := fun a ha => if_pos ha
 have hout : ∀ a, a ∉ T.fp -> frzF w.H w.F T a = w.F a := fun a ha => if_neg ha
 have lw : Lw w ⟨w.M, w.H, frzF w.H w.F T⟩ := ⟨sm, fun _ _ h _ => h, fun _ h => h, fun _ h => .inl h, fun _ h => h⟩
 have dn := hV.1.frz sm hin
 rw [ex] at dn
 have dx : Den c.K (frzF w.H w.F T) v x := by cases dn with | cons a _ => exact a
 have up : ∀ {j : Nat} {t : SV}, (env.set i (some (.d x)))[j]? = some (some t) -> (j = i /\ t = .d x) \/ (i ≠ j /\ env[j]? = some (some t)) := by
  intro j t q
  rw [List.getElem?_set] at q
  split at q
  ·rename_i e
   split at q
   ·cases q; exact .inl ⟨e.symm, rfl⟩
   ·cases q
  ·rename_i z; exact .inr ⟨z, q⟩
 have apart : ∀ {j : Nat} {t : SV} {u : V} {a : Addr}, i ≠ j -> env[j]? = some (some t) -> σ[j]? = some (some u) -> t.foot u a -> a ∉ T.fp := fun ne q g f z => ne (E.own i _ _ _ _ _ _ h q hv g z f)
 refine ⟨⟨w.M, w.H, frzF w.H w.F T⟩, v, rfl, hv, ⟨⟨fun a o q => ?_, E.wok.st, fun p hp => ?_⟩, ⟨E.le0.toLw.trans lw, fun a o q => ?_⟩, by simpa using E.len, fun j s q => ?_, fun j k s t v1 u1 a q1 q2 q3 q4 f1 f2 => ?_, fun a za => ?_, fun a j t u za q q' f => ?_⟩, lw, dx⟩
 ·by_cases z : a ∈ T.fp
  ·rw [show (⟨w.M, w.H, frzF w.H w.F T⟩ : Wd).F a = w.H a from hin a z] at q; exact q
  ·rw [show (⟨w.M, w.H, frzF w.H w.F T⟩ : Wd).F a = w.F a from hout a z] at q; exact E.wok.sub a o q
 ·show frzF w.H w.F T p = none
  rw [hout p fun z => (hV.2.1 p z).2.2.1 hp]; exact E.wok.nf p hp
 ·by_cases z : a ∈ T.fp
  ·exact .inr (hV.2.1 a z).2.2.2
  ·rw [show (⟨w.M, w.H, frzF w.H w.F T⟩ : Wd).F a = w.F a from hout a z] at q; exact E.le0.n a o q
 ·rcases up q with ⟨rfl, rfl⟩ | ⟨ne, q⟩
  ·exact ⟨v, hv, dx⟩
  ·obtain ⟨u, g1, g2⟩ := E.at' j s q
   refine ⟨u, g1, ?_⟩
   cases s with
   | d x => exact Den.same sm g2
   | own ys =>
    obtain ⟨l', us, rfl, k1, k2, k3, k4, k5⟩ := g2
    refine ⟨l', us, rfl, k1, ?_, k3, k4, DenAll.same sm k5⟩
    show frzF w.H w.F T l' = none
    rw [hout l' (apart ne q g1 rfl)]; exact k2
   | bor ys =>
    rcases g2 with g | ⟨l', us, e', k1, k2, k3⟩
    ·exact .inl (Den.same sm g)
    ·exact .inr ⟨l', us, e', k1, k2, DenAll.same sm k3⟩
   | st => exact g2
   | bt t => exact ⟨g2.1.sameF sm, g2.2⟩
   | al a => exact g2
   | tr t =>
    obtain ⟨k1, k2, k3⟩ := g2
    refine ⟨k1.mono lw fun p hp => (k2 p hp).2.2.1, fun p hp => ⟨(k2 p hp).1, ?_, (k2 p hp).2.2⟩, k3⟩
    show frzF w.H w.F T p = none
    rw [hout p (apart ne q g1 hp)]; exact (k2 p hp).2.1
 ·rcases up q1 with ⟨rfl, rfl⟩ | ⟨_, p1⟩
  ·exact f1.elim
  ·rcases up q2 with ⟨rfl, rfl⟩ | ⟨_, p2⟩
   ·exact f2.elim
   ·exact E.own j k _ _ _ _ a p1 p2 q3 q4 f1 f2
 ·obtain ⟨z1, z2, z3⟩ := E.zf a za
  refine ⟨?_, z2, z3⟩
  show frzF w.H w.F T a = none
  rw [hout a fun z => E.zo a i _ _ za h hv z]; exact z1
 ·rcases up q with ⟨rfl, rfl⟩ | ⟨_, p1⟩
  ·exact f.elim
  ·exact E.zo a j _ _ za p1 q' f
def tFz (i : Nat) : TE := tVar i
def pFz (i : Nat) (env : PEnv) (Q : SV -> PEnv -> Prop) : Prop := oFz env[i]? fun x => Q (.d x) (env.set i (some (.d x)))
where oFz (o : Option (Option SV)) (k : PyData -> Prop) : Prop := match o with
 | some (some (.tr T)) => ∃ x, T.dat = [x] /\ k x
 | some (some (.d x)) => k x
 | _ => False
theorem B7b {T : OT} {k : PyData -> Prop} : pFz.oFz (some (some (.tr T))) k = ∃ x, T.dat = [x] /\ k x := rfl
theorem B7c {x : PyData} {k : PyData -> Prop} : pFz.oFz (some (some (.d x))) k = k x := rfl
instance (priority := high) re_fz {K : Frag} {i : Nat} : RE K (tFz i) (pFz i) where
 ok := by
  rintro c w env σ Qp Q rfl E p k
  unfold pFz pFz.oFz at p
  split at p
  ·rename_i T e
   obtain ⟨x, ex, q⟩ := p
   obtain ⟨w', v, e', hv, E', l, dx⟩ := E.frzT e ex
   refine ⟨v, hv, ?_⟩
   rw [<- e']
   exact k v (.d x) _ w' ⟨E', l, dx, fun _ z => (nomatch z), rfl⟩ q
  ·rename_i x e
   obtain ⟨v, hv, h2⟩ := E.at' i _ e
   refine ⟨v, hv, k v (.d x) _ w ⟨?_, Lw.refl w, h2, fun _ z => (nomatch z), rfl⟩ p⟩
   have hs : env.set i (some (.d x)) = env := by
    refine List.ext_getElem? fun j => ?_
    rw [List.getElem?_set]
    split
    ·rename_i z; subst z
     split
     ·exact e.symm
     ·rename_i hn; rw [List.getElem?_eq_none (by omega)] at e; cases e
    ·rfl
   rw [hs]; exact E
  ·exact p.elim
end Pu
namespace L2
open PySem PySem.Spec PyProof.Rows
section
variable {X : Cx} {e : Expr}
theorem qAl {i n : Nat} {t : TE} (h : QE X e t) : QE X e (Pu.tAl i n t) := h
theorem qAr {i n j : Nat} (h : QE X e (tVar j)) : QE X e (Pu.tAr i n j) := h
theorem qFz {i : Nat} (h : QE X e (tVar i)) : QE X e (Pu.tFz i) := h
end
end L2
set_option synthInstance.maxHeartbeats 0
set_option synthInstance.maxSize 100000
set_option maxHeartbeats 4000000
namespace Prf
open PySem L2 My Pu
local macro_rules | `(tactic| trivial) => `(tactic| try simp only [pSeq, B31, B38, pRet, A57, A7f, A7e, pIf, pAsg, B39, B1f, B10, pApp, A81, A9q, B8m, pYes, pNot, pAnd, pOr, B4a, pIfE, pOp, pI_i, B6s, pEqD, pNeD, pIsN, B3y, A0w, B1j, B1i, pU_i, pUn, pNil, A6o, pTup, pLst, pCB, B1s, B1h, B1g, B1q, A23, B1p, B11, A4u, A2p, A4t, A2n, A2o, A4s, A4v, B1c, B1v, B1u, A51, A67, A66, A68, pC, pdat, B8l, B8k, A6q, B30, A6m, A6k, A27, B8g, B2a, B26, B07, A5e, A2v, A2w, A50, B34, A26, A3b, A3a, A3c, A3z, W2, A1l, A56, A7d, A55, A7c, pFor, A6p, V4, J7, SV.lent, A1x, B3x, B8h, pSlL, B1r, List.map_cons, List.map_nil, List.replicate_succ, List.replicate_zero, List.cons_append, List.nil_append, List.getElem?_cons_zero, List.getElem?_cons_succ, List.set_cons_zero, List.set_cons_succ, List.length_cons, List.length_nil, B37, B36, B6t, Option.bind_some, Option.bind_none, Option.map_some, Option.join_some, A6g, A6f, A7w, A8g, A8f, B12, B2i, Y8, B2g, A74, B0y, decide_eq_true_eq, Bool.not_eq_true', decide_eq_false_iff_not, ite_not, true_and, and_true, reduceIte, Nat.zero_le, Nat.reduceAdd, Nat.reduceLeDiff, Nat.reduceSub, Int.zero_add, A25, A24, List.length_map, A4p, A7v, B13, B19, B18, B17, B16, B14, B15, Bool.true_eq_false, Bool.false_eq_true, reduceCtorEq, Bool.not_true, Bool.not_false, decide_true, decide_false, A6j, A7j, pLsN, pLsC, A59, A7h, eq_self, A8b, A9r, A6l, B3z, ot_o, A52, A7b, A7a, A69, B2n, B3q, B8j, B8i, B1e, B1y, B1x, B1z, A6n, B1d, B1w, A3j, A28, A7g, pIn, A7z, A70, A7y, B1n, B1k, B1m, B1o, B1l, A6d, A6b, A6c, B3v, pRep, pIdx, A58, pSlT, A9s, A7i, pPth, pVw, pBr, pMuV, B69, A53, pA2, B7w, pC2, pMu, B1t, A6s, B02, P5, A6r, pCmT, B3u, A6t, alAt, B2b, pArV, A54, pFz, B7b, B7c])
local macro_rules | `(tactic| nofun) => `(tactic| try simp -implicitDefEqProofs only [pSeq, B31, B38, pRet, A57, A7f, A7e, pIf, pAsg, B39, B1f, B10, pApp, A81, A9q, B8m, pYes, pNot, pAnd, pOr, B4a, pIfE, pOp, pI_i, B6s, pEqD, pNeD, pIsN, B3y, A0w, B1j, B1i, pU_i, pUn, pNil, A6o, pTup, pLst, pCB, B1s, B1h, B1g, B1q, A23, B1p, B11, A4u, A2p, A4t, A2n, A2o, A4s, A4v, B1c, B1v, B1u, A51, A67, A66, A68, pC, pdat, B8l, B8k, A6q, B30, A6m, A6k, A27, B8g, B2a, B26, B07, A5e, A2v, A2w, A50, B34, A26, A3b, A3a, A3c, A3z, W2, A1l, A56, A7d, A55, A7c, pFor, A6p, V4, J7, SV.lent, A1x, B3x, B8h, pSlL, B1r, List.map_cons, List.map_nil, List.replicate_succ, List.replicate_zero, List.cons_append, List.nil_append, List.getElem?_cons_zero, List.getElem?_cons_succ, List.set_cons_zero, List.set_cons_succ, List.length_cons, List.length_nil, B37, B36, B6t, Option.bind_some, Option.bind_none, Option.map_some, Option.join_some, A6g, A6f, A7w, A8g, A8f, B12, B2i, Y8, B2g, A74, B0y, decide_eq_true_eq, Bool.not_eq_true', decide_eq_false_iff_not, ite_not, true_and, and_true, reduceIte, Nat.zero_le, Nat.reduceAdd, Nat.reduceLeDiff, Nat.reduceSub, Int.zero_add, A25, A24, List.length_map, A4p, A7v, B13, B19, B18, B17, B16, B14, B15, Bool.true_eq_false, Bool.false_eq_true, reduceCtorEq, Bool.not_true, Bool.not_false, decide_true, decide_false, A6j, A7j, pLsN, pLsC, A59, A7h, eq_self, A8b, A9r, A6l, B3z, ot_o, A52, A7b, A7a, A69, B2n, B3q, B8j, B8i, B1e, B1y, B1x, B1z, A6n, B1d, B1w, A3j, A28, A7g, pIn, A7z, A70, A7y, B1n, B1k, B1m, B1o, B1l, A6d, A6b, A6c, B3v, pRep, pIdx, A58, pSlT, A9s, A7i, pPth, pVw, pBr, pMuV, B69, A53, pA2, B7w, pC2, pMu, B1t, A6s, B02, P5, A6r, pCmT, B3u, A6t, alAt, B2b, pArV, A54, pFz, B7b, B7c])
set_option genInjectivity false
set_option genSizeOfSpec false
structure Adr where
 a_commonpart : Addr
 d_commonpart : FuncData
 a_plus : Addr
 d_plus : FuncData
 a_minus : Addr
 d_minus : FuncData
 a_isless : Addr
 d_isless : FuncData
 a_smaller : Addr
 d_smaller : FuncData
 a_endof : Addr
 d_endof : FuncData
 a_waitslack : Addr
 d_waitslack : FuncData
 a_holdslack : Addr
 d_holdslack : FuncData
 a_holdway : Addr
 d_holdway : FuncData
 a_waysof : Addr
 d_waysof : FuncData
 a_stretch : Addr
 d_stretch : FuncData
 a_ringpaper : Addr
 d_ringpaper : FuncData
 a_farthest : Addr
 d_farthest : FuncData
 a_earliest : Addr
 d_earliest : FuncData
 a_latest : Addr
 d_latest : FuncData
 a_slipalone : Addr
 d_slipalone : FuncData
 a_slipsof : Addr
 d_slipsof : FuncData
 a_Lbegun : Addr
 d_Lbegun : FuncData
 a_Ltake : Addr
 d_Ltake : FuncData
 a_Llow : Addr
 d_Llow : FuncData
 a_Lplus : Addr
 d_Lplus : FuncData
 a_Lminus : Addr
 d_Lminus : FuncData
 a_Ltimes : Addr
 d_Ltimes : FuncData
 a_Lunder : Addr
 d_Lunder : FuncData
 a_Lamount : Addr
 d_Lamount : FuncData
 a_Loffer : Addr
 d_Loffer : FuncData
 a_Lshape : Addr
 d_Lshape : FuncData
 a_Lwalk : Addr
 d_Lwalk : FuncData
 a_Lrate : Addr
 d_Lrate : FuncData
 a_Lpaper : Addr
 d_Lpaper : FuncData
 a_Lflows : Addr
 d_Lflows : FuncData
 a_Lleast : Addr
 d_Lleast : FuncData
 a_Ltime : Addr
 d_Ltime : FuncData
 a_Lplanned : Addr
 d_Lplanned : FuncData
 a_Lslack : Addr
 d_Lslack : FuncData
 a_Llatestend : Addr
 d_Llatestend : FuncData
 a_Lfraction : Addr
 d_Lfraction : FuncData
 a_Lcopy : Addr
 d_Lcopy : FuncData
 a_Ldrawn : Addr
 d_Ldrawn : FuncData
 a_Lalone : Addr
 d_Lalone : FuncData
 a_Lright : Addr
 d_Lright : FuncData
 a_law : Addr
 d_law : FuncData
 k_NOUGHT : Addr
 k_ONE : Addr
structure Txt (K : PySem.W.Frag) (mg : Str -> Option Value) (D : Adr) : Prop where
 F_commonpart : Fun K "common_part" "common_part" s_commonpart D.a_commonpart D.d_commonpart
 m_commonpart : mg "common_part" = some (.ref D.a_commonpart)
 F_plus : Fun K "plus" "plus" s_plus D.a_plus D.d_plus
 m_plus : mg "plus" = some (.ref D.a_plus)
 F_minus : Fun K "minus" "minus" s_minus D.a_minus D.d_minus
 m_minus : mg "minus" = some (.ref D.a_minus)
 F_isless : Fun K "is_less" "is_less" s_isless D.a_isless D.d_isless
 m_isless : mg "is_less" = some (.ref D.a_isless)
 F_smaller : Fun K "smaller" "smaller" s_smaller D.a_smaller D.d_smaller
 m_smaller : mg "smaller" = some (.ref D.a_smaller)
 F_endof : Fun K "end_of" "end_of" s_endof D.a_endof D.d_endof
 m_endof : mg "end_of" = some (.ref D.a_endof)
 F_waitslack : Fun K "wait_slack" "wait_slack" s_waitslack D.a_waitslack D.d_waitslack
 m_waitslack : mg "wait_slack" = some (.ref D.a_waitslack)
 F_holdslack : Fun K "hold_slack" "hold_slack" s_holdslack D.a_holdslack D.d_holdslack
 m_holdslack : mg "hold_slack" = some (.ref D.a_holdslack)
 F_holdway : Fun K "hold_way" "hold_way" s_holdway D.a_holdway D.d_holdway
 m_holdway : mg "hold_way" = some (.ref D.a_holdway)
 F_waysof : Fun K "ways_of" "ways_of" s_waysof D.a_waysof D.d_waysof
 m_waysof : mg "ways_of" = some (.ref D.a_waysof)
 F_stretch : Fun K "stretch" "stretch" s_stretch D.a_stretch D.d_stretch
 m_stretch : mg "stretch" = some (.ref D.a_stretch)
 F_ringpaper : Fun K "ring_paper" "ring_paper" s_ringpaper D.a_ringpaper D.d_ringpaper
 m_ringpaper : mg "ring_paper" = some (.ref D.a_ringpaper)
 F_farthest : Fun K "farthest" "farthest" s_farthest D.a_farthest D.d_farthest
 m_farthest : mg "farthest" = some (.ref D.a_farthest)
 F_earliest : Fun K "earliest" "earliest" s_earliest D.a_earliest D.d_earliest
 m_earliest : mg "earliest" = some (.ref D.a_earliest)
 F_latest : Fun K "latest" "latest" s_latest D.a_latest D.d_latest
 m_latest : mg "latest" = some (.ref D.a_latest)
 F_slipalone : Fun K "slip_alone" "slip_alone" s_slipalone D.a_slipalone D.d_slipalone
 m_slipalone : mg "slip_alone" = some (.ref D.a_slipalone)
 F_slipsof : Fun K "slips_of" "slips_of" s_slipsof D.a_slipsof D.d_slipsof
 m_slipsof : mg "slips_of" = some (.ref D.a_slipsof)
 F_Lbegun : Fun K "_law_begun" "_law_begun" s_Lbegun D.a_Lbegun D.d_Lbegun
 m_Lbegun : mg "_law_begun" = some (.ref D.a_Lbegun)
 F_Ltake : Fun K "_law_take" "_law_take" s_Ltake D.a_Ltake D.d_Ltake
 m_Ltake : mg "_law_take" = some (.ref D.a_Ltake)
 F_Llow : Fun K "_law_low" "_law_low" s_Llow D.a_Llow D.d_Llow
 m_Llow : mg "_law_low" = some (.ref D.a_Llow)
 F_Lplus : Fun K "_law_plus" "_law_plus" s_Lplus D.a_Lplus D.d_Lplus
 m_Lplus : mg "_law_plus" = some (.ref D.a_Lplus)
 F_Lminus : Fun K "_law_minus" "_law_minus" s_Lminus D.a_Lminus D.d_Lminus
 m_Lminus : mg "_law_minus" = some (.ref D.a_Lminus)
 F_Ltimes : Fun K "_law_times" "_law_times" s_Ltimes D.a_Ltimes D.d_Ltimes
 m_Ltimes : mg "_law_times" = some (.ref D.a_Ltimes)
 F_Lunder : Fun K "_law_under" "_law_under" s_Lunder D.a_Lunder D.d_Lunder
 m_Lunder : mg "_law_under" = some (.ref D.a_Lunder)
 F_Lamount : Fun K "_law_amount" "_law_amount" s_Lamount D.a_Lamount D.d_Lamount
 m_Lamount : mg "_law_amount" = some (.ref D.a_Lamount)
 F_Loffer : Fun K "_law_offer" "_law_offer" s_Loffer D.a_Loffer D.d_Loffer
 m_Loffer : mg "_law_offer" = some (.ref D.a_Loffer)
 F_Lshape : Fun K "_law_shape" "_law_shape" s_Lshape D.a_Lshape D.d_Lshape
 m_Lshape : mg "_law_shape" = some (.ref D.a_Lshape)
 F_Lwalk : Fun K "_law_walk" "_law_walk" s_Lwalk D.a_Lwalk D.d_Lwalk
 m_Lwalk : mg "_law_walk" = some (.ref D.a_Lwalk)
 F_Lrate : Fun K "_law_rate" "_law_rate" s_Lrate D.a_Lrate D.d_Lrate
 m_Lrate : mg "_law_rate" = some (.ref D.a_Lrate)
 F_Lpaper : Fun K "_law_paper" "_law_paper" s_Lpaper D.a_Lpaper D.d_Lpaper
 m_Lpaper : mg "_law_paper" = some (.ref D.a_Lpaper)
 F_Lflows : Fun K "_law_flows" "_law_flows" s_Lflows D.a_Lflows D.d_Lflows
 m_Lflows : mg "_law_flows" = some (.ref D.a_Lflows)
 F_Lleast : Fun K "_law_least" "_law_least" s_Lleast D.a_Lleast D.d_Lleast
 m_Lleast : mg "_law_least" = some (.ref D.a_Lleast)
 F_Ltime : Fun K "_law_time" "_law_time" s_Ltime D.a_Ltime D.d_Ltime
 m_Ltime : mg "_law_time" = some (.ref D.a_Ltime)
 F_Lplanned : Fun K "_law_planned" "_law_planned" s_Lplanned D.a_Lplanned D.d_Lplanned
 m_Lplanned : mg "_law_planned" = some (.ref D.a_Lplanned)
 F_Lslack : Fun K "_law_slack" "_law_slack" s_Lslack D.a_Lslack D.d_Lslack
 m_Lslack : mg "_law_slack" = some (.ref D.a_Lslack)
 F_Llatestend : Fun K "_law_latest_end" "_law_latest_end" s_Llatestend D.a_Llatestend D.d_Llatestend
 m_Llatestend : mg "_law_latest_end" = some (.ref D.a_Llatestend)
 F_Lfraction : Fun K "_law_fraction" "_law_fraction" s_Lfraction D.a_Lfraction D.d_Lfraction
 m_Lfraction : mg "_law_fraction" = some (.ref D.a_Lfraction)
 F_Lcopy : Fun K "_law_copy" "_law_copy" s_Lcopy D.a_Lcopy D.d_Lcopy
 m_Lcopy : mg "_law_copy" = some (.ref D.a_Lcopy)
 F_Ldrawn : Fun K "_law_drawn" "_law_drawn" s_Ldrawn D.a_Ldrawn D.d_Ldrawn
 m_Ldrawn : mg "_law_drawn" = some (.ref D.a_Ldrawn)
 F_Lalone : Fun K "_law_alone" "_law_alone" s_Lalone D.a_Lalone D.d_Lalone
 m_Lalone : mg "_law_alone" = some (.ref D.a_Lalone)
 F_Lright : Fun K "_law_right" "_law_right" s_Lright D.a_Lright D.d_Lright
 m_Lright : mg "_law_right" = some (.ref D.a_Lright)
 F_law : Fun K "law" "law" s_law D.a_law D.d_law
 m_law : mg "law" = some (.ref D.a_law)
 c_NOUGHT : mg "NOUGHT" = some (.ref D.k_NOUGHT)
 c_ONE : mg "ONE" = some (.ref D.k_ONE)
 z_abs : mg "abs" = none
 z_bool : mg "bool" = none
 z_enumerate : mg "enumerate" = none
 z_int : mg "int" = none
 z_isinstance : mg "isinstance" = none
 z_len : mg "len" = none
 z_list : mg "list" = none
 z_max : mg "max" = none
 z_min : mg "min" = none
 z_range : mg "range" = none
 z_tuple : mg "tuple" = none
 c2_NOUGHT : Pu.GD K D.k_NOUGHT (dq 0)
 c2_ONE : Pu.GD K D.k_ONE (dq 1)
abbrev sp_law := B2y
section
variable {K : PySem.W.Frag} {mg : Str -> Option Value} {D : Adr}
theorem sc_commonpart : FnScope ["one", "other"] ["one", "other"] (A4 s_commonpart) := ⟨rfl, rfl, rfl, by decide +kernel, rfl, by decide +kernel, by decide +kernel⟩
theorem R3 (T : Txt K mg D) : Binds K D.d_commonpart ["one", "other"] [] := T.F_commonpart.binds (ps := ["one", "other"]) fun _ _ _ _ _ _ us hl => by obtain ⟨_, _, rfl⟩ := us2 hl; rfl
theorem sc_plus : FnScope ["one", "other", "shared", "mine", "theirs", "top", "rest"] ["one", "other"] (A4 s_plus) := ⟨rfl, rfl, rfl, by decide +kernel, rfl, by decide +kernel, by decide +kernel⟩
theorem A1j (T : Txt K mg D) : Binds K D.d_plus ["one", "other"] [] := T.F_plus.binds (ps := ["one", "other"]) fun _ _ _ _ _ _ us hl => by obtain ⟨_, _, rfl⟩ := us2 hl; rfl
theorem sc_minus : FnScope ["one", "other"] ["one", "other"] (A4 s_minus) := ⟨rfl, rfl, rfl, by decide +kernel, rfl, by decide +kernel, by decide +kernel⟩
theorem L9 (T : Txt K mg D) : Binds K D.d_minus ["one", "other"] [] := T.F_minus.binds (ps := ["one", "other"]) fun _ _ _ _ _ _ us hl => by obtain ⟨_, _, rfl⟩ := us2 hl; rfl
theorem sc_isless : FnScope ["one", "other"] ["one", "other"] (A4 s_isless) := ⟨rfl, rfl, rfl, by decide +kernel, rfl, by decide +kernel, by decide +kernel⟩
theorem A3w (T : Txt K mg D) : Binds K D.d_isless ["one", "other"] [] := T.F_isless.binds (ps := ["one", "other"]) fun _ _ _ _ _ _ us hl => by obtain ⟨_, _, rfl⟩ := us2 hl; rfl
theorem sc_smaller : FnScope ["one", "other"] ["one", "other"] (A4 s_smaller) := ⟨rfl, rfl, rfl, by decide +kernel, rfl, by decide +kernel, by decide +kernel⟩
theorem A1h (T : Txt K mg D) : Binds K D.d_smaller ["one", "other"] [] := T.F_smaller.binds (ps := ["one", "other"]) fun _ _ _ _ _ _ us hl => by obtain ⟨_, _, rfl⟩ := us2 hl; rfl
theorem sc_endof : FnScope ["step"] ["step"] (A4 s_endof) := ⟨rfl, rfl, rfl, by decide +kernel, rfl, by decide +kernel, by decide +kernel⟩
theorem A2f (T : Txt K mg D) : Binds K D.d_endof ["step"] [] := T.F_endof.binds (ps := ["step"]) fun _ _ _ _ _ _ us hl => by obtain ⟨_, rfl⟩ := us1 hl; rfl
theorem sc_waitslack : FnScope ["wait", "plan", "one", "other", "lag"] ["wait", "plan"] (A4 s_waitslack) := ⟨rfl, rfl, rfl, by decide +kernel, rfl, by decide +kernel, by decide +kernel⟩
theorem A2c (T : Txt K mg D) : Binds K D.d_waitslack ["wait", "plan"] [] := T.F_waitslack.binds (ps := ["wait", "plan"]) fun _ _ _ _ _ _ us hl => by obtain ⟨_, _, rfl⟩ := us2 hl; rfl
theorem sc_holdslack : FnScope ["hold", "plan", "kind", "work", "moment"] ["hold", "plan"] (A4 s_holdslack) := ⟨rfl, rfl, rfl, by decide +kernel, rfl, by decide +kernel, by decide +kernel⟩
theorem A2e (T : Txt K mg D) : Binds K D.d_holdslack ["hold", "plan"] [] := T.F_holdslack.binds (ps := ["hold", "plan"]) fun _ _ _ _ _ _ us hl => by obtain ⟨_, _, rfl⟩ := us2 hl; rfl
theorem sc_holdway : FnScope ["hold", "times", "arc", "kind", "work", "moment", "root"] ["hold", "times", "arc"] (A4 s_holdway) := ⟨rfl, rfl, rfl, by decide +kernel, rfl, by decide +kernel, by decide +kernel⟩
theorem A80 (T : Txt K mg D) : Binds K D.d_holdway ["hold", "times", "arc"] [] := T.F_holdway.binds (ps := ["hold", "times", "arc"]) fun _ _ _ _ _ _ us hl => by obtain ⟨_, _, _, rfl⟩ := us3 hl; rfl
theorem sc_waysof : FnScope ["net", "times", "whole", "root", "ways", "work", "time", "at", "one", "other", "lag", "hold"] ["net", "times", "whole"] (A4 s_waysof) := ⟨rfl, rfl, rfl, by decide +kernel, rfl, by decide +kernel, by decide +kernel⟩
theorem A3u (T : Txt K mg D) : Binds K D.d_waysof ["net", "times", "whole"] [] := T.F_waysof.binds (ps := ["net", "times", "whole"]) fun _ _ _ _ _ _ us hl => by obtain ⟨_, _, _, rfl⟩ := us3 hl; rfl
theorem sc_stretch : FnScope ["ways", "far", "came", "moved", "way", "tail", "head", "length", "arc", "reached"] ["ways", "far", "came"] (A4 s_stretch) := ⟨rfl, rfl, rfl, by decide +kernel, rfl, by decide +kernel, by decide +kernel⟩
theorem A8z (T : Txt K mg D) : Binds K D.d_stretch ["ways", "far", "came"] [] := T.F_stretch.binds (ps := ["ways", "far", "came"]) fun _ _ _ _ _ _ us hl => by obtain ⟨_, _, _, rfl⟩ := us3 hl; rfl
theorem sc_farthest : FnScope ["ways", "many", "far", "came", "moved", "turn"] ["ways", "many"] (A4 s_farthest) := ⟨rfl, rfl, rfl, by decide +kernel, rfl, by decide +kernel, by decide +kernel⟩
theorem W1 (T : Txt K mg D) : Binds K D.d_farthest ["ways", "many"] [] := T.F_farthest.binds (ps := ["ways", "many"]) fun _ _ _ _ _ _ us hl => by obtain ⟨_, _, rfl⟩ := us2 hl; rfl
theorem sc_earliest : FnScope ["net", "times", "starts", "ring"] ["net", "times"] (A4 s_earliest) := ⟨rfl, rfl, rfl, by decide +kernel, rfl, by decide +kernel, by decide +kernel⟩
theorem A4m (T : Txt K mg D) : Binds K D.d_earliest ["net", "times"] [] := T.F_earliest.binds (ps := ["net", "times"]) fun _ _ _ _ _ _ us hl => by obtain ⟨_, _, rfl⟩ := us2 hl; rfl
theorem sc_latest : FnScope ["net", "times", "whole", "word", "told", "back", "leads", "bar"] ["net", "times", "whole"] (A4 s_latest) := ⟨rfl, rfl, rfl, by decide +kernel, rfl, by decide +kernel, by decide +kernel⟩
theorem A3v (T : Txt K mg D) : Binds K D.d_latest ["net", "times", "whole"] [] := T.F_latest.binds (ps := ["net", "times", "whole"]) fun _ _ _ _ _ _ us hl => by obtain ⟨_, _, _, rfl⟩ := us3 hl; rfl
theorem sc_slipalone : FnScope ["net", "plan", "whole", "work", "slip", "wait", "hold"] ["net", "plan", "whole", "work"] (A4 s_slipalone) := ⟨rfl, rfl, rfl, by decide +kernel, rfl, by decide +kernel, by decide +kernel⟩
theorem A2d (T : Txt K mg D) : Binds K D.d_slipalone ["net", "plan", "whole", "work"] [] := T.F_slipalone.binds (ps := ["net", "plan", "whole", "work"]) fun _ _ _ _ _ _ us hl => by obtain ⟨_, _, _, _, rfl⟩ := us4 hl; rfl
theorem sc_slipsof : FnScope ["net", "plan", "whole", "starts", "slips", "work", "step"] ["net", "plan", "whole"] (A4 s_slipsof) := ⟨rfl, rfl, rfl, by decide +kernel, rfl, by decide +kernel, by decide +kernel⟩
theorem A1i (T : Txt K mg D) : Binds K D.d_slipsof ["net", "plan", "whole"] [] := T.F_slipsof.binds (ps := ["net", "plan", "whole"]) fun _ _ _ _ _ _ us hl => by obtain ⟨_, _, _, rfl⟩ := us3 hl; rfl
theorem sc_Lbegun : FnScope ["_law_script", "_law_k", "_law_cell"] ["_law_script", "_law_k"] (A4 s_Lbegun) := ⟨rfl, rfl, rfl, by decide +kernel, rfl, by decide +kernel, by decide +kernel⟩
theorem M7 (T : Txt K mg D) : Binds K D.d_Lbegun ["_law_script", "_law_k"] [] := T.F_Lbegun.binds (ps := ["_law_script", "_law_k"]) fun _ _ _ _ _ _ us hl => by obtain ⟨_, _, rfl⟩ := us2 hl; rfl
theorem sc_Ltake : FnScope ["_law_state", "_law_many", "_law_digit", "_law_made", "_law_turn"] ["_law_state", "_law_many"] (A4 s_Ltake) := ⟨rfl, rfl, rfl, by decide +kernel, rfl, by decide +kernel, by decide +kernel⟩
theorem D1 (T : Txt K mg D) : Binds K D.d_Ltake ["_law_state", "_law_many"] [] := T.F_Ltake.binds (ps := ["_law_state", "_law_many"]) fun _ _ _ _ _ _ us hl => by obtain ⟨_, _, rfl⟩ := us2 hl; rfl
theorem sc_Llow : FnScope ["_law_top", "_law_bottom", "_law_one", "_law_other"] ["_law_top", "_law_bottom"] (A4 s_Llow) := ⟨rfl, rfl, rfl, by decide +kernel, rfl, by decide +kernel, by decide +kernel⟩
theorem U4 (T : Txt K mg D) : Binds K D.d_Llow ["_law_top", "_law_bottom"] [] := T.F_Llow.binds (ps := ["_law_top", "_law_bottom"]) fun _ _ _ _ _ _ us hl => by obtain ⟨_, _, rfl⟩ := us2 hl; rfl
theorem sc_Lplus : FnScope ["_law_one", "_law_other"] ["_law_one", "_law_other"] (A4 s_Lplus) := ⟨rfl, rfl, rfl, by decide +kernel, rfl, by decide +kernel, by decide +kernel⟩
theorem G2 (T : Txt K mg D) : Binds K D.d_Lplus ["_law_one", "_law_other"] [] := T.F_Lplus.binds (ps := ["_law_one", "_law_other"]) fun _ _ _ _ _ _ us hl => by obtain ⟨_, _, rfl⟩ := us2 hl; rfl
theorem sc_Lminus : FnScope ["_law_one", "_law_other"] ["_law_one", "_law_other"] (A4 s_Lminus) := ⟨rfl, rfl, rfl, by decide +kernel, rfl, by decide +kernel, by decide +kernel⟩
theorem G6 (T : Txt K mg D) : Binds K D.d_Lminus ["_law_one", "_law_other"] [] := T.F_Lminus.binds (ps := ["_law_one", "_law_other"]) fun _ _ _ _ _ _ us hl => by obtain ⟨_, _, rfl⟩ := us2 hl; rfl
theorem sc_Ltimes : FnScope ["_law_one", "_law_other"] ["_law_one", "_law_other"] (A4 s_Ltimes) := ⟨rfl, rfl, rfl, by decide +kernel, rfl, by decide +kernel, by decide +kernel⟩
theorem S7 (T : Txt K mg D) : Binds K D.d_Ltimes ["_law_one", "_law_other"] [] := T.F_Ltimes.binds (ps := ["_law_one", "_law_other"]) fun _ _ _ _ _ _ us hl => by obtain ⟨_, _, rfl⟩ := us2 hl; rfl
theorem sc_Lunder : FnScope ["_law_one", "_law_other"] ["_law_one", "_law_other"] (A4 s_Lunder) := ⟨rfl, rfl, rfl, by decide +kernel, rfl, by decide +kernel, by decide +kernel⟩
theorem S6 (T : Txt K mg D) : Binds K D.d_Lunder ["_law_one", "_law_other"] [] := T.F_Lunder.binds (ps := ["_law_one", "_law_other"]) fun _ _ _ _ _ _ us hl => by obtain ⟨_, _, rfl⟩ := us2 hl; rfl
theorem sc_Lamount : FnScope ["_law_state", "_law_plain", "_law_least_here", "_law_way", "_law_bottom"] ["_law_state", "_law_plain", "_law_least_here"] (A4 s_Lamount) := ⟨rfl, rfl, rfl, by decide +kernel, rfl, by decide +kernel, by decide +kernel⟩
theorem J8 (T : Txt K mg D) : Binds K D.d_Lamount ["_law_state", "_law_plain", "_law_least_here"] [] := T.F_Lamount.binds (ps := ["_law_state", "_law_plain", "_law_least_here"]) fun _ _ _ _ _ _ us hl => by obtain ⟨_, _, _, rfl⟩ := us3 hl; rfl
theorem sc_Loffer : FnScope ["_law_state", "_law_kind", "_law_most", "_law_plain", "_law_many", "_law_time_here", "_law_price", "_law_gaps", "_law_gap", "_law_corners", "_law_rate_here", "_law_step"] ["_law_state", "_law_kind", "_law_most", "_law_plain"] (A4 s_Loffer) := ⟨rfl, rfl, rfl, by decide +kernel, rfl, by decide +kernel, by decide +kernel⟩
theorem B0s (T : Txt K mg D) : Binds K D.d_Loffer ["_law_state", "_law_kind", "_law_most", "_law_plain"] [] := T.F_Loffer.binds (ps := ["_law_state", "_law_kind", "_law_most", "_law_plain"]) fun _ _ _ _ _ _ us hl => by obtain ⟨_, _, _, _, rfl⟩ := us4 hl; rfl
theorem sc_Lshape : FnScope ["_law_script", "_law_kinds", "_law_state", "_law_many", "_law_size", "_law_least_here", "_law_full", "_law_works", "_law_k", "_law_own", "_law_kind", "_law_waits", "_law_holds", "_law_one"] ["_law_script", "_law_kinds"] (A4 s_Lshape) := ⟨rfl, rfl, rfl, by decide +kernel, rfl, by decide +kernel, by decide +kernel⟩
theorem B0q (T : Txt K mg D) : Binds K D.d_Lshape ["_law_script", "_law_kinds"] [] := T.F_Lshape.binds (ps := ["_law_script", "_law_kinds"]) fun _ _ _ _ _ _ us hl => by obtain ⟨_, _, rfl⟩ := us2 hl; rfl
theorem sc_Lwalk : FnScope ["_law_shape_here", "_law_state", "_law_works", "_law_waits", "_law_holds", "_law_work", "_law_seen", "_law_arcs", "_law_going", "_law_some", "_law_first", "_law_last"] ["_law_shape_here", "_law_state"] (A4 s_Lwalk) := ⟨rfl, rfl, rfl, by decide +kernel, rfl, by decide +kernel, by decide +kernel⟩
theorem B5c (T : Txt K mg D) : Binds K D.d_Lwalk ["_law_shape_here", "_law_state"] [] := T.F_Lwalk.binds (ps := ["_law_shape_here", "_law_state"]) fun _ _ _ _ _ _ us hl => by obtain ⟨_, _, rfl⟩ := us2 hl; rfl
theorem sc_Lrate : FnScope ["_law_shape_here", "_law_state", "_law_kind", "_law_corners", "_law_amount_here", "_law_k", "_law_up", "_law_gap"] ["_law_shape_here", "_law_state"] (A4 s_Lrate) := ⟨rfl, rfl, rfl, by decide +kernel, rfl, by decide +kernel, by decide +kernel⟩
theorem B5e (T : Txt K mg D) : Binds K D.d_Lrate ["_law_shape_here", "_law_state"] [] := T.F_Lrate.binds (ps := ["_law_shape_here", "_law_state"]) fun _ _ _ _ _ _ us hl => by obtain ⟨_, _, rfl⟩ := us2 hl; rfl
theorem sc_Lpaper : FnScope ["_law_shape_here", "_law_script", "_law_at", "_law_state", "_law_arcs", "_law_amounts", "_law_turn", "_law_amount_here", "_law_arc", "_law_paper_here", "_law_cut"] ["_law_shape_here", "_law_script", "_law_at"] (A4 s_Lpaper) := ⟨rfl, rfl, rfl, by decide +kernel, rfl, by decide +kernel, by decide +kernel⟩
theorem B0r (T : Txt K mg D) : Binds K D.d_Lpaper ["_law_shape_here", "_law_script", "_law_at"] [] := T.F_Lpaper.binds (ps := ["_law_shape_here", "_law_script", "_law_at"]) fun _ _ _ _ _ _ us hl => by obtain ⟨_, _, _, rfl⟩ := us3 hl; rfl
theorem sc_Lflows : FnScope ["_law_net", "_law_paper_here", "_law_works", "_law_waits", "_law_holds", "_law_inward", "_law_off", "_law_word", "_law_k", "_law_amount_here"] ["_law_net", "_law_paper_here"] (A4 s_Lflows) := ⟨rfl, rfl, rfl, by decide +kernel, rfl, by decide +kernel, by decide +kernel⟩
theorem B0u (T : Txt K mg D) : Binds K D.d_Lflows ["_law_net", "_law_paper_here"] [] := T.F_Lflows.binds (ps := ["_law_net", "_law_paper_here"]) fun _ _ _ _ _ _ us hl => by obtain ⟨_, _, rfl⟩ := us2 hl; rfl
theorem sc_Lleast : FnScope ["_law_offer_here", "_law_rate_here", "_law_made", "_law_time_here", "_law_price", "_law_cost"] ["_law_offer_here", "_law_rate_here"] (A4 s_Lleast) := ⟨rfl, rfl, rfl, by decide +kernel, rfl, by decide +kernel, by decide +kernel⟩
theorem B0t (T : Txt K mg D) : Binds K D.d_Lleast ["_law_offer_here", "_law_rate_here"] [] := T.F_Lleast.binds (ps := ["_law_offer_here", "_law_rate_here"]) fun _ _ _ _ _ _ us hl => by obtain ⟨_, _, rfl⟩ := us2 hl; rfl
theorem sc_Ltime : FnScope ["_law_offer_here", "_law_amount_here", "_law_own", "_law_kind", "_law_corners", "_law_due", "_law_tight", "_law_way", "_law_k", "_law_gap"] ["_law_offer_here", "_law_amount_here", "_law_own"] (A4 s_Ltime) := ⟨rfl, rfl, rfl, by decide +kernel, rfl, by decide +kernel, by decide +kernel⟩
theorem B5d (T : Txt K mg D) : Binds K D.d_Ltime ["_law_offer_here", "_law_amount_here", "_law_own"] [] := T.F_Ltime.binds (ps := ["_law_offer_here", "_law_amount_here", "_law_own"]) fun _ _ _ _ _ _ us hl => by obtain ⟨_, _, _, rfl⟩ := us3 hl; rfl
theorem sc_Lplanned : FnScope ["_law_shape_here", "_law_script", "_law_paper_here", "_law_works", "_law_waits", "_law_holds", "_law_amounts", "_law_plan", "_law_i", "_law_own", "_law_time_here", "_law_start", "_law_ends", "_law_lags", "_law_k", "_law_one", "_law_other", "_law_moments", "_law_kind", "_law_slack_here"] ["_law_shape_here", "_law_script", "_law_paper_here"] (A4 s_Lplanned) := ⟨rfl, rfl, rfl, by decide +kernel, rfl, by decide +kernel, by decide +kernel⟩
theorem A4n (T : Txt K mg D) : Binds K D.d_Lplanned ["_law_shape_here", "_law_script", "_law_paper_here"] [] := T.F_Lplanned.binds (ps := ["_law_shape_here", "_law_script", "_law_paper_here"]) fun _ _ _ _ _ _ us hl => by obtain ⟨_, _, _, rfl⟩ := us3 hl; rfl
theorem sc_Lslack : FnScope ["_law_script", "_law_k", "_law_own", "_law_slack_here"] ["_law_script", "_law_k"] (A4 s_Lslack) := ⟨rfl, rfl, rfl, by decide +kernel, rfl, by decide +kernel, by decide +kernel⟩
theorem A3x (T : Txt K mg D) : Binds K D.d_Lslack ["_law_script", "_law_k"] [] := T.F_Lslack.binds (ps := ["_law_script", "_law_k"]) fun _ _ _ _ _ _ us hl => by obtain ⟨_, _, rfl⟩ := us2 hl; rfl
theorem sc_Llatestend : FnScope ["_law_plan", "_law_late", "_law_start", "_law_time_here", "_law_end"] ["_law_plan"] (A4 s_Llatestend) := ⟨rfl, rfl, rfl, by decide +kernel, rfl, by decide +kernel, by decide +kernel⟩
theorem A1k (T : Txt K mg D) : Binds K D.d_Llatestend ["_law_plan"] [] := T.F_Llatestend.binds (ps := ["_law_plan"]) fun _ _ _ _ _ _ us hl => by obtain ⟨_, rfl⟩ := us1 hl; rfl
theorem sc_Lfraction : FnScope ["_law_found", "_law_part"] ["_law_found"] (A4 s_Lfraction) := ⟨rfl, rfl, rfl, by decide +kernel, rfl, by decide +kernel, by decide +kernel⟩
theorem U5 (T : Txt K mg D) : Binds K D.d_Lfraction ["_law_found"] [] := T.F_Lfraction.binds (ps := ["_law_found"]) fun _ _ _ _ _ _ us hl => by obtain ⟨_, rfl⟩ := us1 hl; rfl
theorem sc_Lcopy : FnScope ["_law_thing"] ["_law_thing"] (A4 s_Lcopy) := ⟨rfl, rfl, rfl, by decide +kernel, rfl, by decide +kernel, by decide +kernel⟩
theorem A2g (T : Txt K mg D) : Binds K D.d_Lcopy ["_law_thing"] [] := T.F_Lcopy.binds (ps := ["_law_thing"]) fun _ _ _ _ _ _ us hl => by obtain ⟨_, rfl⟩ := us1 hl; rfl
theorem sc_Ldrawn : FnScope ["_law_script", "_law_kinds", "_law_shape_here", "_law_works", "_law_alike", "_law_paper_here", "_law_net", "_law_plan"] ["_law_script", "_law_kinds"] (A4 s_Ldrawn) := ⟨rfl, rfl, rfl, by decide +kernel, rfl, by decide +kernel, by decide +kernel⟩
theorem B0v (T : Txt K mg D) : Binds K D.d_Ldrawn ["_law_script", "_law_kinds"] [] := T.F_Ldrawn.binds (ps := ["_law_script", "_law_kinds"]) fun _ _ _ _ _ _ us hl => by obtain ⟨_, _, rfl⟩ := us2 hl; rfl
theorem sc_Lalone : FnScope ["_law_net", "_law_plan", "_law_whole", "_law_i", "_law_start", "_law_time_here", "_law_end", "_law_rooms", "_law_one", "_law_other", "_law_lag", "_law_kind", "_law_work", "_law_moment", "_law_least_here", "_law_room"] ["_law_net", "_law_plan", "_law_whole", "_law_i"] (A4 s_Lalone) := ⟨rfl, rfl, rfl, by decide +kernel, rfl, by decide +kernel, by decide +kernel⟩
theorem B0w (T : Txt K mg D) : Binds K D.d_Lalone ["_law_net", "_law_plan", "_law_whole", "_law_i"] [] := T.F_Lalone.binds (ps := ["_law_net", "_law_plan", "_law_whole", "_law_i"]) fun _ _ _ _ _ _ us hl => by obtain ⟨_, _, _, _, rfl⟩ := us4 hl; rfl
theorem sc_Lright : FnScope ["_law_net", "_law_plan", "_law_whole", "_law_found", "_law_late", "_law_i", "_law_slip"] ["_law_net", "_law_plan", "_law_whole", "_law_found", "_law_late"] (A4 s_Lright) := ⟨rfl, rfl, rfl, by decide +kernel, rfl, by decide +kernel, by decide +kernel⟩
theorem A3y (T : Txt K mg D) : Binds K D.d_Lright ["_law_net", "_law_plan", "_law_whole", "_law_found", "_law_late"] [] := T.F_Lright.binds (ps := ["_law_net", "_law_plan", "_law_whole", "_law_found", "_law_late"]) fun _ _ _ _ _ _ us hl => by obtain ⟨_, _, _, _, _, rfl⟩ := us5 hl; rfl
theorem sc_law : FnScope ["_law_script", "_law_net", "_law_plan", "_law_paper_here", "_law_state", "_law_whole", "_law_handed", "_law_found", "_law_late"] ["_law_script"] (A4 s_law) := ⟨rfl, rfl, rfl, by decide +kernel, rfl, by decide +kernel, by decide +kernel⟩
end
theorem A7u : (PyData.str "steps").canLay0 = true := by decide +kernel
theorem A7t : (PyData.str "straight").canLay0 = true := by decide +kernel
theorem B71 : PyData.eqv (.str "steps") (.str "steps") = true := by decide +kernel
theorem B70 : PyData.eqv (.str "straight") (.str "straight") = true := by decide +kernel
def offD (kd : Str) (cs : LR) : PyData := .tuple [.str kd, .list (cs.map dcn)]
def Kd (kd : Str) : Prop := kd = "straight" \/ kd = "steps"
theorem Kd.lay {kd : Str} (h : Kd kd) : (PyData.str kd).canLay0 = true := by rcases h with rfl | rfl; exact A7t; exact A7u
def J1 (c d : Rat × Rat) : Rat := (d.2 - c.2) / (c.1 - d.1)
def B4e (c d : Rat × Rat) (t : Rat) : Rat := c.2 + J1 c d * (c.1 - t)
theorem B8p {c d : Rat × Rat} (h : d.1 < c.1) (h1 : SmR 161 85 c.1) (h2 : SmR 285 151 c.2) (h3 : SmR 161 85 d.1) (h4 : SmR 285 151 d.2) : SmR 607 549 (J1 c d) :=
 ((h4.sub h2).div (h1.sub h3) (by grind)).mono (by decide) (by decide)
theorem part (t : Rat) : ∀ {cs : LR}, Dec cs -> ∃ A B, cs = A ++ B /\ cs.filter (fun c => decide (t < c.1)) = A /\ (∀ c ∈ A, t < c.1) /\
  ((B = [] /\ cs.filter (fun c => decide (t <= c.1)) = A /\ cs.filter (fun c => decide (c.1 = t)) = []) \/
   ∃ b r, B = b :: r /\ b.1 <= t /\ (b.1 = t -> cs.filter (fun c => decide (t <= c.1)) = A ++ [b] /\ cs.filter (fun c => decide (c.1 = t)) = [b]) /\ (b.1 < t -> cs.filter (fun c => decide (t <= c.1)) = A /\ cs.filter (fun c => decide (c.1 = t)) = []))
 | [], _ => ⟨[], [], rfl, rfl, fun _ z => (nomatch z), .inl ⟨rfl, rfl, rfl⟩⟩
 | c :: r, h => by
  by_cases hc : t < c.1
  ·have h1 : t <= c.1 := Rat.le_of_lt hc
   have h2 : ¬ c.1 = t := fun e => by grind
   obtain ⟨A, B, e, fA, hA, hB⟩ := part t h.tail
   refine ⟨c :: A, B, by rw [e]; rfl, by rw [List.filter_cons, if_pos (by simpa using hc), fA], fun d hd => ?_, ?_⟩
   ·rcases List.mem_cons.mp hd with rfl | z
    ·exact hc
    ·exact hA d z
   ·rw [List.filter_cons, if_pos (by simpa using h1), List.filter_cons, if_neg (by simpa using h2)]
    rcases hB with ⟨b1, b2, b3⟩ | ⟨b, r', b1, b2, b3, b4⟩
    ·exact .inl ⟨b1, by rw [b2], b3⟩
    ·exact .inr ⟨b, r', b1, b2, fun z => ⟨by rw [(b3 z).1]; rfl, (b3 z).2⟩, fun z => ⟨by rw [(b4 z).1], (b4 z).2⟩⟩
  ·have hr : ∀ d ∈ r, d.1 < t := fun d hd => by have := h.lt d hd; grind
   have n1 : r.filter (fun c => decide (t < c.1)) = [] := List.filter_eq_nil_iff.mpr fun d hd => by have := hr d hd; simp; grind
   have n2 : r.filter (fun c => decide (t <= c.1)) = [] := List.filter_eq_nil_iff.mpr fun d hd => by have := hr d hd; simp; grind
   have n3 : r.filter (fun c => decide (c.1 = t)) = [] := List.filter_eq_nil_iff.mpr fun d hd => by have := hr d hd; simp; grind
   refine ⟨[], c :: r, rfl, by rw [List.filter_cons, if_neg (by simpa using hc), n1], fun _ z => (nomatch z), .inr ⟨c, r, rfl, by grind, fun e => ?_, fun e => ?_⟩⟩
   ·exact ⟨by rw [List.filter_cons, if_pos (by simp [e]), n2]; rfl, by rw [List.filter_cons, if_pos (by simp [e]), n3]⟩
   ·exact ⟨by rw [List.filter_cons, if_neg (by simp; grind), n2], by rw [List.filter_cons, if_neg (by simp; grind), n3]⟩
def lm (vs : LQ) (m : Rat) : Rat := vs.foldl (fun m v => if v < m then v else m) m
theorem A7r (vs : LQ) (v m : Rat) : lm (vs ++ [v]) m = if v < lm vs m then v else lm vs m := by unfold lm; rw [List.foldl_append]; rfl
theorem A4h : ∀ (vs : LQ) (m : Rat), lm vs m <= m /\ ∀ v ∈ vs, lm vs m <= v
 | [], m => ⟨Rat.le_refl, fun v h => absurd h (by simp)⟩
 | v :: r, m => by
  obtain ⟨h1, h2⟩ := A4h r (if v < m then v else m)
  have e : lm (v :: r) m = lm r (if v < m then v else m) := rfl
  rw [e]
  have h3 : (if v < m then v else m) <= m /\ (if v < m then v else m) <= v := by
   split
   ·constructor <;> grind
   ·constructor <;> grind
  refine ⟨by grind, fun x hx => ?_⟩
  rcases List.mem_cons.mp hx with rfl | hx
  ·grind
  ·exact h2 x hx
theorem A3f : ∀ (vs : LQ) (m : Rat), lm vs m = m \/ lm vs m ∈ vs
 | [], m => .inl rfl
 | v :: r, m => by
  have e : lm (v :: r) m = lm r (if v < m then v else m) := rfl
  rw [e]
  rcases A3f r (if v < m then v else m) with h | h
  ·rw [h]
   split
   ·exact .inr List.mem_cons_self
   ·exact .inl rfl
  ·exact .inr (List.mem_cons_of_mem _ h)
def val (q : Rat) (c : Rat × Rat) : Rat := c.2 + q * c.1
theorem B5k {q m t : Rat} {c d : Rat × Rat} (hcd : d.1 < c.1) (h1 : m <= val q c) (h2 : m <= val q d) (t1 : d.1 <= t) (t2 : t <= c.1) : ¬ B4e c d t + q * t < m := by
 have hn : c.1 - d.1 ≠ 0 := by grind
 have hp : 0 < c.1 - d.1 := by grind
 obtain ⟨x, hx⟩ : ∃ x, x = (c.1 - t) / (c.1 - d.1) := ⟨_, rfl⟩
 have hx1 : x * (c.1 - d.1) = c.1 - t := by rw [hx]; exact Rat.div_mul_cancel hn
 have x0 : 0 <= x := by
  refine Rat.le_of_mul_le_mul_right (c := c.1 - d.1) ?_ hp
  rw [hx1]; grind
 have x1 : x <= 1 := by
  refine Rat.le_of_mul_le_mul_right (c := c.1 - d.1) ?_ hp
  rw [hx1]; grind
 have e1 : J1 c d * (c.1 - t) = (d.2 - c.2) * x := by
  unfold J1
  rw [hx, Rat.div_def, Rat.div_def]; grind
 have e2 : B4e c d t + q * t = (1 - x) * val q c + x * val q d := by
  unfold B4e val
  rw [e1]
  have ht : t = c.1 - x * (c.1 - d.1) := by grind
  rw [ht]; grind
 have a1 : 0 <= (1 - x) * (val q c - m) := Rat.mul_nonneg (by grind) (by grind)
 have a2 : 0 <= x * (val q d - m) := Rat.mul_nonneg x0 (by grind)
 rw [e2]
 grind
theorem B8q {x : Int} (h : x <= 60) : Rat.divInt x 60 <= 1 := by
 have e : Rat.divInt 1 1 - Rat.divInt x 60 = Rat.divInt (1 * 60 - x * 1) (1 * 60) := Rat.divInt_sub_divInt _ _ (by decide) (by decide)
 have h1 : 0 <= Rat.divInt (1 * 60 - x * 1) (1 * 60) := P4 (by omega) (by decide)
 have h2 : Rat.divInt 1 1 = 1 := by decide +kernel
 rw [<- e, h2] at h1
 grind
theorem smr0 : SmR 1 1 0 := ⟨by unfold Sm; decide, by unfold Sm; decide⟩
theorem smq0 : SmQ 3900 0 := ⟨smr0.1.mono (by decide), smr0.2.mono (by decide)⟩
def CvI (l : LR) : Prop := ∀ (i : Nat) a b c, l[i]? = some a -> l[i + 1]? = some b -> l[i + 2]? = some c -> J1 a b < J1 b c
def Ltt (l : LR) : Prop := l.Pairwise fun a b => b.1 < a.1
theorem S9 {a b : Rat × Rat} (h : b.1 < a.1) : J1 a b * (a.1 - b.1) = b.2 - a.2 := by unfold J1; exact Rat.div_mul_cancel (by grind)
theorem CvI.push {l : LR} {c : Rat × Rat} (H : CvI l) (h : ∀ A a b, l = A ++ [a, b] -> J1 a b < J1 b c) : CvI (l ++ [c]) := by
 intro j x y z h1 h2 h3
 have hl : j + 2 < l.length + 1 := by have := (List.getElem?_eq_some_iff.mp h3).1; simpa using this
 rcases (show j + 2 < l.length \/ j + 2 = l.length by omega) with q | q
 ·rw [List.getElem?_append_left (by omega)] at h1 h2 h3
  exact H j x y z h1 h2 h3
 ·rw [List.getElem?_append_left (by omega)] at h1 h2
  rw [List.getElem?_append_right (by omega), q, Nat.sub_self] at h3
  cases h3
  refine h (l.take j) x y ?_
  have e1 : l.drop j = [x, y] := by
   refine List.ext_getElem? fun k => ?_
   rw [List.getElem?_drop]
   match k with
   | 0 => simpa using h1
   | 1 => simpa using h2
   | k + 2 => simp; omega
  rw [<- e1, List.take_append_drop]
def CvR (l : LR) (R : Rat) : Prop := CvI l /\ ∀ A a b, l = A ++ [a, b] -> J1 a b = R
theorem CvR.one (c : Rat × Rat) : CvR [c] 0 := by
 refine ⟨fun i a b d h1 h2 h3 => ?_, fun A a b e => ?_⟩
 ·have := (List.getElem?_eq_some_iff.mp h3).1; simp at this
 ·have := congrArg List.length e; simp at this
theorem CvR.step {cs : LR} {T P R q v v2 : Rat} (q0 : 0 < q) (v0 : 0 < v) (hv : v2 = (R + v) * q) (h : CvR (cs ++ [(T, P)]) R) : CvR (cs ++ [(T, P)] ++ [(T - q, P + v2)]) (R + v) := by
 have es : J1 (T, P) (T - q, P + v2) = R + v := by
  have e := S9 (a := (T, P)) (b := (T - q, P + v2)) (by show T - q < T; grind)
  have e' : J1 (T, P) (T - q, P + v2) * q = (R + v) * q := by
   rw [<- hv]
   have : J1 (T, P) (T - q, P + v2) * (T - (T - q)) = P + v2 - P := e
   grind
  have hq : q ≠ 0 := by grind
  rw [<- Rat.mul_div_cancel (b := q) hq (a := J1 (T, P) (T - q, P + v2)), e', Rat.mul_div_cancel hq]
 refine ⟨h.1.push fun A a b e => ?_, fun A a b e => ?_⟩
 ·have hb : b = (T, P) := by
   have e' : cs ++ [(T, P)] = (A ++ [a]) ++ [b] := by rw [e]; simp
   have := (List.append_inj' e' rfl).2
   cases this; rfl
  have := h.2 A a b e
  rw [this, hb, es]; grind
 ·have e' : cs ++ [(T, P), (T - q, P + v2)] = A ++ [a, b] := by rw [<- e]; simp
  have := (List.append_inj' e' rfl).2
  cases this; exact es
theorem CvI.scale {l : LR} {s k : Rat} (hs : 0 < s) (hk : 0 < k) (d : Ltt l) (h : CvI l) : CvI (l.map fun c => (c.1 * s, c.2 * k)) := by
 have hh : ∀ {a b : Rat × Rat}, b.1 < a.1 -> J1 (a.1 * s, a.2 * k) (b.1 * s, b.2 * k) * s = J1 a b * k := by
  intro a b hb
  have m := Rat.mul_pos (show 0 < a.1 - b.1 by grind) hs
  have e1 := S9 (a := (a.1 * s, a.2 * k)) (b := (b.1 * s, b.2 * k)) (by show b.1 * s < a.1 * s; grind)
  have e2 := S9 hb
  have e1' : J1 (a.1 * s, a.2 * k) (b.1 * s, b.2 * k) * (a.1 * s - b.1 * s) = b.2 * k - a.2 * k := e1
  generalize J1 (a.1 * s, a.2 * k) (b.1 * s, b.2 * k) = z at *
  have hn : a.1 - b.1 ≠ 0 := by grind
  have e3 : (z * s) * (a.1 - b.1) = (J1 a b * k) * (a.1 - b.1) := by grind
  rw [<- Rat.mul_div_cancel (b := a.1 - b.1) hn (a := z * s), e3, Rat.mul_div_cancel hn]
 intro i a b c h1 h2 h3
 rw [List.getElem?_map] at h1 h2 h3
 cases x1 : l[i]? with
 | none => rw [x1] at h1; cases h1
 | some a' => cases x2 : l[i + 1]? with
  | none => rw [x2] at h2; cases h2
  | some b' => cases x3 : l[i + 2]? with
   | none => rw [x3] at h3; cases h3
   | some c' =>
    rw [x1] at h1; rw [x2] at h2; rw [x3] at h3
    cases h1; cases h2; cases h3
    have lt1 : b'.1 < a'.1 := List.pairwise_iff_getElem.mp d i (i + 1) (List.getElem?_eq_some_iff.mp x1).1 (List.getElem?_eq_some_iff.mp x2).1 (by omega) |> fun z => by
     rw [(List.getElem?_eq_some_iff.mp x1).2, (List.getElem?_eq_some_iff.mp x2).2] at z; exact z
    have lt2 : c'.1 < b'.1 := List.pairwise_iff_getElem.mp d (i + 1) (i + 2) (List.getElem?_eq_some_iff.mp x2).1 (List.getElem?_eq_some_iff.mp x3).1 (by omega) |> fun z => by
     rw [(List.getElem?_eq_some_iff.mp x2).2, (List.getElem?_eq_some_iff.mp x3).2] at z; exact z
    have g := h i a' b' c' x1 x2 x3
    have g1 := hh lt1
    have g2 := hh lt2
    have g3 := Rat.mul_pos (show 0 < J1 b' c' - J1 a' b' by grind) hk
    refine Rat.not_le.mp fun z => ?_
    have g4 := Rat.mul_nonneg (show 0 <= J1 (a'.1 * s, a'.2 * k) (b'.1 * s, b'.2 * k) - J1 (b'.1 * s, b'.2 * k) (c'.1 * s, c'.2 * k) by grind) (Rat.le_of_lt hs)
    grind
theorem B2j {α : Type} {f : α -> PyData} {xs : List α} {n : Nat} (h : n <= xs.length) : cutD (xs.map f) none (some (n : Int)) = (xs.take n).map f := by
 unfold cutD
 rw [HT.sIx_none, show HT.sIx (xs.map f).length (xs.map f).length (some (n : Int)) = min n xs.length by rw [List.length_map]; exact HT.sIx_nat _ _ n, List.map_take]
 rw [Nat.min_eq_left h]; simp
theorem B8b {α : Type} {f : α -> PyData} {xs : List α} {n : Nat} (h : n <= xs.length) : cutD (xs.map f) (some (n : Int)) none = (xs.drop n).map f := by
 unfold cutD
 rw [HT.sIx_none, show HT.sIx (xs.map f).length 0 (some (n : Int)) = min n xs.length by rw [List.length_map]; exact HT.sIx_nat _ _ n, List.map_drop, Nat.min_eq_left h, List.length_map]
 rw [List.take_of_length_le (by simp)]
def RiseO (cs : LR) : Prop := ∀ (i : Nat) c d, cs[i]? = some c -> cs[i + 1]? = some d -> d.1 < c.1 /\ c.2 < d.2
theorem RiseO.one (c : Rat × Rat) : RiseO [c] := fun i a b _ h => by rw [List.getElem?_eq_none (by simp)] at h; cases h
theorem RiseO.snoc {cs : LR} {c d : Rat × Rat} (h : RiseO (cs ++ [c])) (h1 : d.1 < c.1) (h2 : c.2 < d.2) : RiseO (cs ++ [c] ++ [d]) := fun i a b ha hb => by
 rcases Nat.lt_trichotomy (i + 1) (cs ++ [c]).length with z | z | z
 ·rw [List.getElem?_append_left (by omega)] at ha
  rw [List.getElem?_append_left z] at hb
  exact h i a b ha hb
 ·rw [List.getElem?_append_left (by omega)] at ha
  rw [z, List.getElem?_append_right (Nat.le_refl _), Nat.sub_self] at hb
  have hi : i = cs.length := by simp at z; exact z
  rw [hi, List.getElem?_append_right (Nat.le_refl _), Nat.sub_self] at ha
  cases ha; cases hb
  exact ⟨h1, h2⟩
 ·rw [List.getElem?_eq_none (by simp at z ⊢; omega)] at hb; cases hb
def sumR (qs : LQ) : Rat := qs.foldr (· + ·) 0
theorem Z5 : ∀ (qs : LQ) (q : Rat), sumR (qs ++ [q]) = sumR qs + q
 | [], q => by show q + 0 = 0 + q; grind
 | p :: r, q => by
  have h := Z5 r q
  show p + sumR (r ++ [q]) = p + sumR r + q
  rw [h]; grind
theorem W7 : ∀ {qs : LQ}, (∀ q ∈ qs, 0 < q) -> 0 <= sumR qs
 | [], _ => Rat.le_refl
 | p :: r, h => by
  have h1 := W7 (qs := r) fun q hq => h q (List.mem_cons_of_mem _ hq)
  have h2 := h p List.mem_cons_self
  show 0 <= p + sumR r
  grind
structure OfG (kd : Str) (cs : LR) (a b c d : Nat) : Prop where
 ok : OfOk cs a b c d
 nn : ∀ x ∈ cs, 0 <= x.1 /\ 0 <= x.2
 up : RiseO cs
 cv : kd = "straight" -> CvI cs
def wD (w : Int × Int × Rat) : PyData := .tuple [.int w.1, .int w.2.1, dq w.2.2]
def hD (h : Str × Int × Rat) : PyData := .tuple [.str h.1, .int h.2.1, dq h.2.2]
def On (B k : Nat) (q : Rat) : Prop := ∃ z : Int, q = Rat.divInt z (B : Int) /\ z.natAbs <= k * B
theorem On.mono {B k l : Nat} {q : Rat} (h : On B k q) (g : k <= l) : On B l q := let ⟨z, e, b⟩ := h; ⟨z, e, Nat.le_trans b (Nat.mul_le_mul_right _ g)⟩
theorem On.add {B k l : Nat} {p q : Rat} (hB : 0 < B) (h : On B k p) (g : On B l q) : On B (k + l) (p + q) := by
 obtain ⟨z, rfl, b⟩ := h
 obtain ⟨y, rfl, c⟩ := g
 have hn : (B : Int) ≠ 0 := by omega
 refine ⟨z + y, ?_, Nat.le_trans (Int.natAbs_add_le _ _) (by rw [Nat.add_mul]; omega)⟩
 rw [Rat.divInt_add_divInt _ _ hn hn, <- Int.add_mul, Rat.divInt_mul_right hn]
theorem On.neg {B k : Nat} {p : Rat} (h : On B k p) : On B k (-p) := by
 obtain ⟨z, rfl, b⟩ := h
 exact ⟨-z, by rw [Rat.neg_divInt], by rw [Int.natAbs_neg]; exact b⟩
theorem On.sub {B k l : Nat} {p q : Rat} (hB : 0 < B) (h : On B k p) (g : On B l q) : On B (k + l) (p - q) := by
 rw [Rat.sub_eq_add_neg]; exact h.add hB g.neg
theorem On.of {B a b : Nat} {q : Rat} (hB : 0 < B) (h : SmR a b q) (d : q.den ∣ B) : On B (2 ^ a) q := by
 obtain ⟨c, rfl⟩ := d
 have hd := q.den_pos
 by_cases hc : c = 0
 ·subst hc; rw [Nat.mul_zero] at hB; exact absurd hB (Nat.lt_irrefl _)
 ·refine ⟨q.num * c, ?_, ?_⟩
  ·rw [Int.natCast_mul, Rat.divInt_mul_right (by omega), Rat.num_divInt_den]
  ·rw [Int.natAbs_mul, Int.natAbs_natCast]
   have h1 : q.num.natAbs <= 2 ^ a := Nat.le_of_lt h.1
   exact Nat.mul_le_mul h1 (Nat.le_mul_of_pos_left _ hd)
theorem On.zero {B : Nat} : On B 0 0 := ⟨0, by rw [Rat.zero_divInt], by simp⟩
theorem On.q {B k : Nat} {q : Rat} (hB : 0 < B) (h : On B k q) (g : k * B < 2 ^ 3900) (g2 : B < 2 ^ 3900) : SmQ 3900 q := by
 obtain ⟨z, rfl, b⟩ := h
 have := SmR.low (n := 3900) (d := 3900) (t := z) (b := (B : Int)) (Nat.lt_of_le_of_lt b g) (by unfold Sm; rw [Int.natAbs_natCast]; exact g2) (by omega)
 exact ⟨this.1, this.2⟩
theorem On.up {B C k : Nat} {q : Rat} (hC : 0 < C) (h : On B k q) : On (B * C) k q := by
 obtain ⟨z, rfl, b⟩ := h
 refine ⟨z * C, by rw [Int.natCast_mul, Rat.divInt_mul_right (by omega)], ?_⟩
 rw [Int.natAbs_mul, Int.natAbs_natCast, <- Nat.mul_assoc]
 exact Nat.mul_le_mul_right _ b
theorem A3n {a b : Str} : PyData.eqv (.str a) (.str b) = decide (a = b) := by
 rw [Bool.eq_iff_iff, decide_eq_true_eq]
 simp [PyData.eqv]
def LL : Nat := 591133442051411133755680800
theorem D2 : 0 < LL := by decide
theorem B7k {d : Nat} (h0 : 0 < d) (h : d < 64) : d ∣ LL := by
 have k : ∀ d : Fin 64, d.val = 0 \/ LL % d.val = 0 := by decide +kernel
 rcases k ⟨d, h⟩ with z | z
 ·exact absurd z (Nat.ne_of_gt h0)
 ·exact Nat.dvd_of_mod_eq_zero z
theorem N3 {q : Rat} (h : SmR 41 6 q) : On LL (2 ^ 41) q := by
 refine On.of D2 h (B7k q.den_pos ?_)
 have := h.2; unfold Sm at this; rw [Int.natAbs_natCast] at this; exact this
theorem On.mul {B C k l : Nat} {p q : Rat} (h : On B k p) (g : On C l q) : On (B * C) (k * l) (p * q) := by
 obtain ⟨z, rfl, b⟩ := h
 obtain ⟨y, rfl, c⟩ := g
 refine ⟨z * y, by rw [Rat.divInt_mul_divInt, Int.natCast_mul], ?_⟩
 rw [Int.natAbs_mul]
 have := Nat.mul_le_mul b c
 rw [Nat.mul_mul_mul_comm] at this
 exact this
theorem onQ {B k : Nat} {q : Rat} (h : On B k q) (hB : 0 < B) (hb : B <= 2 ^ 1000) (g : k <= 2 ^ 1000) : SmQ 3900 q := by
 refine h.q hB (Nat.lt_of_le_of_lt (Nat.mul_le_mul g hb) ?_) (Nat.lt_of_le_of_lt hb ?_)
 ·rw [<- Nat.pow_add]; exact Nat.pow_lt_pow_right (by decide) (by decide)
 ·exact Nat.pow_lt_pow_right (by decide) (by decide)
theorem On.p2 {B a b : Nat} {q : Rat} (h : On B (2 ^ a) q) (g : a <= b) : On B (2 ^ b) q := h.mono (Nat.pow_le_pow_right (by decide) g)
theorem On.add2 {B a b : Nat} {p q : Rat} (hB : 0 < B) (h : On B (2 ^ a) p) (g : On B (2 ^ a) q) (hb : a + 1 <= b) : On B (2 ^ b) (p + q) := by
 refine (h.add hB g).mono (Nat.le_trans ?_ (Nat.pow_le_pow_right (by decide) hb))
 rw [Nat.pow_succ]; omega
theorem On.sub2 {B a b : Nat} {p q : Rat} (hB : 0 < B) (h : On B (2 ^ a) p) (g : On B (2 ^ a) q) (hb : a + 1 <= b) : On B (2 ^ b) (p - q) := by
 refine (h.sub hB g).mono (Nat.le_trans ?_ (Nat.pow_le_pow_right (by decide) hb))
 rw [Nat.pow_succ]; omega
def OnP (l : LR) : Prop := ∀ (i : Nat) a b, l[i]? = some a -> l[i + 1]? = some b -> On LL (2 ^ 45) (J1 a b)
theorem OnP.one (c : Rat × Rat) : OnP [c] := fun i a b _ h => by rw [List.getElem?_eq_none (by simp)] at h; cases h
theorem OnP.snoc {l : LR} {c d : Rat × Rat} (h : OnP (l ++ [c])) (h1 : On LL (2 ^ 45) (J1 c d)) : OnP (l ++ [c] ++ [d]) := fun i a b ha hb => by
 rcases Nat.lt_trichotomy (i + 1) (l ++ [c]).length with z | z | z
 ·rw [List.getElem?_append_left (by omega)] at ha
  rw [List.getElem?_append_left z] at hb
  exact h i a b ha hb
 ·rw [List.getElem?_append_left (by omega)] at ha
  rw [z, List.getElem?_append_right (Nat.le_refl _), Nat.sub_self] at hb
  have hi : i = l.length := by simp at z; exact z
  rw [hi, List.getElem?_append_right (Nat.le_refl _), Nat.sub_self] at ha
  cases ha; cases hb
  exact h1
 ·rw [List.getElem?_eq_none (by simp at z ⊢; omega)] at hb; cases hb
def OnC (cs : LR) : Prop := ∀ c ∈ cs, On LL (2 ^ 45) c.1 /\ On (LL * LL) (2 ^ 90) c.2
def Hk (k : Str) : Prop := k = "from" \/ k = "till" \/ k = "by"
def HOk (n : Int) (hs : LH) : Prop := ∀ h ∈ hs, Hk h.1 /\ (0 <= h.2.1 /\ h.2.1 < n) /\ On LL (2 ^ 55) h.2.2
theorem Hk.lay {kd : Str} (h : Hk kd) : (PyData.str kd).canLay0 = true := by rcases h with rfl | rfl | rfl <;> decide +kernel
theorem A3i : (PyData.str "from").canLay0 = true := by decide +kernel
theorem B5y {c : Nat} (h : c < 128) : (sgn c).canLay0 = true := by
 show PyData.strOk ⟨#[c]⟩ = true
 unfold PyData.strOk
 simp
 omega
theorem getS {z : Str} {n : Int} (hl : z.length <= 1000) (all : z.cps.toList.all (fun c => decide (c < 128)) = true) (h0 : 0 <= n) (h1 : n < z.length) {Q : SV -> Prop} (q : ∀ c, c < 128 -> Q (.d (sgn c))) : B35 z n Q := by
 obtain ⟨m, rfl⟩ := Int.eq_ofNat_of_zero_le h0
 have hm : m < z.cps.toList.length := by rw [Array.length_toList]; exact Int.ofNat_lt.mp h1
 refine ⟨z.cps.toList[m], L4 (List.getElem?_eq_getElem hm), q _ ?_⟩
 have := List.all_eq_true.mp all _ (List.getElem_mem hm)
 simpa using this
abbrev Wk := Str × Str × LR
def kD (x : Wk) : PyData := .tuple [.str x.1, offD x.2.1 x.2.2]
def netD (xs : List Wk) (ws : LW) (hs : LH) (gs : LP) : PyData := .tuple [.list (xs.map kD), .list (ws.map wD), .list (hs.map hD), .list gs]
def fb (qs : LQ) : Option Nat := qs.findIdx? fun q => decide (q < 0)
theorem B8a {ps : LR} {o : Int} {p : Rat × Rat} (h0 : 0 <= o) (h : ps[o.toNat]? = some p) : L2.atI (ps.map dcn) o = some (dcn p) := by
 obtain ⟨i, rfl⟩ := Int.eq_ofNat_of_zero_le h0
 exact L4 (by rw [List.getElem?_map]; rw [Int.toNat_natCast] at h; rw [h]; rfl)
def sat (ps : LR) (o : Int) : Rat × Rat := ps.getD o.toNat (0, 0)
theorem T1 {ps : LR} {o : Int} (h0 : 0 <= o) (h1 : o < (ps.length : Int)) : L2.atI (ps.map dcn) o = some (dcn (sat ps o)) :=
 B8a h0 (by unfold sat; rw [List.getD_eq_getElem?_getD, List.getElem?_eq_getElem (by omega : o.toNat < ps.length)]; rfl)
def enD (p : Rat × Rat) : Rat := p.1 + p.2
def wSl (ps : LR) (w : Int × Int × Rat) : Rat := (sat ps w.2.1).1 - (enD (sat ps w.1) + w.2.2)
def hSl (ps : LR) (h : Str × Int × Rat) : Rat := if h.1 = "from" then (sat ps h.2.1).1 - h.2.2 else if h.1 = "till" then h.2.2 - (sat ps h.2.1).1 else h.2.2 - enD (sat ps h.2.1)
structure PlSm (p : Rat × Rat) : Prop where
 s : SmQ 3900 p.1
 t : SmQ 3900 p.2
 e : SmQ 3900 (enD p)
theorem B2f : PyData.eqv (.str "from") (.str "from") = true := by decide +kernel
theorem B2e : PyData.eqv (.str "till") (.str "from") = false := by decide +kernel
theorem B2h : PyData.eqv (.str "by") (.str "from") = false := by decide +kernel
theorem A8c : PyData.eqv (.str "till") (.str "till") = true := by decide +kernel
theorem A8d : PyData.eqv (.str "by") (.str "till") = false := by decide +kernel
theorem Q9 : (PyData.str "till").canLay0 = true := by decide +kernel
theorem A7k : (Str.ofString "till") ≠ Str.ofString "from" := by decide +kernel
theorem A7l : (Str.ofString "by") ≠ Str.ofString "from" := by decide +kernel
theorem A95 : (Str.ofString "by") ≠ Str.ofString "till" := by decide +kernel
structure Off (kd : Str) (cs : LR) (t : Rat) : Prop where
 st : kd = "steps" -> ∃ c ∈ cs, c.1 = t
 sr : kd = "straight" -> ∃ c0 cl, cs[0]? = some c0 /\ cs[cs.length - 1]? = some cl /\ ¬ t < cl.1 /\ ¬ c0.1 < t
theorem A1r {ps : LR} {o : Int} (h0 : 0 <= o) (h1 : o < (ps.length : Int)) : sat ps o ∈ ps := by
 unfold sat
 rw [List.getD_eq_getElem?_getD, List.getElem?_eq_getElem (by omega : o.toNat < ps.length)]
 exact List.getElem_mem _
theorem T8 {kd : Str} {cs : LR} {t : Rat} {i j : Nat} {c d : Rat × Rat} (hd : Dec cs) (hs : kd ≠ "steps") (h1 : 1 <= cs.length) (ei : cs[i]? = some c) (ej : cs[j]? = some d) (h2 : t <= c.1) (h3 : d.1 <= t) : Off kd cs t := by
 refine ⟨fun z => absurd z hs, fun _ => ?_⟩
 have e0 : cs[0]? = some cs[0] := List.getElem?_eq_getElem (by omega)
 have el : cs[cs.length - 1]? = some cs[cs.length - 1] := List.getElem?_eq_getElem (by omega)
 have hi := (List.getElem?_eq_some_iff.mp ei).1
 have hj := (List.getElem?_eq_some_iff.mp ej).1
 refine ⟨_, _, e0, el, Rat.not_lt.mpr ?_, Rat.not_lt.mpr ?_⟩
 ·by_cases z : j = cs.length - 1
  ·subst z; rw [ej] at el; cases el; exact h3
  ·exact Rat.le_trans (Rat.le_of_lt (hd.get ej el (by omega))) h3
 ·by_cases z : i = 0
  ·subst z; rw [ei] at e0; cases e0; exact h2
  ·exact Rat.le_trans h2 (Rat.le_of_lt (hd.get e0 ei (by omega)))
theorem A4f {kd : Str} {cs : LR} {i : Nat} {c : Rat × Rat} (hk : Kd kd) (hd : Dec cs) (h1 : 1 <= cs.length) (ei : cs[i]? = some c) : Off kd cs c.1 := by
 by_cases z : kd = "steps"
 ·exact ⟨fun _ => ⟨c, List.mem_of_getElem? ei, rfl⟩, fun q => absurd (z.symm.trans q) (by decide +kernel)⟩
 ·exact T8 hd z h1 ei ei Rat.le_refl Rat.le_refl
theorem S4 : ∀ ls : List Int, PyData.canLayAll0 (ls.map PyData.int) = true
 | [] => rfl
 | n :: r => by
  show ((PyData.int n).canLay0 && PyData.canLayAll0 (r.map PyData.int)) = true
  rw [S4 r]; rfl
theorem A3p : ∀ ls : List Int, PyData.depthAll (ls.map PyData.int) <= 1
 | [] => by decide
 | n :: r => by
  show max (PyData.int n).depth (PyData.depthAll (r.map PyData.int)) <= 1
  have := A3p r
  have : (PyData.int n).depth = 0 := rfl
  omega
theorem A00 (ls : List Int) : (PyData.list (ls.map PyData.int)).depth <= 60 := by
 show PyData.depthAll (ls.map PyData.int) + 1 <= 60
 have := A3p ls
 omega
theorem A3o (ls : List Int) : (PyData.list (ls.map PyData.int)).eqv (.list []) = ls.isEmpty := by
 cases ls <;> rfl
def rat (ss : LQ) (o : Int) : Rat := ss.getD o.toNat 0
theorem A2t {ss : LQ} {o : Int} (h0 : 0 <= o) (h1 : o < (ss.length : Int)) : L2.atI (ss.map dq) o = some (dq (rat ss o)) := by
 obtain ⟨i, rfl⟩ := Int.eq_ofNat_of_zero_le h0
 have hi : i < ss.length := by omega
 refine L4 ?_
 unfold rat
 rw [List.getElem?_map, Int.toNat_natCast, List.getD_eq_getElem?_getD, List.getElem?_eq_getElem hi]; rfl
theorem Q2 {ss : LQ} {o : Int} (h0 : 0 <= o) (h1 : o < (ss.length : Int)) : rat ss o ∈ ss := by
 unfold rat
 rw [List.getD_eq_getElem?_getD, List.getElem?_eq_getElem (by omega : o.toNat < ss.length)]
 exact List.getElem_mem _
theorem N5 {o : Int} {n : Nat} (h0 : 0 <= o) (h1 : o < (n : Int)) : ixN n o = some o.toNat := by
 obtain ⟨i, rfl⟩ := Int.eq_ofNat_of_zero_le h0
 have hi : i < n := by omega
 unfold ixN
 simp
 omega
theorem O5 {B k m : Nat} {p q : Rat} (hB : 0 < B) (h : On B (m * k) p) (g : On B k q) : On B ((m + 1) * k) (p + q) := (h.add hB g).mono (by rw [Nat.add_mul, Nat.one_mul]; exact Nat.le_refl _)
theorem B73 : PyData.eqv (.str "from") (.str "till") = false := by decide +kernel
theorem B74 : PyData.eqv (.str "from") (.str "by") = false := by decide +kernel
theorem B72 : PyData.eqv (.str "till") (.str "by") = false := by decide +kernel
theorem B75 : PyData.eqv (.str "by") (.str "by") = true := by decide +kernel
theorem A0v : (PyData.str "by").canLay0 = true := by decide +kernel
theorem num_lt {q : Rat} : q.num < 0 ↔ q < 0 := by
 rw [<- Rat.not_le, <- Rat.num_nonneg]; omega
def vD : Option Rat -> PyData
 | none => .none
 | some q => dq q
theorem B5z {ps : LR} {i : Nat} {p : Rat × Rat} (h : ps[i]? = some p) : sat ps (i : Int) = p := by
 unfold sat
 rw [Int.toNat_natCast, List.getD_eq_getElem?_getD, h]; rfl
theorem unQ {D c : Nat} {q : Rat} (h : On (LL * D) (c * 2 ^ 60) q) (hD : 0 < D) (hd : D <= 2 ^ 20) (hc : c <= 2 ^ 12) : SmQ 3900 q :=
 onQ h (Nat.mul_pos D2 hD) (Nat.le_trans (Nat.mul_le_mul (Nat.le_of_ble_eq_true rfl : LL <= 2 ^ 100) hd) (by rw [<- Nat.pow_add]; exact Nat.pow_le_pow_right (by decide) (by decide))) (Nat.le_trans (Nat.mul_le_mul_right _ hc) (by rw [<- Nat.pow_add]; exact Nat.pow_le_pow_right (by decide) (by decide)))
theorem B5m {D a b c : Nat} {p q : Rat} (hD : 0 < D) (h : On (LL * D) (a * 2 ^ 60) p) (g : On (LL * D) (b * 2 ^ 60) q) (hc : a + b <= c) : On (LL * D) (c * 2 ^ 60) (p + q) :=
 (h.add (Nat.mul_pos D2 hD) g).mono (by rw [<- Nat.add_mul]; exact Nat.mul_le_mul_right _ hc)
theorem A2m {D a c : Nat} {q : Rat} (h : On (LL * D) (a * 2 ^ 60) q) (hc : a <= c) : On (LL * D) (c * 2 ^ 60) q := h.mono (Nat.mul_le_mul_right _ hc)
theorem hd {a b : PSt} {D : PEnds} {e : PEnv} (h : ∀ R, R = b -> pSeq a R D e) : pSeq a b D e := h b rfl
theorem Q1 {a b : PSt} {D : PEnds} {e : PEnv} (P : PEnv -> Prop) (h1 : ∀ R : PSt, (∀ e', P e' -> R D e') -> pSeq a R D e) (h2 : ∀ e', P e' -> b D e') : pSeq a b D e := h1 b h2
theorem B2c {g : Int} (g0 : 0 <= g) (g1 : g < 3) : ∃ kd : Str, Hk kd /\ L2.atI [PyData.str "from", .str "till", .str "by"] g = some (.str kd) := by
 have hg : g = 0 \/ g = 1 \/ g = 2 := by omega
 rcases hg with rfl | rfl | rfl
 ·exact ⟨_, .inl rfl, rfl⟩
 ·exact ⟨_, .inr (.inl rfl), rfl⟩
 ·exact ⟨_, .inr (.inr rfl), rfl⟩
def B01 (K : PySem.W.Frag) : Sp := fun vs H Q _ => ∃ (a : Addr) (ns : List Int) (k : Int), vs = [.ref a, .int k] /\ SqL K H a (ns.map V.int) /\ 0 <= k /\ k <= 300 /\ ∀ p H', H p = none -> StAt H' p -> Kp p H H' -> Q (.ref p) H'
def B1b : Pu.PSp := fun as Q => ∃ (ns : List Int) (k : Int), as = [.bor (ns.map .int), .d (.int k)] /\ 0 <= k /\ k <= 300 /\ Q .st
theorem B8f {K : Frag} : ∀ vs H Q E, spOf K [.vw, .dat] B1b vs H Q E -> B01 K vs H Q E := by
 rintro vs H Q E ⟨w, as, Qp, rfl, ok, a, ⟨ns, kk, rfl, k0, k1, q⟩, k⟩
 cases a with
 | vw h t => cases t with
  | dat h' t =>
   cases t
   obtain ⟨a, us, e, hS, hd⟩ := h.lst ok
   subst e
   rw [Den.intE h']
   refine ⟨a, ns, kk, rfl, by rw [<- A76 hd]; exact hS, k0, k1, fun p H' hp S' kp => ?_⟩
   have out : ∀ b o, w.H b = some o -> H' b = some o := fun b o e => kp b o (F4 e hp) e
   refine k (.ref p) .st ⟨fun b => w.M b \/ b = p, H', w.F⟩ ⟨fun b o e => out b o (ok.sub b o e), fun r hr => ?_, fun r hr => ?_⟩ ⟨⟨Same.refl _, fun b o e _ => out b o e, fun _ z => .inl z, fun b z => ?_, fun b e => ?_⟩, fun _ _ z => .inl z⟩ ⟨p, rfl, .inr rfl⟩ rfl q
   ·rcases hr with hr | rfl
    ·exact (ok.st r hr).kp (ok.mne hp hr) kp
    ·exact S'
   ·rcases hr with hr | rfl
    ·exact ok.nf r hr
    ·exact ok.fnone hp
   ·rcases z with z | rfl
    ·exact .inl z
    ·exact .inr hp
   ·cases hb : w.H b with
    | none => rfl
    | some o => have := out b o hb; rw [show H' b = none from e] at this; cases this
theorem A3q {K : PySem.W.Frag} {H : Hp} : ∀ ns : List Int, DenAll K H (ns.map V.int) (ns.map PyData.int)
 | [] => .nil
 | n :: r => .cons (.int n) (A3q r)
theorem W3 : ∀ (n : Nat) {a : Array Nat} (b : Array Nat), (a.all fun c => decide (c < 0x110000)) = true -> (b.all fun c => decide (c < 0x110000)) = true -> (((List.replicate n a).foldl (· ++ ·) b).all fun c => decide (c < 0x110000)) = true
 | 0, _, _, _, hb => hb
 | n + 1, a, b, ha, hb => by
  rw [List.replicate_succ, List.foldl_cons]
  exact W3 n (b ++ a) ha (by rw [Array.all_append, ha, hb]; rfl)
theorem B4m {x : Str} {n : Int} (h : (PyData.str x).canLay0 = true) : (PyData.str (Txt.mul x n)).canLay0 = true := by
 unfold Txt.mul
 split
 ·decide +kernel
 ·split
  ·exact h
  ·exact W3 _ _ h (by decide +kernel)
def pD (v : Int × Int) : PyData := .tuple [.int v.1, .int v.2]
def qD (u : Str × Int) : PyData := .tuple [.str u.1, .int u.2]
def shD (xs : List Wk) (vs : List (Int × Int)) (us : List (Str × Int)) : PyData := .tuple [.list (xs.map kD), .list (vs.map pD), .list (us.map qD)]
structure ShOk (n : Nat) (xs : List Wk) (vs : List (Int × Int)) (us : List (Str × Int)) : Prop where
 ln : xs.length = n
 n0 : 1 <= n
 n1 : n <= 10
 of : ∀ x ∈ xs, Kd x.2.1 /\ OfG x.2.1 x.2.2 100 54 244 130 /\ OnC x.2.2 /\ (x.2.1 = "straight" -> OnP x.2.2)
 nm : ∀ x ∈ xs, (PyData.str x.1).canLay0 = true
 vl : vs.length <= 40
 vk : ∀ v ∈ vs, (0 <= v.1 /\ v.1 < (n : Int)) /\ (0 <= v.2 /\ v.2 < (n : Int))
 ul : us.length <= 40
 uk : ∀ u ∈ us, Hk u.1 /\ 0 <= u.2 /\ u.2 < (n : Int)
 vn : ∀ v ∈ vs, v.1 ≠ v.2
theorem ShOk.addV {n : Nat} {xs : List Wk} {vs : List (Int × Int)} {us : List (Str × Int)} {a b : Int} (ok : ShOk n xs vs us) (ha : 0 <= a /\ a < (n : Int)) (hb : 0 <= b /\ b < (n : Int)) (hv : vs.length < 40) (hne : a ≠ b) : ShOk n xs (vs ++ [(a, b)]) us := by
 refine ⟨ok.ln, ok.n0, ok.n1, ok.of, ok.nm, by rw [List.length_append, List.length_singleton]; omega, fun v hv' => ?_, ok.ul, ok.uk, fun v hv' => ?_⟩
 ·rcases List.mem_append.mp hv' with q | q
  ·exact ok.vk v q
  ·rw [List.mem_singleton.mp q]; exact ⟨ha, hb⟩
 ·rcases List.mem_append.mp hv' with q | q
  ·exact ok.vn v q
  ·rw [List.mem_singleton.mp q]; exact hne
theorem ShOk.addU {n : Nat} {xs : List Wk} {vs : List (Int × Int)} {us : List (Str × Int)} {a : Int} {kd : Str} (ok : ShOk n xs vs us) (ha : 0 <= a /\ a < (n : Int)) (hk : Hk kd) (hu : us.length < 40) : ShOk n xs vs (us ++ [(kd, a)]) := by
 refine ⟨ok.ln, ok.n0, ok.n1, ok.of, ok.nm, ok.vl, ok.vk, by rw [List.length_append, List.length_singleton]; omega, fun v hv' => ?_, ok.vn⟩
 rcases List.mem_append.mp hv' with q | q
 ·exact ok.uk v q
 ·rw [List.mem_singleton.mp q]; exact ⟨hk, ha⟩
def ltr2 : Str := Str.ofString "hcjafdibge"
theorem Y1 : ltr2.length = 10 := by decide +kernel
theorem A97 : ltr2.cps.toList.all (fun c => decide (c < 128)) = true := by decide +kernel
theorem B4n {d : Int} (d0 : 0 <= d) (d1 : d < 8) : ∃ n : Nat, (1 <= n /\ n <= 10) /\ L2.atI [PyData.int 1, .int 2, .int 3, .int 4, .int 5, .int 5, .int 7, .int 10] d = some (.int (n : Int)) := by
 have hg : d = 0 \/ d = 1 \/ d = 2 \/ d = 3 \/ d = 4 \/ d = 5 \/ d = 6 \/ d = 7 := by omega
 rcases hg with rfl | rfl | rfl | rfl | rfl | rfl | rfl | rfl
 ·exact ⟨1, by decide, rfl⟩
 ·exact ⟨2, by decide, rfl⟩
 ·exact ⟨3, by decide, rfl⟩
 ·exact ⟨4, by decide, rfl⟩
 ·exact ⟨5, by decide, rfl⟩
 ·exact ⟨5, by decide, rfl⟩
 ·exact ⟨7, by decide, rfl⟩
 ·exact ⟨10, by decide, rfl⟩
theorem A0u : ∀ ls : List Int, PyData.canLayAll0 (ls.map PyData.int) = true := S4
theorem A93 {n : Nat} : ∀ {l : List Int}, l.Nodup -> (∀ x ∈ l, 0 <= x /\ x < (n : Int)) -> l.length <= n := fun {l} h g => by
 have h2 : (l.map Int.toNat).Nodup := List.pairwise_map.mpr (List.Pairwise.imp_of_mem (fun {a b} ha hb (hne : a ≠ b) e => by have := g a ha; have := g b hb; omega) h)
 have h3 : (l.map Int.toNat) ⊆ List.range n := fun a ha => by
  obtain ⟨x, hx, rfl⟩ := List.mem_map.mp ha
  have := g x hx
  exact List.mem_range.mpr (by omega)
 have := List.Nodup.length_le_of_subset h2 h3
 simpa using this
def ArOk (n v u : Nat) (a : Str × Int) : Prop := 0 <= a.2 /\ ((a.1 = "start" /\ a.2 < (n : Int)) \/ (a.1 = "end" /\ a.2 < (n : Int)) \/ (a.1 = "wait" /\ a.2 < (v : Int)) \/ (a.1 = "hold" /\ a.2 < (u : Int)))
theorem A0a {u : Str × Int} (h : Hk u.1) : (qD u).canLay0 = true := by
 show ((PyData.str u.1).canLay0 && ((PyData.int u.2).canLay0 && true)) = true
 rw [h.lay]; rfl
theorem A2x (u : Str × Int) : (qD u).depth <= 60 := by unfold qD; exact Nat.le_of_ble_eq_true rfl
theorem ArOk.snoc {n v u : Nat} {fs : List (Str × Int)} {i : Nat} (h : ∀ a ∈ fs, ArOk n v u a) (hi : i < u) : ∀ a ∈ fs ++ [(Str.ofString "hold", (i : Int))], ArOk n v u a := fun a ha => by
 rcases List.mem_append.mp ha with z | z
 ·exact h a z
 ·rw [List.mem_singleton.mp z]; exact ⟨by show (0 : Int) <= (i : Int); omega, .inr (.inr (.inr ⟨rfl, by show (i : Int) < (u : Int); omega⟩))⟩
def paD (p : (Str × Int) × Rat) : PyData := .tuple [qD p.1, dq p.2]
theorem ArOk.lay {n v u : Nat} {a : Str × Int} (h : ArOk n v u a) : (qD a).canLay0 = true := by
 show ((PyData.str a.1).canLay0 && ((PyData.int a.2).canLay0 && true)) = true
 have : (PyData.str a.1).canLay0 = true := by
  rcases h.2 with ⟨e, _⟩ | ⟨e, _⟩ | ⟨e, _⟩ | ⟨e, _⟩ <;> rw [e] <;> decide +kernel
 rw [this]; rfl
theorem Y4 {n v u : Nat} : ∀ {l : List (Str × Int)}, (∀ a ∈ l, ArOk n v u a) -> PyData.canLayAll0 (l.map qD) = true
 | [], _ => rfl
 | a :: r, h => by
  show ((qD a).canLay0 && PyData.canLayAll0 (r.map qD)) = true
  rw [(h a List.mem_cons_self).lay, Y4 fun x hx => h x (List.mem_cons_of_mem _ hx)]; rfl
theorem B4u {l : LP} {f : PyData -> Bool} (h : l.any f = true) : ∃ p, l.findIdx? f = some p /\ p < l.length := by
 rcases e : l.findIdx? f with _ | p
 ·rw [List.findIdx?_eq_none_iff] at e
  obtain ⟨y, y1, y2⟩ := List.any_eq_true.mp h
  rw [e y y1] at y2; cases y2
 ·exact ⟨p, rfl, (List.findIdx?_eq_some_iff_getElem.mp e).1⟩
theorem four {x : Int} (h0 : 0 <= x) (h : x <= 4) : 0 <= Rat.divInt x 4 /\ Rat.divInt x 4 <= 1 := by
 have e : Rat.divInt 1 1 - Rat.divInt x 4 = Rat.divInt (1 * 4 - x * 1) (1 * 4) := Rat.divInt_sub_divInt _ _ (by decide) (by decide)
 have h1 : 0 <= Rat.divInt (1 * 4 - x * 1) (1 * 4) := P4 (by omega) (by decide)
 have h2 : Rat.divInt 1 1 = 1 := by decide +kernel
 rw [<- e, h2] at h1
 exact ⟨P4 h0 (by decide), by grind⟩
theorem B7g {n a b : Int} (h0 : 0 <= a) (h1 : a < n) (b0 : 0 <= b) (b1 : b < n - 1) : a ≠ (a + 1 + b) % n := fun h => by
 have e := Int.emod_add_mul_ediv (a + 1 + b) n
 rw [<- h] at e
 generalize (a + 1 + b) / n = q at e
 rcases Int.lt_or_le 0 q with z | z
 ·have := Int.mul_le_mul_of_nonneg_left (show 1 <= q by omega) (show 0 <= n by omega)
  omega
 ·have := Int.mul_le_mul_of_nonneg_left z (show 0 <= n by omega)
  omega
def ole (x y : Option Rat) : Prop := ∀ a, x = some a -> ∃ b, y = some b /\ a <= b
theorem K9 (x : Option Rat) : ole x x := fun a h => ⟨a, h, Rat.le_refl⟩
theorem N4 {x y z : Option Rat} (h : ole x y) (g : ole y z) : ole x z := fun a e => by
 obtain ⟨b, hb, l⟩ := h a e
 obtain ⟨c, hc, l'⟩ := g b hb
 exact ⟨c, hc, Rat.le_trans l l'⟩
theorem X8 {x y : Option Rat} (h : ole x y) (g : ole y x) : x = y := by
 cases x with
 | none =>
  cases y with
  | none => rfl
  | some b => obtain ⟨c, hc, _⟩ := g b rfl; cases hc
 | some a =>
  obtain ⟨b, hb, l⟩ := h a rfl
  obtain ⟨c, hc, l'⟩ := g b hb
  cases hc
  rw [hb, Rat.le_antisymm l l']
theorem A9u (y : Option Rat) : ole none y := fun _ h => nomatch h
abbrev Wy := Nat × Nat × Rat × (Str × Int)
def upB : Option Rat -> Rat -> Bool
 | none, _ => true
 | some b, r => decide (b < r)
def lnS (g : Nat -> Option Rat) (v : Nat) (acc : Option Rat) (w : Wy) : Option Rat := match g w.1 with
 | none => acc
 | some a => if w.2.1 = v && upB acc (a + w.2.2.1) then some (a + w.2.2.1) else acc
def lnF (g : Nat -> Option Rat) (v : Nat) (ways : List Wy) (acc : Option Rat) : Option Rat := ways.foldl (lnS g v) acc
theorem B7i {g : Nat -> Option Rat} {v : Nat} {acc : Option Rat} {w : Wy} : ole acc (lnS g v acc w) := by
 unfold lnS
 split
 ·exact K9 _
 ·rename_i a _
  split
  ·rename_i h
   simp only [Bool.and_eq_true, decide_eq_true_eq] at h
   intro b hb
   subst hb
   exact ⟨_, rfl, Rat.le_of_lt (of_decide_eq_true h.2)⟩
  ·exact K9 _
theorem A7q {g : Nat -> Option Rat} {v : Nat} : ∀ {ways : List Wy} {acc : Option Rat}, ole acc (lnF g v ways acc)
 | [], _ => K9 _
 | w :: r, acc => N4 B7i (A7q (ways := r) (acc := lnS g v acc w))
theorem A14 {g : Nat -> Option Rat} {v : Nat} {w : Wy} {a : Rat} (hv : w.2.1 = v) (ha : g w.1 = some a) : ∀ {ways : List Wy} {acc : Option Rat}, w ∈ ways -> ∃ b, lnF g v ways acc = some b /\ a + w.2.2.1 <= b
 | x :: r, acc, h => by
  rcases List.mem_cons.mp h with rfl | h
  ·have : ∃ b, lnS g v acc w = some b /\ a + w.2.2.1 <= b := by
    unfold lnS
    rw [ha]
    dsimp only
    split
    ·exact ⟨_, rfl, Rat.le_refl⟩
    ·rename_i h
     simp only [hv, decide_true, Bool.true_and, Bool.not_eq_true] at h
     cases acc with
     | none => cases h
     | some b => exact ⟨b, rfl, Rat.not_lt.mp (of_decide_eq_false h)⟩
   obtain ⟨b, hb, l⟩ := this
   obtain ⟨c, hc, l'⟩ := A7q (g := g) (v := v) (ways := r) b hb
   exact ⟨c, hc, Rat.le_trans l l'⟩
  ·exact A14 hv ha (ways := r) h
theorem Y3 {g : Nat -> Option Rat} {v : Nat} : ∀ {ways : List Wy} {acc : Option Rat}, lnF g v ways acc = acc \/ ∃ w ∈ ways, w.2.1 = v /\ ∃ a, g w.1 = some a /\ lnF g v ways acc = some (a + w.2.2.1)
 | [], _ => .inl rfl
 | w :: r, acc => by
  rcases Y3 (ways := r) (acc := lnS g v acc w) with e | ⟨x, hx, h1, a, h2, h3⟩
  ·have e' : lnF g v (w :: r) acc = lnS g v acc w := e
   rw [e']
   unfold lnS
   split
   ·exact .inl rfl
   ·rename_i a ha
    split
    ·rename_i h
     simp only [Bool.and_eq_true, decide_eq_true_eq] at h
     exact .inr ⟨w, List.mem_cons_self, h.1, a, ha, rfl⟩
    ·exact .inl rfl
  ·exact .inr ⟨x, List.mem_cons_of_mem _ hx, h1, a, h2, h3⟩
def lnK (ways : List Wy) (n : Nat) : Nat -> Nat -> Option Rat
 | 0, v => if v = n then some 0 else none
 | k + 1, v => lnF (lnK ways n k) v ways (lnK ways n k v)
theorem A7p {ways : List Wy} {n k v : Nat} : ole (lnK ways n k v) (lnK ways n (k + 1) v) := A7q
theorem Y2 {ways : List Wy} {n v : Nat} {k m : Nat} (h : k <= m) : ole (lnK ways n k v) (lnK ways n m v) := by
 induction m with
 | zero => rw [Nat.le_zero.mp h]; exact K9 _
 | succ m ih =>
  rcases Nat.lt_or_ge m k with z | z
  ·rw [show k = m + 1 by omega]; exact K9 _
  ·exact N4 (ih z) A7p
structure Chn (ways : List Wy) (n k : Nat) (c : Nat -> Nat) (x : Nat -> Rat) : Prop where
 at' : ∀ j, j <= k + 1 -> lnK ways n j (c j) = some (x j)
 st : ∀ j, j <= k -> ∃ w ∈ ways, w.2.1 = c (j + 1) /\ w.1 = c j /\ x (j + 1) = x j + w.2.2.1
 new : ∀ j, j <= k -> lnK ways n (j + 1) (c (j + 1)) ≠ lnK ways n j (c (j + 1))
theorem B2k {ways : List Wy} {n : Nat} : ∀ (k v : Nat), lnK ways n (k + 1) v ≠ lnK ways n k v -> ∃ c x, c (k + 1) = v /\ Chn ways n k c x
 | 0, v, h => by
  rcases Y3 (g := lnK ways n 0) (v := v) (ways := ways) (acc := lnK ways n 0 v) with e | ⟨w, hw, h1, a, h2, h3⟩
  ·exact absurd e h
  ·refine ⟨fun j => if j = 0 then w.1 else v, fun j => if j = 0 then a else a + w.2.2.1, rfl, ⟨fun j hj => ?_, fun j hj => ?_, fun j hj => ?_⟩⟩
   ·match j, hj with
    | 0, _ => exact h2
    | 1, _ => exact h3
   ·rw [Nat.le_zero.mp hj]; exact ⟨w, hw, h1, rfl, rfl⟩
   ·rw [Nat.le_zero.mp hj]; exact h
 | k + 1, v, h => by
  rcases Y3 (g := lnK ways n (k + 1)) (v := v) (ways := ways) (acc := lnK ways n (k + 1) v) with e | ⟨w, hw, h1, a, h2, h3⟩
  ·exact absurd e h
  ·have h3' : lnK ways n (k + 2) v = some (a + w.2.2.1) := h3
   have hne : lnK ways n (k + 1) w.1 ≠ lnK ways n k w.1 := fun e => by
    obtain ⟨b, hb, l⟩ := A14 (g := lnK ways n k) (acc := lnK ways n k v) h1 (by rw [<- e]; exact h2) hw
    have hb' : lnK ways n (k + 1) v = some b := hb
    apply h
    refine X8 (fun c hc => ?_) A7p
    rw [h3'] at hc
    cases hc
    exact ⟨b, hb', l⟩
   obtain ⟨c, x, hc, ch⟩ := B2k k w.1 hne
   refine ⟨fun j => if j <= k + 1 then c j else v, fun j => if j <= k + 1 then x j else a + w.2.2.1, if_neg (by omega), ⟨fun j hj => ?_, fun j hj => ?_, fun j hj => ?_⟩⟩
   ·by_cases z : j <= k + 1
    ·simp only [z, if_true]; exact ch.at' j z
    ·rw [show j = k + 2 by omega]; simp only [show ¬ (k + 2 <= k + 1) by omega, if_false]; exact h3'
   ·by_cases z : j <= k
    ·simp only [show j + 1 <= k + 1 by omega, show j <= k + 1 by omega, if_true]; exact ch.st j z
    ·rw [show j = k + 1 by omega]
     simp only [show ¬ (k + 1 + 1 <= k + 1) by omega, Nat.le_refl, if_true, if_false]
     have e := ch.at' (k + 1) (Nat.le_refl _)
     rw [hc, h2] at e
     exact ⟨w, hw, h1, hc.symm, by rw [Option.some.inj e]⟩
   ·by_cases z : j <= k
    ·simp only [show j + 1 <= k + 1 by omega, if_true]; exact ch.new j z
    ·rw [show j = k + 1 by omega]
     simp only [show ¬ (k + 1 + 1 <= k + 1) by omega, if_false]; exact h
def Pot (ways : List Wy) (n : Nat) (P : Nat -> Rat) : Prop := P n = 0 /\ ∀ w ∈ ways, P w.1 + w.2.2.1 <= P w.2.1
theorem B8t {n : Nat} {c : Nat -> Nat} (h : ∀ j, j <= n + 1 -> c j <= n) : ∃ i j, i < j /\ j <= n + 1 /\ c i = c j := by
 apply Classical.byContradiction
 intro hc
 have hd : ((List.range (n + 2)).map c).Nodup := by
  refine List.pairwise_map.mpr (List.Pairwise.imp_of_mem (R := fun a b => a < b) (fun {a b} ha hb hab e => ?_) List.pairwise_lt_range)
  rw [List.mem_range] at hb
  exact hc ⟨a, b, hab, by omega, e⟩
 have hs : ((List.range (n + 2)).map c) ⊆ List.range (n + 1) := fun a ha => by
  obtain ⟨x, hx, rfl⟩ := List.mem_map.mp ha
  rw [List.mem_range] at hx
  have := h x (by omega)
  exact List.mem_range.mpr (by omega)
 have := List.Nodup.length_le_of_subset hd hs
 rw [List.length_map, List.length_range, List.length_range] at this
 omega
theorem A8n {ways : List Wy} {n k : Nat} {c : Nat -> Nat} {x : Nat -> Rat} {P : Nat -> Rat} (ch : Chn ways n k c x) (hp : Pot ways n P) {i : Nat} : ∀ {j : Nat}, i <= j -> j <= k + 1 -> x j - P (c j) <= x i - P (c i)
 | 0, h, _ => by rw [Nat.le_zero.mp h]; exact Rat.le_refl
 | j + 1, h, hj => by
  rcases Nat.lt_or_ge j i with z | z
  ·rw [show i = j + 1 by omega]; exact Rat.le_refl
  ·have ih := A8n ch hp (j := j) z (by omega)
   obtain ⟨w, hw, h1, h2, h3⟩ := ch.st j (by omega)
   have := hp.2 w hw
   rw [h1, h2] at this
   rw [h3]
   grind
theorem B4q {ways : List Wy} {n : Nat} {P : Nat -> Rat} (hw : ∀ w ∈ ways, w.1 <= n /\ w.2.1 <= n) (hp : Pot ways n P) (v : Nat) : lnK ways n (n + 1) v = lnK ways n n v := by
 apply Classical.byContradiction
 intro h
 obtain ⟨c, x, hc, ch⟩ := B2k n v h
 have hle : ∀ j, j <= n + 1 -> c j <= n := fun j hj => by
  match j, hj with
  | 0, _ => obtain ⟨w, hw', _, h2, _⟩ := ch.st 0 (by omega); rw [<- h2]; exact (hw w hw').1
  | j + 1, hj => obtain ⟨w, hw', h1, _, _⟩ := ch.st j (by omega); rw [<- h1]; exact (hw w hw').2
 obtain ⟨i, j, hij, hj, e⟩ := B8t hle
 have h1 := A8n ch hp (i := i) (j := j) (by omega) hj
 rw [e] at h1
 have h1' : x j <= x i := by grind
 obtain ⟨m, rfl⟩ : ∃ m, j = m + 1 := ⟨j - 1, by omega⟩
 have hn := ch.new m (by omega)
 apply hn
 refine X8 (fun a ha => ?_) A7p
 rw [ch.at' (m + 1) hj] at ha
 cases ha
 obtain ⟨b, hb, l⟩ := Y2 (ways := ways) (n := n) (v := c (m + 1)) (show i <= m by omega) (x i) (by rw [<- e]; exact ch.at' i (by omega))
 exact ⟨b, hb, Rat.le_trans h1' l⟩
def fa (f : List (Option Rat)) (v : Nat) : Option Rat := (f[v]?).join
abbrev Bst := List (Option Rat) × List (Option Wy) × Option Nat
def rlx (s : Bst) (w : Wy) : Bst := match fa s.1 w.1 with
 | none => s
 | some a => if upB (fa s.1 w.2.1) (a + w.2.2.1) then (s.1.set w.2.1 (some (a + w.2.2.1)), s.2.1.set w.2.1 (some w), some w.2.1) else s
def strF (ways : List Wy) (s : Bst) : Bst := ways.foldl rlx s
theorem A3m {f : List (Option Rat)} {i v : Nat} {r : Rat} (h : i < f.length) : fa (f.set i (some r)) v = if v = i then some r else fa f v := by
 unfold fa
 rw [List.getElem?_set]
 by_cases e : i = v
 ·subst e; simp [h]
 ·rw [if_neg e, if_neg (fun z => e z.symm)]
theorem rlx_len {s : Bst} {w : Wy} : (rlx s w).1.length = s.1.length /\ (rlx s w).2.1.length = s.2.1.length := by
 unfold rlx
 split
 ·exact ⟨rfl, rfl⟩
 ·split
  ·simp
  ·exact ⟨rfl, rfl⟩
theorem B03 {s : Bst} {w : Wy} (hw : w.2.1 < s.1.length) (v : Nat) : ole (fa s.1 v) (fa (rlx s w).1 v) := by
 unfold rlx
 split
 ·exact K9 _
 ·rename_i a _
  split
  ·rename_i h
   rw [show (s.1.set w.2.1 (some (a + w.2.2.1)), s.2.1.set w.2.1 (some w), some w.2.1).1 = s.1.set w.2.1 (some (a + w.2.2.1)) from rfl, A3m hw]
   split
   ·rename_i e
    subst e
    intro b hb
    rw [hb] at h
    exact ⟨_, rfl, Rat.le_of_lt (of_decide_eq_true h)⟩
   ·exact K9 _
  ·exact K9 _
theorem B24 {s : Bst} {w : Wy} {a : Rat} (hw : w.2.1 < s.1.length) (ha : fa s.1 w.1 = some a) : ∃ b, fa (rlx s w).1 w.2.1 = some b /\ a + w.2.2.1 <= b := by
 unfold rlx
 rw [ha]
 dsimp only
 split
 ·dsimp only
  rw [A3m hw, if_pos rfl]; exact ⟨_, rfl, Rat.le_refl⟩
 ·rename_i h
  cases e : fa s.1 w.2.1 with
  | none => rw [e] at h; exact absurd rfl h
  | some b => rw [e] at h; exact ⟨b, rfl, Rat.not_lt.mp fun z => h (decide_eq_true z)⟩
def Kep (ways : List Wy) (g : Nat -> Option Rat) : Prop := ∀ w ∈ ways, ∀ a, g w.1 = some a -> ∃ b, g w.2.1 = some b /\ a + w.2.2.1 <= b
theorem B53 {s : Bst} {w : Wy} {g : Nat -> Option Rat} (hw : w.2.1 < s.1.length) (hg : ∀ a, g w.1 = some a -> ∃ b, g w.2.1 = some b /\ a + w.2.2.1 <= b) (h : ∀ v, ole (fa s.1 v) (g v)) : ∀ v, ole (fa (rlx s w).1 v) (g v) := by
 intro v
 unfold rlx
 split
 ·exact h v
 ·rename_i a ha
  split
  ·dsimp only
   rw [A3m hw]
   split
   ·rename_i e
    subst e
    intro b hb
    cases hb
    obtain ⟨c, hc, l⟩ := h w.1 a ha
    obtain ⟨d, hd, l'⟩ := hg c hc
    exact ⟨d, hd, by grind⟩
   ·exact h v
  ·exact h v
theorem strF_len {ways : List Wy} : ∀ {s : Bst}, (strF ways s).1.length = s.1.length /\ (strF ways s).2.1.length = s.2.1.length := by
 induction ways with
 | nil => exact fun {s} => ⟨rfl, rfl⟩
 | cons w r ih => exact fun {s} => ⟨(ih (s := rlx s w)).1.trans rlx_len.1, (ih (s := rlx s w)).2.trans rlx_len.2⟩
theorem A41 {ways : List Wy} : ∀ {s : Bst}, (∀ w ∈ ways, w.2.1 < s.1.length) -> ∀ v, ole (fa s.1 v) (fa (strF ways s).1 v) := by
 induction ways with
 | nil => exact fun {s} _ v => K9 _
 | cons w r ih => exact fun {s} hw v => N4 (B03 (hw w List.mem_cons_self) v) (ih (s := rlx s w) (fun x hx => by rw [rlx_len.1]; exact hw x (List.mem_cons_of_mem _ hx)) v)
theorem A2q {w : Wy} {ways : List Wy} : ∀ {s : Bst} {a : Rat}, (∀ w ∈ ways, w.2.1 < s.1.length) -> w ∈ ways -> fa s.1 w.1 = some a -> ∃ b, fa (strF ways s).1 w.2.1 = some b /\ a + w.2.2.1 <= b := by
 induction ways with
 | nil => exact fun {s a} _ h => nomatch h
 | cons x r ih =>
  intro s a hw h ha
  have hw' : ∀ y ∈ r, y.2.1 < (rlx s x).1.length := fun y hy => by rw [rlx_len.1]; exact hw y (List.mem_cons_of_mem _ hy)
  rcases List.mem_cons.mp h with rfl | h
  ·obtain ⟨b, hb, l⟩ := B24 (hw w List.mem_cons_self) ha
   obtain ⟨c, hc, l'⟩ := A41 hw' w.2.1 b hb
   exact ⟨c, hc, Rat.le_trans l l'⟩
  ·obtain ⟨b, hb, l⟩ := B03 (hw x List.mem_cons_self) w.1 a ha
   obtain ⟨c, hc, l'⟩ := ih hw' h hb
   exact ⟨c, hc, by grind⟩
theorem B2x {g : Nat -> Option Rat} {ways : List Wy} : ∀ {s : Bst}, (∀ w ∈ ways, w.2.1 < s.1.length) -> Kep ways g -> (∀ v, ole (fa s.1 v) (g v)) -> ∀ v, ole (fa (strF ways s).1 v) (g v) := by
 induction ways with
 | nil => exact fun {s} _ _ h => h
 | cons w r ih =>
  intro s hw hg h
  exact ih (fun x hx => by rw [rlx_len.1]; exact hw x (List.mem_cons_of_mem _ hx)) (fun x hx => hg x (List.mem_cons_of_mem _ hx)) (B53 (hw w List.mem_cons_self) (hg w List.mem_cons_self) h)
theorem A33 {ways : List Wy} : ∀ {s : Bst}, Kep ways (fa s.1) -> strF ways s = s := by
 induction ways with
 | nil => exact fun {s} _ => rfl
 | cons w r ih =>
  intro s hg
  have e : rlx s w = s := by
   unfold rlx
   split
   ·rfl
   ·rename_i a ha
    obtain ⟨b, hb, l⟩ := hg w List.mem_cons_self a ha
    rw [hb]
    exact if_neg (fun z => absurd (of_decide_eq_true z) (Rat.not_lt.mpr l))
  show strF r (rlx s w) = s
  rw [e]
  exact ih (fun x hx => hg x (List.mem_cons_of_mem _ hx))
theorem A9d {s : Bst} {w : Wy} (h : (rlx s w).2.2 = none) : rlx s w = s := by
 unfold rlx at *
 split
 ·rfl
 ·split
  ·rename_i a ha z
   rw [ha] at h
   dsimp only at h
   rw [if_pos z] at h
   cases h
  ·rfl
theorem B2w {ways : List Wy} : ∀ {s : Bst}, (strF ways s).2.2 = none -> s.2.2 = none /\ strF ways s = s := by
 induction ways with
 | nil => exact fun {s} h => ⟨h, rfl⟩
 | cons w r ih =>
  intro s h
  obtain ⟨h1, h2⟩ := ih (s := rlx s w) h
  have e := A9d h1
  rw [e] at h1 h2
  exact ⟨h1, by show strF r (rlx s w) = s; rw [e]; exact h2⟩
def bs0 (n : Nat) : Bst := (List.replicate n none ++ [some 0], List.replicate (n + 1) none, none)
def bsK (ways : List Wy) (n : Nat) : Nat -> Bst
 | 0 => bs0 n
 | k + 1 => let s := bsK ways n k; strF ways (s.1, s.2.1, none)
theorem J3 {ways : List Wy} {n : Nat} : ∀ k, (bsK ways n k).1.length = n + 1 /\ (bsK ways n k).2.1.length = n + 1
 | 0 => by simp [bsK, bs0]
 | k + 1 => ⟨strF_len.1.trans (J3 k).1, strF_len.2.trans (J3 k).2⟩
theorem fa0 {n v : Nat} : fa (bs0 n).1 v = if v = n then some 0 else none := by
 unfold fa bs0
 dsimp only
 rw [List.getElem?_append, List.length_replicate]
 by_cases h : v < n
 ·rw [if_pos h, if_neg (by omega), List.getElem?_replicate, if_pos h]; rfl
 ·rw [if_neg h]
  by_cases e : v = n
  ·subst e; simp
  ·rw [if_neg e, List.getElem?_eq_none (by simp; omega)]; rfl
theorem A3s {ways : List Wy} {n : Nat} (hw : ∀ w ∈ ways, w.1 <= n /\ w.2.1 <= n) : ∀ k v, ole (lnK ways n k v) (fa (bsK ways n k).1 v)
 | 0, v => by rw [show bsK ways n 0 = bs0 n from rfl, fa0]; exact K9 _
 | k + 1, v => by
  have hl : ∀ w ∈ ways, w.2.1 < (bsK ways n k).1.length := fun w h => by rw [(J3 k).1]; have := hw w h; omega
  rcases Y3 (g := lnK ways n k) (v := v) (ways := ways) (acc := lnK ways n k v) with e | ⟨w, hw', h1, a, h2, h3⟩
  ·rw [show lnK ways n (k + 1) v = lnK ways n k v from e]
   exact N4 (A3s hw k v) (A41 (s := ((bsK ways n k).1, (bsK ways n k).2.1, none)) hl v)
  ·intro c hc
   rw [show lnK ways n (k + 1) v = some (a + w.2.2.1) from h3] at hc
   cases hc
   obtain ⟨b, hb, l⟩ := A3s hw k w.1 a h2
   obtain ⟨d, hd, l'⟩ := A2q (s := ((bsK ways n k).1, (bsK ways n k).2.1, none)) hl hw' hb
   rw [h1] at hd
   exact ⟨d, hd, by grind⟩
theorem A8u {ways : List Wy} {n : Nat} (hw : ∀ w ∈ ways, w.1 <= n /\ w.2.1 <= n) {g : Nat -> Option Rat} (hg : Kep ways g) (h0 : ole (some 0) (g n)) : ∀ k v, ole (fa (bsK ways n k).1 v) (g v)
 | 0, v => by
  rw [show bsK ways n 0 = bs0 n from rfl, fa0]
  split
  ·rename_i e; rw [e]; exact h0
  ·exact A9u _
 | k + 1, v => B2x (s := ((bsK ways n k).1, (bsK ways n k).2.1, none)) (fun w h => by rw [(J3 k).1]; have := hw w h; omega) hg (A8u hw hg h0 k) v
theorem A8t {ways : List Wy} {n : Nat} {P : Nat -> Rat} (hw : ∀ w ∈ ways, w.1 <= n /\ w.2.1 <= n) (hp : Pot ways n P) : (bsK ways n (n + 1)).2.2 = none := by
 have hk : Kep ways (lnK ways n n) := fun w h a ha => by
  obtain ⟨b, hb, l⟩ := A14 (g := lnK ways n n) (acc := lnK ways n n w.2.1) rfl ha h
  exact ⟨b, (B4q hw hp w.2.1).symm.trans hb, l⟩
 have h0 : ole (some 0) (lnK ways n n n) := by
  have := Y2 (ways := ways) (n := n) (v := n) (Nat.zero_le n)
  rwa [show lnK ways n 0 n = some 0 from if_pos rfl] at this
 have e : ∀ v, fa (bsK ways n n).1 v = lnK ways n n v := fun v => X8 (A8u hw hk h0 n v) (A3s hw n v)
 have hs := A33 (ways := ways) (s := ((bsK ways n n).1, (bsK ways n n).2.1, none)) (by
  intro w h a ha
  dsimp only at ha ⊢
  rw [e] at ha ⊢
  exact hk w h a ha)
 show (strF ways ((bsK ways n n).1, (bsK ways n n).2.1, none)).2.2 = none
 rw [hs]
theorem B2m {ways : List Wy} {n k : Nat} (hw : ∀ w ∈ ways, w.1 <= n /\ w.2.1 <= n) (h : (bsK ways n (k + 1)).2.2 = none) : Kep ways (fa (bsK ways n k).1) /\ (bsK ways n (k + 1)).1 = (bsK ways n k).1 := by
 have hs := (B2w (ways := ways) (s := ((bsK ways n k).1, (bsK ways n k).2.1, none)) h).2
 have e : (bsK ways n (k + 1)).1 = (bsK ways n k).1 := by
  show (strF ways ((bsK ways n k).1, (bsK ways n k).2.1, none)).1 = _
  rw [hs]
 refine ⟨fun w hw' a ha => ?_, e⟩
 obtain ⟨b, hb, l⟩ := A2q (s := ((bsK ways n k).1, (bsK ways n k).2.1, none)) (fun w h => by rw [(J3 k).1]; have := hw w h; omega) hw' ha
 rw [hs] at hb
 exact ⟨b, hb, l⟩
theorem B2l {ways : List Wy} {n k v : Nat} {P : Nat -> Rat} {a : Rat} (hw : ∀ w ∈ ways, w.1 <= n /\ w.2.1 <= n) (hp : Pot ways n P) (h : fa (bsK ways n k).1 v = some a) : a <= P v := by
 obtain ⟨b, hb, l⟩ := A8u hw (g := fun v => some (P v)) (fun w h a ha => ⟨_, rfl, by cases ha; exact hp.2 w h⟩) (by rw [hp.1]; exact K9 _) k v a h
 cases hb; exact l
theorem B5a {ways : List Wy} {n k : Nat} {P : Nat -> Rat} (hw : ∀ w ∈ ways, w.1 <= n /\ w.2.1 <= n) (hp : Pot ways n P) : fa (bsK ways n k).1 n = some 0 := by
 have h0 : ole (some 0) (fa (bsK ways n k).1 n) := N4 (by
  have := Y2 (ways := ways) (n := n) (v := n) (Nat.zero_le k)
  rwa [show lnK ways n 0 n = some 0 from if_pos rfl] at this) (A3s hw k n)
 obtain ⟨b, hb, l⟩ := h0 0 rfl
 have := B2l hw hp hb
 rw [hp.1] at this
 rw [hb, Rat.le_antisymm this l]
def wyD (w : Wy) : PyData := .tuple [.int (w.1 : Int), .int (w.2.1 : Int), dq w.2.2.1, qD w.2.2.2]
def cD : Option Wy -> PyData
 | none => .none
 | some w => wyD w
def mD : Option Nat -> PyData
 | none => .none
 | some v => .int (v : Int)
def FB (m : Nat) (f : List (Option Rat)) : Prop := ∀ v a, fa f v = some a -> On (LL * 4) (m * 2 ^ 60) a
theorem B0j {f : List (Option Rat)} {v : Nat} (h : v < f.length) : L2.atI (f.map vD) (v : Int) = some (vD (fa f v)) :=
 L4 (by rw [List.getElem?_map, List.getElem?_eq_getElem h]; unfold fa; rw [List.getElem?_eq_getElem h]; rfl)
theorem FB.rlx {m : Nat} {s : Bst} {w : Wy} (h : FB m s.1) (hw : w.2.1 < s.1.length) (hl : On (LL * 4) (1 * 2 ^ 60) w.2.2.1) : FB (m + 1) (rlx s w).1 := by
 unfold Prf.rlx
 split
 ·exact fun v a e => A2m (h v a e) (by omega)
 ·rename_i a ha
  split
  ·intro v b e
   dsimp only at e
   rw [A3m hw] at e
   split at e
   ·cases e; exact B5m (by decide) (h _ _ ha) hl (Nat.le_refl _)
   ·exact A2m (h v b e) (by omega)
  ·exact fun v a e => A2m (h v a e) (by omega)
theorem FB.strF {ways : List Wy} : ∀ {m : Nat} {s : Bst}, FB m s.1 -> (∀ w ∈ ways, w.2.1 < s.1.length /\ On (LL * 4) (1 * 2 ^ 60) w.2.2.1) -> FB (m + ways.length) (strF ways s).1 := by
 induction ways with
 | nil => exact fun {m s} h _ => h
 | cons w r ih =>
  intro m s h hw
  have := ih (h.rlx (hw w List.mem_cons_self).1 (hw w List.mem_cons_self).2) (fun x hx => by rw [rlx_len.1]; exact hw x (List.mem_cons_of_mem _ hx))
  rw [show m + (w :: r).length = m + 1 + r.length by simp; omega]
  exact this
theorem A42 {ways : List Wy} {w : Wy} {i : Nat} {s : Bst} (h : ways[i]? = some w) : strF (ways.take (i + 1)) s = rlx (strF (ways.take i) s) w := by
 unfold strF
 rw [List.take_add_one, h, List.foldl_append]; rfl
theorem S5 {α : Type} {f : α -> PyData} {xs : List α} {pg : PyData -> PEnv -> (PEnv -> Prop) -> Prop} {pb : PSt} {D : PEnds} {env : PEnv} (Iv : Nat -> PEnv -> Prop) (h0 : Iv 0 env)
  (hs : ∀ (i : Nat) a e, xs[i]? = some a -> Iv i e -> pg (.tuple [.int (i : Int), f a]) e fun e2 => pb ⟨Iv (i + 1), D.rt, D.nx, Iv (i + 1)⟩ e2) (hd : ∀ e, Iv xs.length e -> D.nx e) : A0j (Y9 (xs.map f)) pg pb D env := by
 refine ⟨Iv, h0, fun i x e hx hi => ?_, fun e h => hd e (by rwa [A0z, List.length_map] at h)⟩
 obtain ⟨y, hy, rfl⟩ := A8e hx
 rw [List.getElem?_map] at hy
 cases ha : xs[i]? with
 | none => rw [ha] at hy; cases hy
 | some a => rw [ha] at hy; cases hy; exact hs i a e ha hi
def O4 (q : Rat) : Prop := On (LL * 4) (2 ^ 58) q
theorem O4.q {q : Rat} (h : O4 q) : SmQ 3900 q := unQ (D := 4) (c := 1) (h.mono (by decide)) (by decide) (by decide) (by decide)
theorem O4.un {q : Rat} (h : O4 q) : On (LL * 4) (1 * 2 ^ 60) q := h.mono (by decide)
theorem O4.add {p q : Rat} (h : O4 p) (g : O4 q) : On (LL * 4) (1 * 2 ^ 60) (p + q) := (On.add (by decide) h g).mono (by decide)
theorem O4.sub {p q : Rat} (h : O4 p) (g : O4 q) : On (LL * 4) (1 * 2 ^ 60) (p - q) := (On.sub (by decide) h g).mono (by decide)
def stW (n : Nat) : List Wy := (List.range n).map fun i => (n, i, (0 : Rat), (("start" : Str), (i : Int)))
def enW (n : Nat) (ts : LQ) (W : Rat) : List Wy := ts.zipIdx.map fun z => (z.2, n, z.1 - W, (("end" : Str), (z.2 : Int)))
def waW (ts : LQ) (ws : LW) : List Wy := ws.zipIdx.map fun z => (z.1.1.toNat, z.1.2.1.toNat, rat ts z.1.1 + z.1.2.2, (("wait" : Str), (z.2 : Int)))
def hoO (ts : LQ) (h : Str × Int × Rat) (k : Nat) : Wy := if h.1 = "from" then (ts.length, h.2.1.toNat, h.2.2, (("hold" : Str), (k : Int))) else if h.1 = "till" then (h.2.1.toNat, ts.length, 0 - h.2.2, (("hold" : Str), (k : Int))) else (h.2.1.toNat, ts.length, rat ts h.2.1 - h.2.2, (("hold" : Str), (k : Int)))
def hoW (ts : LQ) (hs : LH) : List Wy := hs.zipIdx.map fun z => hoO ts z.1 z.2
def enO (ts : LQ) : Option Rat -> List Wy
 | none => []
 | some W => enW ts.length ts W
def L5 (ts : LQ) (ws : LW) (hs : LH) (W : Option Rat) : List Wy := stW ts.length ++ enO ts W ++ waW ts ws ++ hoW ts hs
theorem W5 {α β : Type} (f : α × Nat -> β) {xs : List α} {i : Nat} {a : α} (h : xs[i]? = some a) : (xs.zipIdx.map f).take (i + 1) = (xs.zipIdx.map f).take i ++ [f (a, i)] := by
 rw [List.take_add_one, List.getElem?_map, List.getElem?_zipIdx, h]
 simp
theorem A2i {α β : Type} (f : α × Nat -> β) {xs : List α} : (xs.zipIdx.map f).take xs.length = xs.zipIdx.map f := List.take_of_length_le (by simp)
structure NOk (ts : LQ) (ws : LW) (hs : LH) : Prop where
 n0 : 1 <= ts.length
 n1 : ts.length <= 10
 wl : ws.length <= 40
 hl : hs.length <= 40
 t : ∀ t ∈ ts, O4 t
 w : ∀ w ∈ ws, (0 <= w.1 /\ w.1 < (ts.length : Int)) /\ (0 <= w.2.1 /\ w.2.1 < (ts.length : Int)) /\ O4 w.2.2
 h : ∀ h ∈ hs, Hk h.1 /\ (0 <= h.2.1 /\ h.2.1 < (ts.length : Int)) /\ O4 h.2.2
def NetB (t : OT) (ws : LW) (hs : LH) : Prop := ∃ u1 u2, t.part 1 = some u1 /\ u1.sv = .bor (ws.map wD) /\ t.part 2 = some u2 /\ u2.sv = .bor (hs.map hD)
theorem NetB.leaf {xs : List Wk} {ws : LW} {hs : LH} {gs : LP} : NetB (.leaf (netD xs ws hs gs)) ws hs := ⟨_, _, rfl, rfl, rfl, rfl⟩
theorem A13 {A T T' : List Wy} {w : Wy} (h : T' = T ++ [w]) : (A ++ T').map wyD = (A ++ T).map wyD ++ [wyD w] := by rw [h, <- List.append_assoc, List.map_append]; rfl
theorem W8 {n : Nat} : (stW n).length = n := by simp [stW]
theorem A18 {ts : LQ} {W : Option Rat} : (enO ts W).length <= ts.length := by cases W <;> simp [enO, enW]
theorem A4r {ts : LQ} {ws : LW} : (waW ts ws).length = ws.length := by simp [waW]
theorem B4y {ts : LQ} {hs : LH} : (hoW ts hs).length = hs.length := by simp [hoW]
theorem M9 {ts : LQ} {ws : LW} {hs : LH} {W : Option Rat} (ok : NOk ts ws hs) : (L5 ts ws hs W).length <= 100 := by
 have := ok.n1
 have := ok.wl
 have := ok.hl
 have := A18 (ts := ts) (W := W)
 unfold L5
 rw [List.length_append, List.length_append, List.length_append, W8, A4r, B4y]
 omega
theorem U7 {α β : Type} {f : α × Nat -> β} {xs : List α} {b : β} (h : b ∈ xs.zipIdx.map f) : ∃ a i, xs[i]? = some a /\ b = f (a, i) := by
 obtain ⟨⟨a, i⟩, hz, rfl⟩ := List.mem_map.mp h
 exact ⟨a, i, List.mem_zipIdx_iff_getElem?.mp hz, rfl⟩
theorem A2j {ts : LQ} {ws : LW} {hs : LH} {W : Option Rat} (ok : NOk ts ws hs) (hW : ∀ w, W = some w -> O4 w) : ∀ w ∈ L5 ts ws hs W, w.1 <= ts.length /\ w.2.1 <= ts.length /\ On (LL * 4) (1 * 2 ^ 60) w.2.2.1 := fun w hw => by
 unfold L5 at hw
 rcases List.mem_append.mp hw with hw | hw
 ·rcases List.mem_append.mp hw with hw | hw
  ·rcases List.mem_append.mp hw with hw | hw
   ·obtain ⟨i, hi, rfl⟩ := List.mem_map.mp hw
    rw [List.mem_range] at hi
    exact ⟨Nat.le_refl _, by show i <= _; omega, On.zero.mono (Nat.zero_le _)⟩
   ·cases W with
    | none => cases hw
    | some W =>
     obtain ⟨q, i, hi, rfl⟩ := U7 hw
     have := (List.getElem?_eq_some_iff.mp hi).1
     exact ⟨by show i <= _; omega, Nat.le_refl _, (ok.t q (List.mem_of_getElem? hi)).sub (hW W rfl)⟩
  ·obtain ⟨x, i, hi, rfl⟩ := U7 hw
   obtain ⟨a, b, c⟩ := ok.w x (List.mem_of_getElem? hi)
   exact ⟨by show x.1.toNat <= _; omega, by show x.2.1.toNat <= _; omega, (ok.t _ (Q2 a.1 a.2)).add c⟩
 ·obtain ⟨x, i, hi, rfl⟩ := U7 hw
  obtain ⟨a, b, c⟩ := ok.h x (List.mem_of_getElem? hi)
  have hx : x.2.1.toNat <= ts.length := by omega
  show (hoO ts x i).1 <= _ /\ (hoO ts x i).2.1 <= _ /\ On _ _ (hoO ts x i).2.2.1
  unfold hoO
  split
  ·exact ⟨Nat.le_refl _, hx, c.un⟩
  ·split
   ·refine ⟨hx, Nat.le_refl _, ?_⟩
    show On _ _ (0 - x.2.2)
    rw [Rat.sub_eq_add_neg, Rat.zero_add]
    exact c.un.neg
   ·exact ⟨hx, Nat.le_refl _, (ok.t _ (Q2 b.1 b.2)).sub c⟩
def kst (ways : List Wy) (n : Nat) : Option Nat := (List.range (n + 1)).find? fun k => (bsK ways n (k + 1)).2.2.isNone
theorem A8v {ways : List Wy} {n : Nat} (hw : ∀ w ∈ ways, w.1 <= n /\ w.2.1 <= n /\ On (LL * 4) (1 * 2 ^ 60) w.2.2.1) : ∀ k, FB (k * ways.length) (bsK ways n k).1
 | 0 => fun v a h => by
  rw [show bsK ways n 0 = bs0 n from rfl, fa0] at h
  split at h
  ·cases h; exact On.zero.mono (Nat.zero_le _)
  ·cases h
 | k + 1 => by
  have := FB.strF (ways := ways) (s := ((bsK ways n k).1, (bsK ways n k).2.1, none)) (A8v hw k) (fun w h => ⟨by rw [(J3 k).1]; have := hw w h; omega, (hw w h).2.2⟩)
  rw [show (k + 1) * ways.length = k * ways.length + ways.length by rw [Nat.add_mul, Nat.one_mul]]
  exact this
theorem B8r {α β : Type} {f : α × Nat -> β} {xs : List α} {a : α} {i : Nat} (h : xs[i]? = some a) : f (a, i) ∈ xs.zipIdx.map f := List.mem_map.mpr ⟨(a, i), List.mem_zipIdx_iff_getElem?.mpr h, rfl⟩
structure Kps (ws : LW) (hs : LH) (ps : LR) (W : Option Rat) : Prop where
 s : ∀ p ∈ ps, 0 <= p.1
 w : ∀ w ∈ ws, 0 <= wSl ps w
 h : ∀ h ∈ hs, 0 <= hSl ps h
 e : ∀ V, W = some V -> ∀ p ∈ ps, enD p <= V
def pvS (ps : LR) (v : Nat) : Rat := (ps.getD v (0, 0)).1
theorem A49 {ps : LR} {o : Int} : rat (ps.map (·.2)) o = (sat ps o).2 := by
 unfold rat sat
 rw [List.getD_eq_getElem?_getD, List.getD_eq_getElem?_getD, List.getElem?_map]
 cases ps[o.toNat]? <;> rfl
theorem V1 {ps : LR} : pvS ps ps.length = 0 := by unfold pvS; rw [List.getD_eq_getElem?_getD, List.getElem?_eq_none (Nat.le_refl _)]; rfl
theorem B29 {ps : LR} {i : Nat} {p : Rat × Rat} (h : ps[i]? = some p) : pvS ps i = p.1 := by unfold pvS; rw [List.getD_eq_getElem?_getD, h]; rfl
theorem Kps.pot {ws : LW} {hs : LH} {ps : LR} {W : Option Rat} (k : Kps ws hs ps W) (hh : ∀ h ∈ hs, Hk h.1) : Pot (L5 (ps.map (·.2)) ws hs W) ps.length (pvS ps) := by
 refine ⟨V1, fun x hx => ?_⟩
 unfold L5 at hx
 rcases List.mem_append.mp hx with hx | hx
 ·rcases List.mem_append.mp hx with hx | hx
  ·rcases List.mem_append.mp hx with hx | hx
   ·obtain ⟨i, hi, rfl⟩ := List.mem_map.mp hx
    rw [List.mem_range, List.length_map] at hi
    show pvS ps (ps.map (·.2)).length + 0 <= pvS ps i
    rw [List.length_map, V1, B29 (List.getElem?_eq_getElem hi), Rat.add_zero]
    exact k.s _ (List.getElem_mem hi)
   ·cases W with
    | none => cases hx
    | some W =>
     obtain ⟨q, i, hi, rfl⟩ := U7 hx
     rw [List.getElem?_map] at hi
     obtain ⟨p, hp, rfl⟩ := Option.map_eq_some_iff.mp hi
     show pvS ps i + (p.2 - W) <= pvS ps (ps.map (·.2)).length
     rw [List.length_map, V1, B29 hp]
     have := k.e W rfl p (List.mem_of_getElem? hp)
     unfold enD at this
     grind
  ·obtain ⟨x, i, hi, rfl⟩ := U7 hx
   have := k.w x (List.mem_of_getElem? hi)
   show pvS ps x.1.toNat + (rat (ps.map (·.2)) x.1 + x.2.2) <= pvS ps x.2.1.toNat
   rw [A49]
   unfold wSl enD at this
   have e1 : pvS ps x.1.toNat = (sat ps x.1).1 := rfl
   have e2 : pvS ps x.2.1.toNat = (sat ps x.2.1).1 := rfl
   rw [e1, e2]
   grind
 ·obtain ⟨x, i, hi, rfl⟩ := U7 hx
  have hk := hh x (List.mem_of_getElem? hi)
  have := k.h x (List.mem_of_getElem? hi)
  have e2 : pvS ps x.2.1.toNat = (sat ps x.2.1).1 := rfl
  show pvS ps (hoO (ps.map (·.2)) x i).1 + (hoO (ps.map (·.2)) x i).2.2.1 <= pvS ps (hoO (ps.map (·.2)) x i).2.1
  unfold hoO
  unfold hSl at this
  split
  ·rename_i z
   rw [if_pos z] at this
   show pvS ps (ps.map (·.2)).length + x.2.2 <= pvS ps x.2.1.toNat
   rw [List.length_map, V1, e2]
   grind
  ·rename_i z
   rw [if_neg z] at this
   split
   ·rename_i z
    rw [if_pos z] at this
    show pvS ps x.2.1.toNat + (0 - x.2.2) <= pvS ps (ps.map (·.2)).length
    rw [List.length_map, V1, e2]
    grind
   ·rename_i z
    rw [if_neg z] at this
    show pvS ps x.2.1.toNat + (rat (ps.map (·.2)) x.2.1 - x.2.2) <= pvS ps (ps.map (·.2)).length
    rw [List.length_map, V1, e2, A49]
    unfold enD at this
    grind
def swp (w : Wy) : Wy := (w.2.1, w.1, w.2.2)
def bkL (ts : LQ) (ws : LW) (hs : LH) (W : Rat) : List Wy := (L5 ts ws hs (some W)).map swp
theorem X5 {ways : List Wy} {n : Nat} {P : Nat -> Rat} (h : Pot ways n P) : Pot (ways.map swp) n (fun v => -P v) := ⟨by show -P n = 0; rw [h.1]; decide, fun w hw => by
 obtain ⟨x, hx, rfl⟩ := List.mem_map.mp hw
 have := h.2 x hx
 show -P x.2.1 + x.2.2.1 <= -P x.1
 grind⟩
theorem B3f {a b : List Wy} {n : Nat} {P : Nat -> Rat} (h : Pot b n P) (hs : ∀ w ∈ a, w ∈ b) : Pot a n P := ⟨h.1, fun w hw => h.2 w (hs w hw)⟩
theorem A4q {ts : LQ} {ws : LW} {hs : LH} {W : Option Rat} : ∀ w ∈ L5 ts ws hs none, w ∈ L5 ts ws hs W := fun w hw => by
 unfold L5 at hw ⊢
 rw [show enO ts none = [] from rfl, List.append_nil] at hw
 rcases List.mem_append.mp hw with hw | hw
 ·rcases List.mem_append.mp hw with hw | hw
  ·exact List.mem_append_left _ (List.mem_append_left _ (List.mem_append_left _ hw))
  ·exact List.mem_append_left _ (List.mem_append_right _ hw)
 ·exact List.mem_append_right _ hw
theorem B0a {ways : List Wy} {n : Nat} {P : Nat -> Rat} (hw : ∀ w ∈ ways, w.1 <= n /\ w.2.1 <= n) (hp : Pot ways n P) : ∃ k, kst ways n = some k := by
 cases h : kst ways n with
 | some k => exact ⟨k, rfl⟩
 | none =>
  unfold kst at h
  rw [List.find?_eq_none] at h
  have := h n (List.mem_range.mpr (by omega))
  rw [A8t hw hp] at this
  exact absurd rfl this
theorem B0b {ways : List Wy} {n k : Nat} (h : kst ways n = some k) : (bsK ways n (k + 1)).2.2 = none /\ k <= n := by
 unfold kst at h
 rw [List.find?_range_eq_some] at h
 obtain ⟨h1, h2, _⟩ := h
 rw [List.mem_range] at h2
 exact ⟨Option.isNone_iff_eq_none.mp h1, by omega⟩
def farS (ways : List Wy) (n : Nat) : List (Option Rat) := (bsK ways n ((kst ways n).getD 0)).1
theorem A17 {ways : List Wy} {n k : Nat} (h : kst ways n = some k) : farS ways n = (bsK ways n k).1 := by unfold farS; rw [h]; rfl
structure Fars (ways : List Wy) (n : Nat) (f : List (Option Rat)) : Prop where
 ln : f.length = n + 1
 fx : Kep ways (fa f)
 rt : fa f n = some 0
 le : ∀ P, Pot ways n P -> ∀ v a, fa f v = some a -> a <= P v
 fb : FB 1000 f
theorem Y7 {ways : List Wy} {n : Nat} {P : Nat -> Rat} (hw : ∀ w ∈ ways, w.1 <= n /\ w.2.1 <= n /\ On (LL * 4) (1 * 2 ^ 60) w.2.2.1) (hp : Pot ways n P) (hl : ways.length <= 100) (hn : n <= 10) : Fars ways n (farS ways n) := by
 have hw' : ∀ w ∈ ways, w.1 <= n /\ w.2.1 <= n := fun w h => ⟨(hw w h).1, (hw w h).2.1⟩
 obtain ⟨k, hk⟩ := B0a hw' hp
 obtain ⟨h1, h2⟩ := B0b hk
 rw [A17 hk]
 exact ⟨(J3 k).1, (B2m hw' h1).1, B5a hw' hp, fun Q hQ v a h => B2l hw' hQ h, fun v a h => A2m (A8v hw k v a h) (by have := Nat.mul_le_mul (show k <= 10 by omega) hl; omega)⟩
def latS (ts : LQ) (ws : LW) (hs : LH) (W : Rat) : LQ := ((farS (bkL ts ws hs W) ts.length).take ts.length).map fun x => 0 - x.getD 0
def earS (ts : LQ) (ws : LW) (hs : LH) : LQ := ((farS (L5 ts ws hs none) ts.length).take ts.length).map fun x => x.getD 0
theorem A8y {ts : LQ} {ws : LW} {hs : LH} {W : Rat} (ok : NOk ts ws hs) (hW : O4 W) : ∀ w ∈ bkL ts ws hs W, w.1 <= ts.length /\ w.2.1 <= ts.length /\ On (LL * 4) (1 * 2 ^ 60) w.2.2.1 := fun w hw => by
 obtain ⟨x, hx, rfl⟩ := List.mem_map.mp hw
 obtain ⟨a, b, c⟩ := A2j ok (W := some W) (fun _ e => by cases e; exact hW) x hx
 exact ⟨b, a, c⟩
theorem A2b {ts : LQ} {ws : LW} {hs : LH} {W : Rat} {f : List (Option Rat)} (h : Fars (bkL ts ws hs W) ts.length f) {v : Nat} (hv : v < ts.length) : ∃ a, fa f v = some a := by
 have hm : (ts.length, v, ts[v] - W, (("end" : Str), (v : Int))) ∈ bkL ts ws hs W := List.mem_map.mpr ⟨(v, ts.length, ts[v] - W, (("end" : Str), (v : Int))), List.mem_append_left _ (List.mem_append_left _ (List.mem_append_right _ (B8r (f := fun z : Rat × Nat => ((z.2, ts.length, z.1 - W, (("end" : Str), (z.2 : Int))) : Wy)) (List.getElem?_eq_getElem hv)))), rfl⟩
 obtain ⟨b, hb, _⟩ := h.fx _ hm 0 h.rt
 exact ⟨b, hb⟩
theorem B46 {ts : LQ} {ws : LW} {hs : LH} {W : Option Rat} {f : List (Option Rat)} (h : Fars (L5 ts ws hs W) ts.length f) {v : Nat} (hv : v < ts.length) : ∃ a, fa f v = some a := by
 have hm : (ts.length, v, (0 : Rat), (("start" : Str), (v : Int))) ∈ L5 ts ws hs W := List.mem_append_left _ (List.mem_append_left _ (List.mem_append_left _ (List.mem_map.mpr ⟨v, List.mem_range.mpr hv, rfl⟩)))
 obtain ⟨b, hb, _⟩ := h.fx _ hm 0 h.rt
 exact ⟨b, hb⟩
theorem A4y {f : List (Option Rat)} {n : Nat} (hl : n <= f.length) (h : ∀ v, v < n -> ∃ a, fa f v = some a) : (f.take n).map vD = ((f.take n).map fun x => x.getD 0).map dq := by
 rw [List.map_map]
 refine List.map_congr_left fun x hx => ?_
 obtain ⟨i, hi, e⟩ := List.getElem_of_mem hx
 rw [List.length_take] at hi
 rw [List.getElem_take] at e
 obtain ⟨a, ha⟩ := h i (by omega)
 unfold fa at ha
 rw [List.getElem?_eq_getElem (by omega), e] at ha
 rw [show x = some a from ha]
 rfl
structure PSz (B a : Nat) (ws : LW) (hs : LH) (ps : LR) : Prop where
 b0 : 0 < B
 b1 : B <= 2 ^ 1000
 a1 : a <= 900
 ln : ps.length <= 10
 wl : ws.length <= 40
 hl : hs.length <= 40
 p : ∀ p ∈ ps, On B (2 ^ a) p.1 /\ On B (2 ^ a) p.2
 w : ∀ w ∈ ws, (0 <= w.1 /\ w.1 < (ps.length : Int)) /\ (0 <= w.2.1 /\ w.2.1 < (ps.length : Int)) /\ On B (2 ^ a) w.2.2
 h : ∀ h ∈ hs, Hk h.1 /\ (0 <= h.2.1 /\ h.2.1 < (ps.length : Int)) /\ On B (2 ^ a) h.2.2
theorem onB {B a : Nat} {q : Rat} (h : On B (2 ^ a) q) (hB : 0 < B) (hb : B <= 2 ^ 1000) (g : a <= 1000) : SmQ 3900 q := onQ h hB hb (Nat.pow_le_pow_right (by decide) g)
section
variable {B a : Nat} {ws : LW} {hs : LH} {ps : LR}
theorem PSz.sm (ok : PSz B a ws hs ps) {b : Nat} {q : Rat} (h : On B (2 ^ b) q) (g : b <= a + 10) : SmQ 3900 q := onB h ok.b0 ok.b1 (by have := ok.a1; omega)
theorem PSz.st (ok : PSz B a ws hs ps) {o : Int} (h0 : 0 <= o) (h1 : o < (ps.length : Int)) : On B (2 ^ a) (sat ps o).1 /\ On B (2 ^ a) (sat ps o).2 /\ On B (2 ^ (a + 1)) (enD (sat ps o)) :=
 let z := ok.p _ (A1r h0 h1)
 ⟨z.1, z.2, z.1.add2 ok.b0 z.2 (Nat.le_refl _)⟩
theorem PSz.pl (ok : PSz B a ws hs ps) {o : Int} (h0 : 0 <= o) (h1 : o < (ps.length : Int)) : PlSm (sat ps o) :=
 let ⟨x, y, z⟩ := ok.st h0 h1
 ⟨ok.sm x (by omega), ok.sm y (by omega), ok.sm z (by omega)⟩
theorem PSz.wS (ok : PSz B a ws hs ps) {w : Int × Int × Rat} (hw : w ∈ ws) : On B (2 ^ (a + 3)) (wSl ps w) /\ On B (2 ^ (a + 2)) (enD (sat ps w.1) + w.2.2) := by
 obtain ⟨x, y, z⟩ := ok.w w hw
 have e := (ok.st x.1 x.2).2.2.add2 ok.b0 (z.p2 (by omega)) (show a + 1 + 1 <= a + 2 by omega)
 exact ⟨((ok.st y.1 y.2).1.p2 (by omega)).sub2 ok.b0 e (by omega), e⟩
theorem PSz.hS (ok : PSz B a ws hs ps) {h : Str × Int × Rat} (hh : h ∈ hs) : On B (2 ^ (a + 3)) (hSl ps h) := by
 obtain ⟨x, y, z⟩ := ok.h h hh
 obtain ⟨s1, s2, s3⟩ := ok.st y.1 y.2
 unfold hSl
 split
 ·exact s1.sub2 ok.b0 z (by omega)
 ·split
  ·exact z.sub2 ok.b0 s1 (by omega)
  ·exact (z.p2 (b := a + 1) (by omega)).sub2 ok.b0 s3 (by omega)
end
def aloW (ws : LW) (ps : LR) (W : Rat) (i : Nat) : Rat := lm ((ws.filter fun w => decide (w.1 = (i : Int))).map (wSl ps)) (W - enD (sat ps (i : Int)))
def hTB (i : Nat) (h : Str × Int × Rat) : Bool := decide (h.2.1 = (i : Int)) && !decide (h.1 = "from")
def alo (ws : LW) (hs : LH) (ps : LR) (W : Rat) (i : Nat) : Rat := lm ((hs.filter (hTB i)).map (hSl ps)) (aloW ws ps W i)
theorem P9 {α : Type} {p : α -> Bool} {f : α -> Rat} {xs : List α} {i : Nat} {a : α} {m : Rat} (h : xs[i]? = some a) : lm (((xs.take (i + 1)).filter p).map f) m = if p a = true then (if f a < lm (((xs.take i).filter p).map f) m then f a else lm (((xs.take i).filter p).map f) m) else lm (((xs.take i).filter p).map f) m := by
 rw [List.take_add_one, h, List.filter_append]
 simp only [Option.toList, List.filter_cons, List.filter_nil]
 split
 ·rw [List.map_append, <- A7r]; rfl
 ·rw [List.append_nil]
theorem A98 {B k : Nat} {vs : LQ} {m : Rat} (h : ∀ v ∈ vs, On B k v) (hm : On B k m) : On B k (lm vs m) := by
 rcases A3f vs m with e | e
 ·rw [e]; exact hm
 ·exact h _ e
def slL (ws : LW) (hs : LH) (ps : LR) (W : Rat) : LR := ps.zipIdx.map fun z => (alo ws hs ps W z.2, rat (latS (ps.map (·.2)) ws hs W) (z.2 : Int) - z.1.1)
theorem Y6 {ts : LQ} {ws : LW} {hs : LH} {W : Rat} (h : Fars (bkL ts ws hs W) ts.length (farS (bkL ts ws hs W) ts.length)) : (latS ts ws hs W).length = ts.length := by
 unfold latS
 rw [List.length_map, List.length_take, h.ln]; omega
theorem A7x {ts : LQ} {ws : LW} {hs : LH} {W : Rat} (h : Fars (bkL ts ws hs W) ts.length (farS (bkL ts ws hs W) ts.length)) {v : Nat} (hv : v < ts.length) : ∃ a, fa (farS (bkL ts ws hs W) ts.length) v = some a /\ (latS ts ws hs W)[v]? = some (0 - a) := by
 obtain ⟨a, ha⟩ := A2b h hv
 refine ⟨a, ha, ?_⟩
 unfold latS
 rw [List.getElem?_map, List.getElem?_take, if_pos hv]
 unfold fa at ha
 cases e : (farS (bkL ts ws hs W) ts.length)[v]? with
 | none => rw [e] at ha; cases ha
 | some x => rw [e] at ha; rw [show x = some a from ha]; rfl
theorem A15 {ts : LQ} {ws : LW} {hs : LH} {W : Rat} (h : Fars (bkL ts ws hs W) ts.length (farS (bkL ts ws hs W) ts.length)) : ∀ q ∈ latS ts ws hs W, On (LL * 4) (2 ^ 70) q := fun q hq => by
 obtain ⟨i, hi, e⟩ := List.getElem_of_mem hq
 obtain ⟨a, ha, e2⟩ := A7x h (v := i) (by rw [<- Y6 h]; exact hi)
 rw [List.getElem?_eq_getElem hi, e] at e2
 rw [Option.some.inj e2, Rat.sub_eq_add_neg, Rat.zero_add]
 exact ((h.fb i a ha).mono (by decide)).neg
def shf (ps : LR) (i : Nat) (x : Rat) : LR := ps.set i ((sat ps (i : Int)).1 + x, (sat ps (i : Int)).2)
theorem B23 {ps : LR} {i : Nat} {x : Rat} : (shf ps i x).length = ps.length := List.length_set
theorem X0 {ps : LR} {i : Nat} {x : Rat} (hi : i < ps.length) {o : Int} (h0 : 0 <= o) : sat (shf ps i x) o = if o = (i : Int) then ((sat ps (i : Int)).1 + x, (sat ps (i : Int)).2) else sat ps o := by
 by_cases h : o = (i : Int)
 ·rw [if_pos h, h]
  unfold sat shf
  rw [List.getD_eq_getElem?_getD, Int.toNat_natCast, List.getElem?_set_self hi]; rfl
 ·rw [if_neg h]
  unfold sat shf
  rw [List.getD_eq_getElem?_getD, List.getD_eq_getElem?_getD, List.getElem?_set_ne (by omega)]
section
variable {ws : LW} {hs : LH} {ps : LR} {W x : Rat} {i : Nat}
theorem B2q {w : Int × Int × Rat} (hi : i < ps.length) (h0 : 0 <= w.1) (h1 : 0 <= w.2.1) (hne : w.1 ≠ w.2.1) : wSl (shf ps i x) w = if w.1 = (i : Int) then wSl ps w - x else if w.2.1 = (i : Int) then wSl ps w + x else wSl ps w := by
 unfold wSl
 rw [X0 hi h0, X0 hi h1]
 by_cases z : w.1 = (i : Int)
 ·rw [if_pos z, if_pos z, if_neg (fun y => hne (z.trans y.symm)), z]
  unfold enD
  grind
 ·rw [if_neg z, if_neg z]
  by_cases y : w.2.1 = (i : Int)
  ·rw [if_pos y, if_pos y, y]
   grind
  ·rw [if_neg y, if_neg y]
theorem B40 {h : Str × Int × Rat} (hi : i < ps.length) (h0 : 0 <= h.2.1) : hSl (shf ps i x) h = if h.2.1 = (i : Int) then (if h.1 = "from" then hSl ps h + x else hSl ps h - x) else hSl ps h := by
 unfold hSl
 rw [X0 hi h0]
 by_cases z : h.2.1 = (i : Int)
 ·rw [if_pos z, if_pos z, z]
  unfold enD
  split
  ·grind
  ·split <;> grind
 ·rw [if_neg z, if_neg z]
theorem B9b : alo ws hs ps W i <= W - enD (sat ps (i : Int)) := Rat.le_trans (A4h _ _).1 (A4h _ _).1
theorem B89 {w : Int × Int × Rat} (h : w ∈ ws) (hi : w.1 = (i : Int)) : alo ws hs ps W i <= wSl ps w :=
 Rat.le_trans (A4h _ _).1 ((A4h _ _).2 _ (List.mem_map.mpr ⟨w, List.mem_filter.mpr ⟨h, decide_eq_true hi⟩, rfl⟩))
theorem B9a {h : Str × Int × Rat} (hh : h ∈ hs) (hi : hTB i h = true) : alo ws hs ps W i <= hSl ps h :=
 (A4h _ _).2 _ (List.mem_map.mpr ⟨h, List.mem_filter.mpr ⟨hh, hi⟩, rfl⟩)
theorem A82 : alo ws hs ps W i = W - enD (sat ps (i : Int)) \/ (∃ w ∈ ws, w.1 = (i : Int) /\ alo ws hs ps W i = wSl ps w) \/ ∃ h ∈ hs, hTB i h = true /\ alo ws hs ps W i = hSl ps h := by
 unfold alo
 rcases A3f ((hs.filter (hTB i)).map (hSl ps)) (aloW ws ps W i) with e | e
 ·rw [e]
  unfold aloW
  rcases A3f ((ws.filter fun w => decide (w.1 = (i : Int))).map (wSl ps)) (W - enD (sat ps (i : Int))) with e | e
  ·exact .inl e
  ·obtain ⟨w, hw, e⟩ := List.mem_map.mp e
   obtain ⟨h1, h2⟩ := List.mem_filter.mp hw
   exact .inr (.inl ⟨w, h1, of_decide_eq_true h2, e.symm⟩)
 ·obtain ⟨w, hw, e⟩ := List.mem_map.mp e
  obtain ⟨h1, h2⟩ := List.mem_filter.mp hw
  exact .inr (.inr ⟨w, h1, h2, e.symm⟩)
theorem hTB_iff {h : Str × Int × Rat} : hTB i h = true ↔ h.2.1 = (i : Int) /\ ¬ h.1 = "from" := by
 unfold hTB
 rw [Bool.and_eq_true, Bool.not_eq_true', decide_eq_true_eq, decide_eq_false_iff_not]
structure Idx (ws : LW) (hs : LH) (ps : LR) : Prop where
 w : ∀ w ∈ ws, 0 <= w.1 /\ 0 <= w.2.1 /\ w.1 ≠ w.2.1
 h : ∀ h ∈ hs, 0 <= h.2.1
theorem A46 {p : Rat × Rat} (hi : i < ps.length) (h : p ∈ shf ps i x) : p ∈ ps \/ p = ((sat ps (i : Int)).1 + x, (sat ps (i : Int)).2) := by
 rcases List.mem_or_eq_of_mem_set h with z | z
 ·exact .inl z
 ·exact .inr z
theorem B2o (K : Kps ws hs ps (some W)) (hi : i < ps.length) : 0 <= alo ws hs ps W i := by
 rcases A82 (ws := ws) (hs := hs) (ps := ps) (W := W) (i := i) with e | ⟨w, hw, _, e⟩ | ⟨h, hh, _, e⟩
 ·have := K.e W rfl (sat ps (i : Int)) (A1r (by omega) (by omega))
  rw [e]; grind
 ·rw [e]; exact K.w w hw
 ·rw [e]; exact K.h h hh
theorem Kps.shf (K : Kps ws hs ps (some W)) (ix : Idx ws hs ps) (hi : i < ps.length) (hx0 : 0 <= x) (hx : x <= alo ws hs ps W i) : Kps ws hs (shf ps i x) (some W) := by
 refine ⟨fun p hp => ?_, fun w hw => ?_, fun h hh => ?_, fun V hV p hp => ?_⟩
 ·rcases A46 hi hp with z | z
  ·exact K.s p z
  ·rw [z]; have := K.s _ (A1r (ps := ps) (o := (i : Int)) (by omega) (by omega)); dsimp only; grind
 ·obtain ⟨a, b, c⟩ := ix.w w hw
  have := K.w w hw
  rw [B2q hi a b c]
  split
  ·rename_i z; have := B89 (ws := ws) (hs := hs) (ps := ps) (W := W) hw z; grind
  ·split <;> grind
 ·have h0 := ix.h h hh
  have := K.h h hh
  rw [B40 hi h0]
  split
  ·rename_i z
   split
   ·grind
   ·rename_i y; have := B9a (ws := ws) (hs := hs) (ps := ps) (W := W) hh (hTB_iff.mpr ⟨z, y⟩); grind
  ·exact this
 ·cases hV
  rcases A46 hi hp with z | z
  ·exact K.e _ rfl p z
  ·rw [z]
   have := B9b (ws := ws) (hs := hs) (ps := ps) (W := W) (i := i)
   unfold enD at *
   dsimp only
   grind
theorem B22 (hi : i < ps.length) : (shf ps i x).map (·.2) = ps.map (·.2) := by
 refine List.ext_getElem? fun j => ?_
 unfold shf
 rw [List.getElem?_map, List.getElem?_map, List.getElem?_set]
 split
 ·rename_i e
  subst e
  rw [List.getElem?_eq_getElem hi]
  have := B5z (ps := ps) (List.getElem?_eq_getElem hi)
  rw [this]; rfl
 ·rfl
end
theorem B5i : LL * 4 <= 2 ^ 100 := by decide +kernel
theorem W6 {B a : Nat} (h : B <= 2 ^ a) (g : a <= 1000) : B <= 2 ^ 1000 := Nat.le_trans h (Nat.pow_le_pow_right (by decide) g)
structure Dr (n : Nat) (ps : LR) (ws : LW) (hs : LH) : Prop where
 n0 : 1 <= n
 ln : ps.length = n
 sz : PSz (LL * 4) 58 ws hs ps
 nk : NOk (ps.map (·.2)) ws hs
 ix : Idx ws hs ps
 kp : ∀ W : Option Rat, (∀ V, W = some V -> ∀ p ∈ ps, enD p <= V) -> Kps ws hs ps W
 s50 : ∀ p ∈ ps, On (LL * 4) (2 ^ 50) p.1 /\ On (LL * 4) (2 ^ 50) p.2
theorem B86 {n : Nat} {xs : List Wk} {vs : List (Int × Int)} {us : List (Str × Int)} {ps : LR} {ws : LW} {hs : LH} (ok : ShOk n xs vs us) (h1 : ps.length = n) (h2 : ∀ p ∈ ps, 0 <= p.1 /\ On (LL * 4) (2 ^ 50) p.1 /\ On (LL * 4) (2 ^ 50) p.2) (h4 : ws.map (fun w => (w.1, w.2.1)) = vs) (h5 : ∀ w ∈ ws, On (LL * 4) (2 ^ 55) w.2.2 /\ 0 <= wSl ps w) (h6 : hs.map (fun h => (h.1, h.2.1)) = us) (h7 : ∀ h ∈ hs, On (LL * 4) (2 ^ 55) h.2.2 /\ 0 <= hSl ps h) : Dr n ps ws hs := by
 have wl : ws.length <= 40 := by have := ok.vl; rw [<- h4, List.length_map] at this; exact this
 have hl : hs.length <= 40 := by have := ok.ul; rw [<- h6, List.length_map] at this; exact this
 have wk : ∀ w ∈ ws, (0 <= w.1 /\ w.1 < (ps.length : Int)) /\ (0 <= w.2.1 /\ w.2.1 < (ps.length : Int)) /\ On (LL * 4) (2 ^ 58) w.2.2 := fun w hw => by
  have := ok.vk (w.1, w.2.1) (by rw [<- h4]; exact List.mem_map.mpr ⟨w, hw, rfl⟩)
  rw [h1]
  exact ⟨this.1, this.2, (h5 w hw).1.p2 (by decide)⟩
 have hk : ∀ h ∈ hs, Hk h.1 /\ (0 <= h.2.1 /\ h.2.1 < (ps.length : Int)) /\ On (LL * 4) (2 ^ 58) h.2.2 := fun h hh => by
  have := ok.uk (h.1, h.2.1) (by rw [<- h6]; exact List.mem_map.mpr ⟨h, hh, rfl⟩)
  rw [h1]
  exact ⟨this.1, this.2, (h7 h hh).1.p2 (by decide)⟩
 have n1 := ok.n1
 refine ⟨ok.n0, h1, ⟨by decide, W6 B5i (by decide), by decide, by omega, wl, hl, fun p hp => ⟨(h2 p hp).2.1.p2 (by decide), (h2 p hp).2.2.p2 (by decide)⟩, wk, hk⟩, ⟨by rw [List.length_map, h1]; exact ok.n0, by rw [List.length_map]; omega, wl, hl, fun t ht => ?_, fun w hw => by rw [List.length_map]; exact wk w hw, fun h hh => by rw [List.length_map]; exact hk h hh⟩, ⟨fun w hw => ⟨(wk w hw).1.1, (wk w hw).2.1.1, ok.vn (w.1, w.2.1) (by rw [<- h4]; exact List.mem_map.mpr ⟨w, hw, rfl⟩)⟩, fun h hh => (hk h hh).2.1.1⟩, fun W hW => ⟨fun p hp => (h2 p hp).1, fun w hw => (h5 w hw).2, fun h hh => (h7 h hh).2, hW⟩, fun p hp => (h2 p hp).2⟩
 obtain ⟨p, hp, rfl⟩ := List.mem_map.mp ht
 exact (h2 p hp).2.2.p2 (by decide)
theorem Dr.fo {n : Nat} {ps : LR} {ws : LW} {hs : LH} {W : Rat} (d : Dr n ps ws hs) (oW : O4 W) (hW : ∀ p ∈ ps, enD p <= W) : Fars (bkL (ps.map (·.2)) ws hs W) (ps.map (·.2)).length (farS (bkL (ps.map (·.2)) ws hs W) (ps.map (·.2)).length) :=
 Y7 (A8y d.nk oW) (by rw [List.length_map]; exact X5 ((d.kp (some W) fun V e => by cases e; exact hW).pot fun h hh => (d.sz.h h hh).1)) (by unfold bkL; rw [List.length_map]; exact M9 d.nk) d.nk.n1
theorem Dr.pot {n : Nat} {ps : LR} {ws : LW} {hs : LH} {W : Rat} (d : Dr n ps ws hs) (hW : ∀ p ∈ ps, enD p <= W) : Pot (L5 (ps.map (·.2)) ws hs (some W)) ps.length (pvS ps) := (d.kp (some W) fun V e => by cases e; exact hW).pot fun h hh => (d.sz.h h hh).1
theorem kz3 : ∀ z ∈ [("straight" : Str), "straight", "steps"], Kd z := fun z hz => by
 simp only [List.mem_cons, List.not_mem_nil, or_false] at hz
 rcases hz with rfl | rfl | rfl
 ·exact .inl rfl
 ·exact .inl rfl
 ·exact .inr rfl
theorem PSz.more {B a b : Nat} {ws : LW} {hs : LH} {ps : LR} (ok : PSz B a ws hs ps) (hb : a <= b) (hb2 : b <= 900) : PSz B b ws hs ps :=
 ⟨ok.b0, ok.b1, hb2, ok.ln, ok.wl, ok.hl, fun p hp => ⟨(ok.p p hp).1.p2 hb, (ok.p p hp).2.p2 hb⟩, fun w hw => let ⟨x, y, z⟩ := ok.w w hw; ⟨x, y, z.p2 hb⟩, fun w hw => let ⟨x, y, z⟩ := ok.h w hw; ⟨x, y, z.p2 hb⟩⟩
theorem B5v {ws : LW} {hs : LH} {ps : LR} {W : Rat} {j : Nat} {p : Rat × Rat} (h : ps[j]? = some p) : (slL ws hs ps W)[j]? = some (alo ws hs ps W j, rat (latS (ps.map (·.2)) ws hs W) (j : Int) - p.1) := by
 unfold slL
 rw [List.getElem?_map, List.getElem?_zipIdx, h]; simp
theorem A1q {ws : LW} {hs : LH} {ps : LR} {W : Rat} : (slL ws hs ps W).length = ps.length := by unfold slL; simp
theorem B8n {B a : Nat} {ws : LW} {hs : LH} {ps : LR} {W : Rat} {i : Nat} (ok : PSz B a ws hs ps) (oW : On B (2 ^ a) W) (hi : i < ps.length) : On B (2 ^ (a + 3)) (alo ws hs ps W i) := by
 rcases A82 (ws := ws) (hs := hs) (ps := ps) (W := W) (i := i) with e | ⟨w, hw, _, e⟩ | ⟨h, hh, _, e⟩
 ·rw [e]; exact (oW.p2 (b := a + 1) (by omega)).sub2 ok.b0 (ok.st (o := (i : Int)) (by omega) (by omega)).2.2 (by omega)
 ·rw [e]; exact (ok.wS hw).1
 ·rw [e]; exact ok.hS hh
theorem A48 {ps : LR} {i : Nat} (h : i < ps.length) : ps[i]? = some (sat ps (i : Int)) := by
 unfold sat
 rw [List.getD_eq_getElem?_getD, Int.toNat_natCast, List.getElem?_eq_getElem h]; rfl
mutual
inductive Cp : PyData -> OT -> Prop
 | non : Cp .none (.leaf .none)
 | bl (b : Bool) : Cp (.bool b) (.leaf (.bool b))
 | int (i : Int) : Cp (.int i) (.leaf (.int i))
 | str (s : Str) : Cp (.str s) (.leaf (.str s))
 | lst {xs : LP} {ks : List OT} {a : Addr} : Cps xs ks -> Cp (.list xs) (.nd true a (kids ks))
 | tupL {xs ys : LP} {ks : List OT} : Cps xs ks -> (kids ks).lvs = some ys -> Cp (.tuple xs) (.leaf (.tuple ys))
 | tupN {xs : LP} {ks : List OT} {a : Addr} : Cps xs ks -> (kids ks).lvs = none -> Cp (.tuple xs) (.nd false a (kids ks))
inductive Cps : LP -> List OT -> Prop
 | nil : Cps [] []
 | cons {x : PyData} {t : OT} {xs : LP} {ts : List OT} : Cp x t -> Cps xs ts -> Cps (x :: xs) (t :: ts)
end
theorem B4o : ∀ {t : OT} {xs : LP}, t.lvs = some xs -> t.dat = xs := fun {t xs} h => by rw [M2 h, I0]
mutual
theorem Cp.dat : ∀ {x : PyData} {t : OT}, Cp x t -> t.dat = [x]
 | _, _, .non => rfl
 | _, _, .bl _ => rfl
 | _, _, .int _ => rfl
 | _, _, .str _ => rfl
 | _, _, .lst h => by show [PyData.list _] = _; rw [Cps.dat h]
 | _, _, .tupL h e => by
  have := Cps.dat h
  rw [B4o e] at this
  rw [this]; rfl
 | _, _, .tupN h _ => by show [PyData.tuple _] = _; rw [Cps.dat h]
theorem Cps.dat : ∀ {xs : LP} {ks : List OT}, Cps xs ks -> (kids ks).dat = xs
 | _, _, .nil => rfl
 | _, _, .cons (xs := r) h t => by
  show OT.dat _ ++ (kids _).dat = _
  rw [Cp.dat h, Cps.dat t]; rfl
end
theorem Cps.snoc {x : PyData} {t : OT} (h : Cp x t) : ∀ {xs : LP} {ts : List OT}, Cps xs ts -> Cps (xs ++ [x]) (ts ++ [t])
 | _, _, .nil => .cons h .nil
 | _, _, .cons a b => .cons a (Cps.snoc h b)
theorem Q7 {α : Type} {f : α -> PyData} (h : ∀ x t, Cp (f x) t -> t = .leaf (f x)) : ∀ {xs : List α} {ks : List OT}, Cps (xs.map f) ks -> kids ks = B8 (xs.map f)
 | [], _, .nil => rfl
 | x :: r, _, .cons a b => by
  show OT.cons _ (kids _) = .cons (.leaf (f x)) (B8 (r.map f))
  rw [h x _ a, Q7 h b]
theorem A02 {i : Int} {t : OT} (h : Cp (.int i) t) : t = .leaf (.int i) := by cases h; rfl
theorem B8c {s : Str} {t : OT} (h : Cp (.str s) t) : t = .leaf (.str s) := by cases h; rfl
theorem A8l {xs : LP} {t : OT} (h : Cp (.tuple xs) t) (hx : ∀ ks, Cps xs ks -> kids ks = B8 xs) : t = .leaf (.tuple xs) := by
 cases h with
 | tupL h e => rw [hx _ h, N8] at e; cases e; rfl
 | tupN h e => rw [hx _ h, N8] at e; cases e
theorem B8d (q : Rat) (t : OT) (h : Cp (dq q) t) : t = .leaf (dq q) := A8l h fun ks hk => by
 cases hk with | cons a hk => cases hk with | cons b hk => cases hk; rw [A02 a, A02 b]; rfl
theorem B87 (c : Int × Int × Rat) (t : OT) (h : Cp (wD c) t) : t = .leaf (wD c) := A8l h fun ks hk => by
 cases hk with | cons a hk => cases hk with | cons b hk => cases hk with | cons d hk => cases hk; rw [A02 a, A02 b, B8d _ _ d]; rfl
theorem B88 (c : Str × Int × Rat) (t : OT) (h : Cp (hD c) t) : t = .leaf (hD c) := A8l h fun ks hk => by
 cases hk with | cons a hk => cases hk with | cons b hk => cases hk with | cons d hk => cases hk; rw [B8c a, A02 b, B8d _ _ d]; rfl
def OT.out : OT -> SV
 | .leaf x => .d x
 | t => .tr t
theorem A6u {t : OT} {k : OT -> Prop} (h : k t) : (OT.out t).ot k := by cases t <;> exact h
def A5k (n : Nat) : PSp := fun as Q => ∃ x, as = [.d x] /\ okA n x /\ ∀ t, Cp x t -> Q (OT.out t)
theorem A4k {xs : LP} {ks : List OT} {p : Addr} (h : Cps xs ks) : ∃ t, Cp (.tuple xs) t /\ OT.tup p (kids ks) = OT.out t := by
 cases e : (kids ks).lvs with
 | none => exact ⟨_, .tupN h e (a := p), by unfold OT.tup; rw [e]; rfl⟩
 | some ys => exact ⟨_, .tupL h e, by unfold OT.tup; rw [e]; rfl⟩
theorem B63 (c : Int × Int × Rat) (n : Nat) : okA (n + 2) (wD c) := by
 unfold wD okA
 refine ⟨Nat.le_of_ble_eq_true rfl, fun x hx => ?_⟩
 simp only [List.mem_cons, List.not_mem_nil, or_false] at hx
 rcases hx with rfl | rfl | rfl
 ·unfold okA; exact True.intro
 ·unfold okA; exact True.intro
 ·exact A64 _ _
theorem A12 {z : Str} (h : (PyData.str z).canLay0 = true) (n : Nat) : okA n (.str z) := by cases n <;> exact h
theorem B65 {c : Str × Int × Rat} (h : Hk c.1) (n : Nat) : okA (n + 2) (hD c) := by
 unfold hD okA
 refine ⟨Nat.le_of_ble_eq_true rfl, fun x hx => ?_⟩
 simp only [List.mem_cons, List.not_mem_nil, or_false] at hx
 rcases hx with rfl | rfl | rfl
 ·exact A12 h.lay _
 ·unfold okA; exact True.intro
 ·exact A64 _ _
theorem B64 {x : Wk} (h1 : (PyData.str x.1).canLay0 = true) (h2 : Kd x.2.1) (h3 : x.2.2.length < 1000) (n : Nat) : okA (n + 5) (kD x) := by
 rw [show kD x = PyData.tuple [.str x.1, .tuple [.str x.2.1, .list (x.2.2.map dcn)]] from rfl]
 unfold okA
 refine ⟨Nat.le_of_ble_eq_true rfl, fun y hy => ?_⟩
 simp only [List.mem_cons, List.not_mem_nil, or_false] at hy
 rcases hy with rfl | rfl
 ·exact A12 h1 _
 ·unfold okA
  refine ⟨Nat.le_of_ble_eq_true rfl, fun z hz => ?_⟩
  simp only [List.mem_cons, List.not_mem_nil, or_false] at hz
  rcases hz with rfl | rfl
  ·exact A12 h2.lay _
  ·exact B66 h3 n
theorem B4f {xs : List Wk} {ws : LW} {hs : LH} (h1 : ∀ x ∈ xs, (PyData.str x.1).canLay0 = true /\ Kd x.2.1 /\ x.2.2.length < 1000) (hl : xs.length < 1000) (hw : ws.length < 1000) (hh : hs.length < 1000) (hk : ∀ h ∈ hs, Hk h.1) : okA 8 (netD xs ws hs []) := by
 unfold netD okA
 refine ⟨Nat.le_of_ble_eq_true rfl, fun y hy => ?_⟩
 simp only [List.mem_cons, List.not_mem_nil, or_false] at hy
 rcases hy with rfl | rfl | rfl | rfl
 ·unfold okA
  refine ⟨by rw [List.length_map]; exact hl, fun z hz => ?_⟩
  obtain ⟨x, hx, rfl⟩ := List.mem_map.mp hz
  exact B64 (h1 x hx).1 (h1 x hx).2.1 (h1 x hx).2.2 1
 ·unfold okA
  refine ⟨by rw [List.length_map]; exact hw, fun z hz => ?_⟩
  obtain ⟨x, hx, rfl⟩ := List.mem_map.mp hz
  exact B63 x 4
 ·unfold okA
  refine ⟨by rw [List.length_map]; exact hh, fun z hz => ?_⟩
  obtain ⟨x, hx, rfl⟩ := List.mem_map.mp hz
  exact B65 (hk x hx) 4
 ·unfold okA
  exact ⟨Nat.le_of_ble_eq_true rfl, fun z hz => nomatch hz⟩
theorem B4t {ws : LW} {hs : LH} {qs : LR} {ts : LQ} {V : Rat} (ht : qs.map (·.2) = ts) (K : Kps ws hs qs (some V)) (hk : ∀ h ∈ hs, Hk h.1) (fo : Fars (bkL ts ws hs V) ts.length (farS (bkL ts ws hs V) ts.length)) (i : Nat) (x y : Rat) (hx : (qs.map (·.1))[i]? = some x) (hy : (latS ts ws hs V)[i]? = some y) : x <= y := by
 subst ht
 rw [List.getElem?_map] at hx
 obtain ⟨p, hp, rfl⟩ := Option.map_eq_some_iff.mp hx
 have hi := (List.getElem?_eq_some_iff.mp hp).1
 obtain ⟨a, ha, e⟩ := A7x fo (v := i) (by rw [List.length_map]; exact hi)
 rw [hy] at e
 rw [Option.some.inj e]
 have := fo.le _ (by rw [List.length_map]; exact X5 (K.pot hk)) i a ha
 rw [B29 hp] at this
 grind
theorem Y5 : ∀ {xs : LP}, (∀ x ∈ xs, x.canLay0 = true) -> PyData.canLayAll0 xs = true
 | [], _ => rfl
 | x :: r, h => by
  show (x.canLay0 && PyData.canLayAll0 r) = true
  rw [h x List.mem_cons_self, Y5 fun y hy => h y (List.mem_cons_of_mem _ hy)]; rfl
theorem Z0 {n : Nat} : ∀ {xs : LP}, (∀ x ∈ xs, x.depth <= n) -> PyData.depthAll xs <= n
 | [], _ => Nat.zero_le _
 | x :: r, h => by
  show max x.depth (PyData.depthAll r) <= n
  exact Nat.max_le.mpr ⟨h x List.mem_cons_self, Z0 fun y hy => h y (List.mem_cons_of_mem _ hy)⟩
theorem T7 : ∀ (n : Nat) {x : PyData}, okA n x -> x.canLay0 = true /\ x.depth <= n
 | n, .none, _ => ⟨rfl, Nat.zero_le _⟩
 | n, .bool _, _ => ⟨rfl, Nat.zero_le _⟩
 | n, .int _, _ => ⟨rfl, Nat.zero_le _⟩
 | n, .str _, h => ⟨by cases n <;> exact h, Nat.zero_le _⟩
 | n, .dict _, h => by cases n <;> exact h.elim
 | 0, .list _, h => h.elim
 | 0, .tuple _, h => h.elim
 | n + 1, .list xs, h => ⟨Y5 fun x hx => (T7 n (h.2 x hx)).1, Nat.succ_le_succ (Z0 fun x hx => (T7 n (h.2 x hx)).2)⟩
 | n + 1, .tuple xs, h => ⟨Y5 fun x hx => (T7 n (h.2 x hx)).1, Nat.succ_le_succ (Z0 fun x hx => (T7 n (h.2 x hx)).2)⟩
theorem B7z {t : OT} {x : PyData} {a b : Addr} {xs : LP} (h : t.dat = [x]) : (OT.nd true a (.cons t (.cons (.nd true b (B8 xs)) .nil))).dat = [.list [x, .list xs]] := by
 show [PyData.list (t.dat ++ ([PyData.list (B8 xs).dat] ++ []))] = _
 rw [I0, h]; rfl
theorem Dr.noW {n : Nat} {ps : LR} {ws : LW} {hs : LH} (d : Dr n ps ws hs) : Dr n ps [] hs :=
 ⟨d.n0, d.ln, ⟨d.sz.b0, d.sz.b1, d.sz.a1, d.sz.ln, Nat.zero_le _, d.sz.hl, d.sz.p, fun _ h => (nomatch h), d.sz.h⟩, ⟨d.nk.n0, d.nk.n1, Nat.zero_le _, d.nk.hl, d.nk.t, fun _ h => (nomatch h), d.nk.h⟩, ⟨fun _ h => (nomatch h), d.ix.h⟩, fun W hW => ⟨(d.kp W hW).s, fun _ h => (nomatch h), (d.kp W hW).h, hW⟩, d.s50⟩
theorem B48 {xs : List Wk} {ws : LW} {hs : LH} {gs : LP} {t : OT} (h : Cp (netD xs ws hs gs) t) : ∃ a a1 k1 a2 a3 a4 k4, t = .nd false a (.cons (.nd true a1 k1) (.cons (.nd true a2 (B8 (ws.map wD))) (.cons (.nd true a3 (B8 (hs.map hD))) (.cons (.nd true a4 k4) .nil)))) := by
 have key : ∀ ks, Cps [.list (xs.map kD), .list (ws.map wD), .list (hs.map hD), .list gs] ks -> ∃ a1 k1 a2 a3 a4 k4, kids ks = .cons (.nd true a1 k1) (.cons (.nd true a2 (B8 (ws.map wD))) (.cons (.nd true a3 (B8 (hs.map hD))) (.cons (.nd true a4 k4) .nil))) := fun ks hk => by
  cases hk with | cons a hk => cases hk with | cons b hk => cases hk with | cons c hk => cases hk with | cons d hk =>
  cases hk
  cases a with | lst a =>
  cases b with | lst b =>
  cases c with | lst c =>
  cases d with | lst d =>
  exact ⟨_, _, _, _, _, _, by show OT.cons _ (.cons _ (.cons _ (.cons _ .nil))) = _; rw [Q7 B87 b, Q7 B88 c]⟩
 cases h with
 | tupL h e =>
  obtain ⟨_, _, _, _, _, _, ek⟩ := key _ h
  rw [ek] at e; cases e
 | tupN h e =>
  obtain ⟨a1, k1, a2, a3, a4, k4, ek⟩ := key _ h
  exact ⟨_, a1, k1, a2, a3, a4, k4, by rw [ek]⟩
theorem A9z {xs : List Wk} {ws : LW} {hs : LH} {gs : LP} (h : okA 8 (netD xs ws hs [])) (hg : gs = [] \/ gs = [.list [.int 1, .int 0]]) : okA 8 (netD xs ws hs gs) := by
 rcases hg with rfl | rfl
 ·exact h
 ·unfold netD okA at h ⊢
  refine ⟨Nat.le_of_ble_eq_true rfl, fun y hy => ?_⟩
  simp only [List.mem_cons, List.not_mem_nil, or_false] at hy
  rcases hy with rfl | rfl | rfl | rfl
  ·exact h.2 _ (by simp)
  ·exact h.2 _ (by simp)
  ·exact h.2 _ (by simp)
  ·unfold okA
   refine ⟨Nat.le_of_ble_eq_true rfl, fun z hz => ?_⟩
   rw [List.mem_singleton.mp hz]
   unfold okA
   refine ⟨Nat.le_of_ble_eq_true rfl, fun z hz => ?_⟩
   simp only [List.mem_cons, List.not_mem_nil, or_false] at hz
   rcases hz with rfl | rfl <;> (unfold okA; exact True.intro)
theorem B7j (A B : LQ) (m : Rat) : lm (A ++ B) m = lm B (lm A m) := by unfold lm; rw [List.foldl_append]
theorem A0y {α : Type} {p : α -> Bool} {xs : List α} {i : Nat} {a : α} (h : xs[i]? = some a) : (xs.take (i + 1)).filter p = (xs.take i).filter p ++ (if p a = true then [a] else []) := by
 rw [List.take_add_one, h, List.filter_append]
 simp only [Option.toList, List.filter_cons, List.filter_nil]
def rmA (ws : LW) (ps : LR) (W : Rat) (n i : Nat) : LQ := (W - enD (sat ps (n : Int))) :: ((ws.take i).filter fun w => decide (w.1 = (n : Int))).map (wSl ps)
def rmB (ws : LW) (hs : LH) (ps : LR) (W : Rat) (n i : Nat) : LQ := rmA ws ps W n ws.length ++ ((hs.take i).filter (hTB n)).map (hSl ps)
theorem A9c {ws : LW} {ps : LR} {W : Rat} {n i : Nat} {x : Int × Int × Rat} (h : ws[i]? = some x) : rmA ws ps W n (i + 1) = rmA ws ps W n i ++ (if x.1 = (n : Int) then [wSl ps x] else []) := by
 unfold rmA
 rw [A0y h, List.map_append]
 by_cases z : x.1 = (n : Int)
 ·rw [if_pos z, if_pos (decide_eq_true z)]; rfl
 ·rw [if_neg z, if_neg (fun y => z (of_decide_eq_true y))]; simp
theorem A9b {ws : LW} {hs : LH} {ps : LR} {W : Rat} {n i : Nat} {x : Str × Int × Rat} (h : hs[i]? = some x) : rmB ws hs ps W n (i + 1) = rmB ws hs ps W n i ++ (if hTB n x = true then [hSl ps x] else []) := by
 unfold rmB
 rw [A0y h, List.map_append, <- List.append_assoc]
 by_cases z : hTB n x = true
 ·rw [if_pos z, if_pos z]; rfl
 ·rw [if_neg z, if_neg z]; rfl
theorem B52 {ws : LW} {hs : LH} {ps : LR} {W : Rat} {n : Nat} : lm (rmB ws hs ps W n hs.length) (W - enD (sat ps (n : Int))) = alo ws hs ps W n := by
 unfold rmB rmA
 rw [B7j, List.take_length, List.take_length]
 unfold alo aloW
 congr 1
 show lm _ (if W - enD (sat ps (n : Int)) < W - enD (sat ps (n : Int)) then _ else _) = _
 rw [if_neg Rat.lt_irrefl]
section
variable {P : Program} {w : World} {K : PySem.W.Frag} {mg : Str -> Option Value} {base : Heap} {D : Adr}
theorem P6 (T : Txt K mg D) : FnOk P w K mg base CX0 1 D.a_commonpart D.d_commonpart ["one", "other"] (Pu.spOf K [.dat, .dat] B6g) := by
 refine T.F_commonpart.ok sc_commonpart (Pu.spOf.len rfl) (fun cdv A outer s H vs Q E hr h => ?_)
 refine ⟨_, (QSs.out (A2 (X1 (i := 0) (j := 1) rfl sc_commonpart.nd rfl rfl (by decide) rfl rfl (A0 (B9 A1b (by rfl) T.z_abs (by rfl) (A0 (qpv 0) A1)) (A0 (B9 A1b (by rfl) T.z_abs (by rfl) (A0 (qpv 1) A1)) A1)) rfl)
   (A2 (T2 PassesOwn.never (B7 (K1 (K := K) rfl hr.units) (qpv 1) A3 (C4 _))
    (A7 (X1 (i := 0) (j := 1) rfl sc_commonpart.nd rfl rfl (by decide) rfl rfl (A0 (qpv 1) (A0 (C5 O0 (qpv 0) (qpv 1)) A1)) rfl)))
   (A7 (C0 (qpv 0)))))), ?_⟩
 haveI := T.c2_NOUGHT
 haveI := T.c2_ONE
 refine Pu.G3 h ?_
 rintro as Qp ⟨a, b, rfl, k⟩
 trivial
 refine ⟨fun m e => ∃ x y : Int, e = [some (.d (.int x)), some (.d (.int y))] /\ 0 <= x /\ 0 <= y /\ m = y.toNat /\ Int.gcd x y = Int.gcd a b, ⟨_, _, _, rfl, by split <;> omega, by split <;> omega, rfl, B42 a b⟩, ?_⟩
 rintro m e ⟨x, y, rfl, hx, hy, rfl, hg⟩
 trivial
 refine ite2 (fun e => ?_) (fun hn => ?_)
 ·subst e
  have := A3k x hx
  rw [hg] at this
  rw [<- this]; exact k
 ·have h1 := Int.emod_lt_of_pos x (show 0 < y by omega)
  have h2 := Int.emod_nonneg x hn
  exact ⟨by omega, (x % y).toNat, by omega, y, x % y, rfl, hy, h2, rfl, by rw [A79, hg]⟩
theorem T5 (T : Txt K mg D) : FnOk P w K mg base CX0 2 D.a_plus D.d_plus ["one", "other"] (Pu.spOf K [.dat, .dat] (A0e (·+·))) := by
 refine T.F_plus.ok sc_plus (Pu.spOf.len rfl) (fun cdv A outer s H vs Q E hr h => ?_)
 refine ⟨_, (QSs.out (A2 (B3 (i := 2) sc_plus.nd rfl (Or.inl rfl) (A6 (P6 (K := K) T) hr.mo rfl T.m_commonpart T.F_commonpart.kp (R3 T) .nil B5 (A0 (A8 (A5 (K := K) rfl) (qpv 0) A3 (fun _ _ => rfl)) (A0 (A8 (A5 (K := K) rfl) (qpv 1) A3 (fun _ _ => rfl)) A1))))
   (A2 (X1 (i := 3) (j := 4) rfl sc_plus.nd rfl rfl (by decide) rfl rfl (A0 (C5 L7 (A8 (A5 (K := K) rfl) (qpv 0) A3 (fun _ _ => rfl)) (qpv 2)) (A0 (C5 L7 (A8 (A5 (K := K) rfl) (qpv 1) A3 (fun _ _ => rfl)) (qpv 2)) A1)) rfl)
   (A2 (B3 (i := 5) sc_plus.nd rfl (Or.inl rfl) (C5 G5 (C5 F1 (A8 (A5 (K := K) rfl) (qpv 0) A3 (fun _ _ => rfl)) (qpv 4)) (C5 F1 (A8 (A5 (K := K) rfl) (qpv 1) A3 (fun _ _ => rfl)) (qpv 3))))
   (A2 (B3 (i := 6) sc_plus.nd rfl (Or.inl rfl) (A6 (P6 (K := K) T) hr.mo rfl T.m_commonpart T.F_commonpart.kp (R3 T) .nil B5 (A0 (qpv 5) (A0 (qpv 2) A1))))
   (A7 (C0 (C1 (A0 (C5 L7 (qpv 5) (qpv 6)) (A0 (C5 F1 (qpv 3) (C5 L7 (A8 (A5 (K := K) rfl) (qpv 1) A3 (fun _ _ => rfl)) (qpv 6))) A1)))))))))), ?_⟩
 haveI := T.c2_NOUGHT
 haveI := T.c2_ONE
 refine Pu.G3 h ?_
 rintro as Qp ⟨p, q, rfl, sp, sq, k⟩
 trivial
 refine ⟨_, _, rfl, ?_⟩
 trivial
 have p2 := sp.2.mono (l := 8000) (by decide)
 have q2 := sq.2.mono (l := 8000) (by decide)
 have g0 := A4j (t := (p.den : Int)) q
 have gs := A44 (t := (p.den : Int)) q2 (den0 q)
 have gn : (0 : Int) <= ((Int.gcd (p.den : Int) (q.den : Int) : Nat) : Int) := Int.natCast_nonneg _
 refine ⟨⟨g0, gs⟩, ⟨g0, gs⟩, ⟨sp.1.mono (by decide), B0i q2 gn⟩, ⟨sq.1.mono (by decide), B0i p2 gn⟩, _, _, rfl, ?_⟩
 trivial
 refine ⟨⟨A3l g0, A44 gs g0⟩, ⟨A3l g0, A44 gs g0⟩, ⟨B0i p2 gn, B0i q2 (Int.natCast_nonneg _)⟩, ?_⟩
 obtain ⟨e1, e2⟩ := B3j p q _ _ rfl rfl
 rw [e1, e2]; exact k
theorem J5 (T : Txt K mg D) : FnOk P w K mg base CX0 3 D.a_minus D.d_minus ["one", "other"] (Pu.spOf K [.dat, .dat] (A0e (·-·))) := by
 refine T.F_minus.ok sc_minus (Pu.spOf.len rfl) (fun cdv A outer s H vs Q E hr h => ?_)
 refine ⟨_, (QSs.out (A7 (C0 (A6 (T5 (K := K) T) hr.mo rfl T.m_plus T.F_plus.kp (A1j T) .nil B5 (A0 (qpv 0) (A0 (C1 (A0 (B06 B0x (A8 (A5 (K := K) rfl) (qpv 1) A3 (fun _ _ => rfl))) (A0 (A8 (A5 (K := K) rfl) (qpv 1) A3 (fun _ _ => rfl)) A1))) A1)))))), ?_⟩
 haveI := T.c2_NOUGHT
 haveI := T.c2_ONE
 refine Pu.G3 h ?_
 rintro as Qp ⟨p, q, rfl, sp, sq, k⟩
 trivial
 rw [B76]
 refine ⟨_, _, rfl, sp, ⟨by have := sq.1; unfold Sm at *; show (-q.num).natAbs < _; omega, sq.2⟩, ?_⟩
 show Qp (.d (dq (p + -q)))
 rw [<- Rat.sub_eq_add_neg]; exact k
theorem A0o (T : Txt K mg D) : FnOk P w K mg base CX0 1 D.a_isless D.d_isless ["one", "other"] (Pu.spOf K [.dat, .dat] A5i) := by
 refine T.F_isless.ok sc_isless (Pu.spOf.len rfl) (fun cdv A outer s H vs Q E hr h => ?_)
 refine ⟨_, (QSs.out (A7 (C0 (J0 A4b (C5 F1 (A8 (A5 (K := K) rfl) (qpv 0) A3 (fun _ _ => rfl)) (A8 (A5 (K := K) rfl) (qpv 1) A3 (fun _ _ => rfl))) (C5 F1 (A8 (A5 (K := K) rfl) (qpv 1) A3 (fun _ _ => rfl)) (A8 (A5 (K := K) rfl) (qpv 0) A3 (fun _ _ => rfl))) (C4 _))))), ?_⟩
 haveI := T.c2_NOUGHT
 haveI := T.c2_ONE
 refine Pu.G3 h ?_
 rintro as Qp ⟨p, q, rfl, sp, sq, k⟩
 trivial
 have p1 := sp.1.mono (l := 8000) (by decide)
 have p2 := sp.2.mono (l := 8000) (by decide)
 have q1 := sq.1.mono (l := 8000) (by decide)
 have q2 := sq.2.mono (l := 8000) (by decide)
 refine ⟨⟨p1, q2⟩, ⟨q1, p2⟩, ?_⟩
 rw [A3h]; exact k
def A36 : Pu.PSp := fun as Q => ∃ p q : Rat, as = [.d (dq p), .d (dq q)] /\ SmQ 3900 p /\ SmQ 3900 q /\ Q (.d (dq (if q < p then q else p)))
theorem V5 (T : Txt K mg D) : FnOk P w K mg base CX0 2 D.a_smaller D.d_smaller ["one", "other"] (Pu.spOf K [.dat, .dat] A36) := by
 refine T.F_smaller.ok sc_smaller (Pu.spOf.len rfl) (fun cdv A outer s H vs Q E hr h => ?_)
 refine ⟨_, (QSs.out (A7 (C0 (A5d (F8 (A6 (A0o (K := K) T) hr.mo rfl T.m_isless T.F_isless.kp (A3w T) .nil B5 (A0 (qpv 1) (A0 (qpv 0) A1)))) (qpv 1) (qpv 0))))), ?_⟩
 haveI := T.c2_NOUGHT
 haveI := T.c2_ONE
 refine Pu.G3 h ?_
 rintro as Qp ⟨p, q, rfl, sp, sq, k⟩
 trivial
 refine ⟨q, p, rfl, sq, sp, ?_⟩
 trivial
 refine ite2 (fun h => ?_) (fun h => ?_)
 ·rw [if_pos h] at k; exact k
 ·rw [if_neg h] at k; exact k
def A9h : Pu.PSp := fun as Q => ∃ p : Rat × Rat, as = [.d (dcn p)] /\ PlSm p /\ Q (.d (dq (enD p)))
theorem X9 (T : Txt K mg D) : FnOk P w K mg base CX0 3 D.a_endof D.d_endof ["step"] (Pu.spOf K [.dat] A9h) := by
 refine T.F_endof.ok sc_endof (Pu.spOf.len rfl) (fun cdv A outer s H vs Q E hr h => ?_)
 refine ⟨_, (QSs.out (A7 (C0 (A6 (T5 (K := K) T) hr.mo rfl T.m_plus T.F_plus.kp (A1j T) .nil B5 (A0 (A8 (A5 (K := K) rfl) (qpv 0) A3 (fun _ _ => rfl)) (A0 (A8 (A5 (K := K) rfl) (qpv 0) A3 (fun _ _ => rfl)) A1)))))), ?_⟩
 haveI := T.c2_NOUGHT
 haveI := T.c2_ONE
 refine Pu.G3 h ?_
 rintro as Qp ⟨p, rfl, hp, k⟩
 trivial
 exact ⟨p.1, p.2, rfl, hp.s, hp.t, k⟩
def A0b : Pu.PSp := fun as Q => ∃ (w : Int × Int × Rat) (ps : LR), as = [.d (wD w), .bor (ps.map dcn)] /\ (0 <= w.1 /\ w.1 < (ps.length : Int)) /\ (0 <= w.2.1 /\ w.2.1 < (ps.length : Int)) /\ PlSm (sat ps w.1) /\ PlSm (sat ps w.2.1) /\ SmQ 3900 w.2.2 /\ SmQ 3900 (enD (sat ps w.1) + w.2.2) /\ Q (.d (dq (wSl ps w)))
theorem A0l (T : Txt K mg D) : FnOk P w K mg base CX0 4 D.a_waitslack D.d_waitslack ["wait", "plan"] (Pu.spOf K [.dat, .vw] A0b) := by
 refine T.F_waitslack.ok sc_waitslack (Pu.spOf.len rfl) (fun cdv A outer s H vs Q E hr h => ?_)
 refine ⟨_, (QSs.out (A2 (E6 (qpv 0) (C9 (K := K) (n := 3) rfl rfl (B2 (A9 (i := 2) sc_waitslack.nd rfl (Or.inl rfl) (Or.inl rfl)) (B2 (A9 (i := 3) sc_waitslack.nd rfl (Or.inl rfl) (Or.inl rfl)) (B2 (A9 (i := 4) sc_waitslack.nd rfl (Or.inl rfl) (Or.inl rfl)) C8))) rfl rfl))
   (A7 (C0 (A6 (J5 (K := K) T) hr.mo rfl T.m_minus T.F_minus.kp (L9 T) .nil B5 (A0 (A8 (A5 (K := K) rfl) (A8 (A5 (K := K) rfl) (qpv 1) (qpv 3) (fun _ _ => rfl)) A3 (fun _ _ => rfl)) (A0 (A6 (T5 (K := K) T) hr.mo rfl T.m_plus T.F_plus.kp (A1j T) .nil B5 (A0 (A6 (X9 (K := K) T) hr.mo rfl T.m_endof T.F_endof.kp (A2f T) .nil B5 (A0 (A8 (A5 (K := K) rfl) (qpv 1) (qpv 2) (fun _ _ => rfl)) A1)) (A0 (qpv 4) A1))) A1))))))), ?_⟩
 haveI := T.c2_NOUGHT
 haveI := T.c2_ONE
 refine Pu.G3 h ?_
 rintro as Qp ⟨⟨a, b, l⟩, ps, rfl, ha, hb, pa, pb, sl, se, k⟩
 have ea := T1 ha.1 ha.2
 have eb := T1 hb.1 hb.2
 unfold wD
 trivial
 refine E8 eb ?_
 trivial
 refine E8 ea ?_
 trivial
 refine ⟨_, rfl, pa, ?_⟩
 trivial
 refine ⟨_, _, rfl, pa.e, sl, ?_⟩
 trivial
 exact ⟨_, _, rfl, pb.s, se, k⟩
def A0d : Pu.PSp := fun as Q => ∃ (h : Str × Int × Rat) (ps : LR), as = [.d (hD h), .bor (ps.map dcn)] /\ Hk h.1 /\ (0 <= h.2.1 /\ h.2.1 < (ps.length : Int)) /\ PlSm (sat ps h.2.1) /\ SmQ 3900 h.2.2 /\ Q (.d (dq (hSl ps h)))
theorem A0p (T : Txt K mg D) : FnOk P w K mg base CX0 4 D.a_holdslack D.d_holdslack ["hold", "plan"] (Pu.spOf K [.dat, .vw] A0d) := by
 refine T.F_holdslack.ok sc_holdslack (Pu.spOf.len rfl) (fun cdv A outer s H vs Q E hr h => ?_)
 refine ⟨_, (QSs.out (A2 (E6 (qpv 0) (C9 (K := K) (n := 3) rfl rfl (B2 (A9 (i := 2) sc_holdslack.nd rfl (Or.inl rfl) (Or.inl rfl)) (B2 (A9 (i := 3) sc_holdslack.nd rfl (Or.inl rfl) (Or.inl rfl)) (B2 (A9 (i := 4) sc_holdslack.nd rfl (Or.inl rfl) (Or.inl rfl)) C8))) rfl rfl))
   (A2 (D0 (B7 (D4 (K := K) rfl hr.units) (qpv 2) C6 (C4 _))
    (A7 (C0 (A6 (J5 (K := K) T) hr.mo rfl T.m_minus T.F_minus.kp (L9 T) .nil B5 (A0 (A8 (A5 (K := K) rfl) (A8 (A5 (K := K) rfl) (qpv 1) (qpv 3) (fun _ _ => rfl)) A3 (fun _ _ => rfl)) (A0 (qpv 4) A1)))))
    C3)
   (A2 (D0 (B7 (D4 (K := K) rfl hr.units) (qpv 2) C6 (C4 _))
    (A7 (C0 (A6 (J5 (K := K) T) hr.mo rfl T.m_minus T.F_minus.kp (L9 T) .nil B5 (A0 (qpv 4) (A0 (A8 (A5 (K := K) rfl) (A8 (A5 (K := K) rfl) (qpv 1) (qpv 3) (fun _ _ => rfl)) A3 (fun _ _ => rfl)) A1)))))
    C3)
   (A7 (C0 (A6 (J5 (K := K) T) hr.mo rfl T.m_minus T.F_minus.kp (L9 T) .nil B5 (A0 (qpv 4) (A0 (A6 (X9 (K := K) T) hr.mo rfl T.m_endof T.F_endof.kp (A2f T) .nil B5 (A0 (A8 (A5 (K := K) rfl) (qpv 1) (qpv 3) (fun _ _ => rfl)) A1)) A1))))))))), ?_⟩
 haveI := T.c2_NOUGHT
 haveI := T.c2_ONE
 refine Pu.G3 h ?_
 rintro as Qp ⟨⟨kd, b, l⟩, ps, rfl, hk, hb, pb, sl, k⟩
 have eb := T1 hb.1 hb.2
 unfold hD
 trivial
 refine ⟨hk.lay, A3i, ?_⟩
 rcases hk with hk | hk | hk
 ·have hk' : kd = "from" := hk
  subst hk'
  rw [B2f, if_pos rfl]
  refine E8 eb ?_
  trivial
  exact ⟨_, _, rfl, pb.s, sl, k⟩
 ·have hk' : kd = "till" := hk
  subst hk'
  rw [B2e, if_neg (by decide)]
  refine ⟨Q9, Q9, ?_⟩
  rw [A8c, if_pos rfl]
  refine E8 eb ?_
  trivial
  refine ⟨_, _, rfl, sl, pb.s, ?_⟩
  unfold hSl at k
  rw [if_neg A7k, if_pos rfl] at k
  exact k
 ·have hk' : kd = "by" := hk
  subst hk'
  rw [B2h, if_neg (by decide)]
  refine ⟨by decide +kernel, Q9, ?_⟩
  rw [A8d, if_neg (by decide)]
  refine E8 eb ?_
  trivial
  refine ⟨_, rfl, pb, ?_⟩
  trivial
  refine ⟨_, _, rfl, sl, pb.e, ?_⟩
  unfold hSl at k
  rw [if_neg A7l, if_neg A95] at k
  exact k
def A39 : Pu.PSp := fun as Q => ∃ (h : Str × Int × Rat) (ts : LQ) (arc : PyData), as = [.d (hD h), .bor (ts.map dq), .d arc] /\ Hk h.1 /\ (0 <= h.2.1 /\ h.2.1 < (ts.length : Int)) /\ SmQ 3900 h.2.2 /\ (∀ t ∈ ts, SmQ 3900 t) /\ Q (.d (.tuple (if h.1 = "from" then [.int (ts.length : Int), .int h.2.1, dq h.2.2, arc] else if h.1 = "till" then [.int h.2.1, .int (ts.length : Int), dq (0 - h.2.2), arc] else [.int h.2.1, .int (ts.length : Int), dq (rat ts h.2.1 - h.2.2), arc])))
theorem A4d (T : Txt K mg D) : FnOk P w K mg base CX0 4 D.a_holdway D.d_holdway ["hold", "times", "arc"] (Pu.spOf K [.dat, .vw, .dat] A39) := by
 refine T.F_holdway.ok sc_holdway (Pu.spOf.len rfl) (fun cdv A outer s H vs Q E hr h => ?_)
 refine ⟨_, (QSs.out (A2 (E6 (qpv 0) (C9 (K := K) (n := 3) rfl rfl (B2 (A9 (i := 3) sc_holdway.nd rfl (Or.inl rfl) (Or.inl rfl)) (B2 (A9 (i := 4) sc_holdway.nd rfl (Or.inl rfl) (Or.inl rfl)) (B2 (A9 (i := 5) sc_holdway.nd rfl (Or.inl rfl) (Or.inl rfl)) C8))) rfl rfl))
   (A2 (B3 (i := 6) sc_holdway.nd rfl (Or.inl rfl) (B9 (C2 (K := K) rfl) (by rfl) T.z_len PySem.boot_len (A0 (qpv 1) A1)))
   (A2 (D0 (B7 (D4 (K := K) rfl hr.units) (qpv 3) C6 (C4 _))
    (A7 (C0 (C1 (A0 (qpv 6) (A0 (qpv 4) (A0 (qpv 5) (A0 (qpv 2) A1)))))))
    C3)
   (A2 (D0 (B7 (D4 (K := K) rfl hr.units) (qpv 3) C6 (C4 _))
    (A7 (C0 (C1 (A0 (qpv 4) (A0 (qpv 6) (A0 (A6 (J5 (K := K) T) hr.mo rfl T.m_minus T.F_minus.kp (L9 T) .nil B5 (A0 (S2 (v := .ref D.k_NOUGHT) rfl T.c_NOUGHT rfl) (A0 (qpv 5) A1))) (A0 (qpv 2) A1)))))))
    C3)
   (A7 (C0 (C1 (A0 (qpv 4) (A0 (qpv 6) (A0 (A6 (J5 (K := K) T) hr.mo rfl T.m_minus T.F_minus.kp (L9 T) .nil B5 (A0 (A8 (A5 (K := K) rfl) (qpv 1) (qpv 4) (fun _ _ => rfl)) (A0 (qpv 5) A1))) (A0 (qpv 2) A1)))))))))))), ?_⟩
 haveI := T.c2_NOUGHT
 haveI := T.c2_ONE
 refine Pu.G3 h ?_
 rintro as Qp ⟨⟨kd, b, l⟩, ts, arc, rfl, hk, hb, sl, st, k⟩
 have eb := A2t hb.1 hb.2
 unfold hD
 trivial
 refine ⟨hk.lay, A3i, ?_⟩
 rcases hk with hk | hk | hk
 ·have hk' : kd = "from" := hk
  subst hk'
  rw [B2f, if_pos rfl]
  trivial
  rw [if_pos rfl] at k
  exact k
 ·have hk' : kd = "till" := hk
  subst hk'
  rw [B2e, if_neg (by decide)]
  refine ⟨Q9, Q9, ?_⟩
  rw [A8c, if_pos rfl]
  trivial
  refine ⟨0, l, rfl, smq0, sl, ?_⟩
  trivial
  rw [if_neg A7k, if_pos rfl] at k
  exact k
 ·have hk' : kd = "by" := hk
  subst hk'
  rw [B2h, if_neg (by decide)]
  refine ⟨A0v, Q9, ?_⟩
  rw [A8d, if_neg (by decide)]
  refine E8 eb ?_
  trivial
  refine ⟨_, l, rfl, st _ (Q2 hb.1 hb.2), sl, ?_⟩
  trivial
  rw [if_neg A7l, if_neg A95] at k
  exact k
def A5g : Pu.PSp := fun as Q => ∃ (t : OT) (ts : LQ) (ws : LW) (hs : LH) (W : Option Rat), as = [.bt t, .bor (ts.map dq), .d (vD W)] /\ NetB t ws hs /\ NOk ts ws hs /\ (∀ w, W = some w -> O4 w) /\ Q (.own ((L5 ts ws hs W).map wyD))
theorem A0k (T : Txt K mg D) : FnOk P w K mg base CX0 5 D.a_waysof D.d_waysof ["net", "times", "whole"] (Pu.spOf K [.bt, .vw, .dat] A5g) := by
 refine T.F_waysof.ok sc_waysof (Pu.spOf.len rfl) (fun cdv A outer s H vs Q E hr h => ?_)
 refine ⟨_, (QSs.out (A2 (B3 (i := 3) sc_waysof.nd rfl (Or.inr rfl) (B9 (C2 (K := K) rfl) (by rfl) T.z_len PySem.boot_len (A0 (qpv 1) A1)))
   (A2 (F7 (i := 4) rfl sc_waysof.nd rfl rfl (E7 (N' := ["root", "work"]) (cap := [some 3, none]) rfl rfl rfl rfl (by decide +kernel) rfl rfl) (E9 rfl T.z_range (A0 (qpv 3) A1)) (fun _ _ _ => (A9 (i := 1) (show (["root", "work"] : List Str).Nodup from by decide +kernel) rfl (Or.inl rfl) (Or.inr rfl))) (fun _ _ _ => G4) (fun _ _ _ => (C1 (A0 (qpv 0) (A0 (qpv 1) (A0 (S2 (v := .ref D.k_NOUGHT) rfl T.c_NOUGHT rfl) (A0 (C1 (A0 C6 (A0 (qpv 1) A1))) A1)))))) rfl)
   (A2 (D0 (B7 S3 (qpv 2) G7 (C4 _))
    (A7 (F0 PassesOwn.never rfl (P3 (K := K) rfl rfl T.z_enumerate (A0 (qpv 1) A1)) (C9 (K := K) (n := 2) rfl rfl (B2 (A9 (i := 5) sc_waysof.nd rfl (Or.inl rfl) (Or.inl rfl)) (B2 (A9 (i := 6) sc_waysof.nd rfl (Or.inl rfl) (Or.inl rfl)) C8)) rfl rfl)
     (A7 (D9 (F5 (K := K) rfl PySem.F.plainAttrs_list PySem.F.slot_list_append PySem.F.type_list_append D5 (qpv 4) (A0 (C1 (A0 (qpv 5) (A0 (qpv 3) (A0 (A6 (J5 (K := K) T) hr.mo rfl T.m_minus T.F_minus.kp (L9 T) .nil B5 (A0 (qpv 6) (A0 (qpv 2) A1))) (A0 (C1 (A0 C6 (A0 (qpv 5) A1))) A1))))) A1))))))
    C3)
   (A2 (F0 PassesOwn.never rfl (P3 (K := K) rfl rfl T.z_enumerate (A0 (qPth (A8 (A5 (K := K) rfl) (qpv 0) A3 (fun _ _ => rfl))) A1)) (C9 (K := K) (n := 2) rfl rfl (B2 (A9 (i := 7) sc_waysof.nd rfl (Or.inl rfl) (Or.inl rfl)) (B2 (C9 (K := K) (n := 3) rfl rfl (B2 (A9 (i := 8) sc_waysof.nd rfl (Or.inl rfl) (Or.inl rfl)) (B2 (A9 (i := 9) sc_waysof.nd rfl (Or.inl rfl) (Or.inl rfl)) (B2 (A9 (i := 10) sc_waysof.nd rfl (Or.inl rfl) (Or.inl rfl)) C8))) rfl rfl) C8)) rfl rfl)
    (A7 (D9 (F5 (K := K) rfl PySem.F.plainAttrs_list PySem.F.slot_list_append PySem.F.type_list_append D5 (qpv 4) (A0 (C1 (A0 (qpv 8) (A0 (qpv 9) (A0 (A6 (T5 (K := K) T) hr.mo rfl T.m_plus T.F_plus.kp (A1j T) .nil B5 (A0 (A8 (A5 (K := K) rfl) (qpv 1) (qpv 8) (fun _ _ => rfl)) (A0 (qpv 10) A1))) (A0 (C1 (A0 C6 (A0 (qpv 7) A1))) A1))))) A1)))))
   (A2 (F0 PassesOwn.never rfl (P3 (K := K) rfl rfl T.z_enumerate (A0 (qPth (A8 (A5 (K := K) rfl) (qpv 0) A3 (fun _ _ => rfl))) A1)) (C9 (K := K) (n := 2) rfl rfl (B2 (A9 (i := 7) sc_waysof.nd rfl (Or.inl rfl) (Or.inl rfl)) (B2 (A9 (i := 11) sc_waysof.nd rfl (Or.inl rfl) (Or.inl rfl)) C8)) rfl rfl)
    (A7 (D9 (F5 (K := K) rfl PySem.F.plainAttrs_list PySem.F.slot_list_append PySem.F.type_list_append D5 (qpv 4) (A0 (A6 (A4d (K := K) T) hr.mo rfl T.m_holdway T.F_holdway.kp (A80 T) .nil B5 (A0 (qpv 11) (A0 (qpv 1) (A0 (C1 (A0 C6 (A0 (qpv 7) A1))) A1)))) A1)))))
   (A7 (C0 (qpv 4))))))))), ?_⟩
 haveI := T.c2_NOUGHT
 haveI := T.c2_ONE
 refine Pu.G3 h ?_
 rintro as Qp ⟨t, ts, ws, hs, W, rfl, ⟨u1, u2, p1, s1, p2, s2⟩, ok, hW, k⟩
 have n1 := ok.n1
 have wl := ok.wl
 have hl := ok.hl
 refine hd fun R hR => ?_
 trivial
 subst hR
 refine hd fun R hR => ?_
 trivial
 refine ⟨by omega, by rw [G8]; omega, M6 (fun i e ys => ∃ o : Option SV, e = [some (.d (.int (ts.length : Int))), o] /\ ys = ((stW ts.length).take i).map wyD) ⟨_, rfl, rfl⟩ ?_ ?_⟩
 ·rintro i e ys hi ⟨o, rfl, rfl⟩
  have hi' : i < ts.length := by omega
  trivial
  refine ⟨_, rfl, ?_⟩
  unfold stW
  rw [List.take_add_one, List.getElem?_map, List.getElem?_range hi', List.map_append]
  rfl
 rintro e ys ⟨o, rfl, rfl⟩
 rw [show (stW ts.length).take (ts.length : Int).toNat = stW ts.length from List.take_of_length_le (by simp [stW])]
 trivial
 subst hR
 refine Q1 (fun e => ∃ o5 o6 : Option SV, e = [some (.bt t), some (.bor (ts.map dq)), some (.d (vD W)), some (.d (.int (ts.length : Int))), some (.own ((stW ts.length ++ enO ts W).map wyD)), o5, o6, none, none, none, none, none]) (fun R hR => ?_) ?_
 ·rcases W with _ | W
  ·trivial
   refine ite2 (fun z => absurd z (fun z => nomatch z)) (fun _ => ?_)
   refine hR _ ⟨_, _, by rw [show enO ts none = [] from rfl, List.append_nil]⟩
  ·have oW := hW W rfl
   rw [show vD (some W) = dq W from rfl]
   trivial
   refine S5 (f := dq) (xs := ts) (fun i e => ∃ o5 o6 : Option SV, e = [some (.bt t), some (.bor (ts.map dq)), some (.d (dq W)), some (.d (.int (ts.length : Int))), some (.own ((stW ts.length ++ (enO ts (some W)).take i).map wyD)), o5, o6, none, none, none, none, none]) ⟨_, _, by rw [List.take_zero, List.append_nil]⟩ ?_ ?_
   ·rintro i q e hi ⟨o5, o6, rfl⟩
    have oq := ok.t q (List.mem_of_getElem? hi)
    trivial
    refine ⟨q, W, rfl, oq.q, oW.q, ?_⟩
    trivial
    rw [A13 (show (enO ts (some W)).take (i + 1) = (enO ts (some W)).take i ++ [(i, ts.length, q - W, (("end" : Str), (i : Int)))] from W5 _ hi)]
    exact ⟨by have := A18 (ts := ts) (W := some W); rw [List.length_append, W8, List.length_take]; omega, _, _, rfl⟩
   ·rintro e ⟨o5, o6, rfl⟩
    rw [show (enO ts (some W)).take ts.length = enO ts (some W) from A2i _]
    exact hR _ ⟨_, _, rfl⟩
 rintro e ⟨o5, o6, rfl⟩
 have le := A18 (ts := ts) (W := W)
 refine hd fun R hR => ?_
 trivial
 refine ⟨u1, p1, _, s1, ?_⟩
 trivial
 refine S5 (f := wD) (xs := ws) (fun i e => ∃ o5 o6 o7 o8 o9 o10 : Option SV, e = [some (.bt t), some (.bor (ts.map dq)), some (.d (vD W)), some (.d (.int (ts.length : Int))), some (.own ((stW ts.length ++ enO ts W ++ (waW ts ws).take i).map wyD)), o5, o6, o7, o8, o9, o10, none]) ⟨_, _, _, _, _, _, by rw [List.take_zero, List.append_nil]⟩ ?_ ?_
 ·rintro i x e hi ⟨o5, o6, o7, o8, o9, o10, rfl⟩
  obtain ⟨ha, hb, hx⟩ := ok.w x (List.mem_of_getElem? hi)
  have hil : i < ws.length := (List.getElem?_eq_some_iff.mp hi).1
  have ez : (waW ts ws).take (i + 1) = (waW ts ws).take i ++ [(x.1.toNat, x.2.1.toNat, rat ts x.1 + x.2.2, (("wait" : Str), (i : Int)))] := W5 _ hi
  rw [A13 ez]
  obtain ⟨a, b, l⟩ := x
  obtain ⟨a, rfl⟩ := Int.eq_ofNat_of_zero_le ha.1
  obtain ⟨b, rfl⟩ := Int.eq_ofNat_of_zero_le hb.1
  unfold wD
  trivial
  refine E8 (A2t (o := (a : Int)) ha.1 ha.2) ?_
  trivial
  refine ⟨_, l, rfl, (ok.t _ (Q2 ha.1 ha.2)).q, hx.q, ?_⟩
  trivial
  exact ⟨by rw [List.length_append, List.length_append, W8, List.length_take]; omega, _, _, _, _, _, _, rfl⟩
 rintro e ⟨o5, o6, o7, o8, o9, o10, rfl⟩
 rw [show (waW ts ws).take ws.length = waW ts ws from A2i _]
 subst hR
 trivial
 refine ⟨u2, p2, _, s2, ?_⟩
 trivial
 refine S5 (f := hD) (xs := hs) (fun i e => ∃ o5 o6 o7 o8 o9 o10 o11 : Option SV, e = [some (.bt t), some (.bor (ts.map dq)), some (.d (vD W)), some (.d (.int (ts.length : Int))), some (.own ((stW ts.length ++ enO ts W ++ waW ts ws ++ (hoW ts hs).take i).map wyD)), o5, o6, o7, o8, o9, o10, o11]) ⟨_, _, _, _, _, _, _, by rw [List.take_zero, List.append_nil]⟩ ?_ ?_
 ·rintro i x e hi ⟨o5, o6, o7, o8, o9, o10, o11, rfl⟩
  obtain ⟨hk, hb, hx⟩ := ok.h x (List.mem_of_getElem? hi)
  have hil : i < hs.length := (List.getElem?_eq_some_iff.mp hi).1
  have ez : (hoW ts hs).take (i + 1) = (hoW ts hs).take i ++ [hoO ts x i] := W5 _ hi
  rw [A13 ez]
  trivial
  refine ⟨x, ts, _, rfl, hk, hb, hx.q, fun q hq => (ok.t q hq).q, ?_⟩
  trivial
  have ew : wyD (hoO ts x i) = PyData.tuple (if x.1 = "from" then [.int (ts.length : Int), .int x.2.1, dq x.2.2, .tuple [.str "hold", .int (i : Int)]] else if x.1 = "till" then [.int x.2.1, .int (ts.length : Int), dq (0 - x.2.2), .tuple [.str "hold", .int (i : Int)]] else [.int x.2.1, .int (ts.length : Int), dq (rat ts x.2.1 - x.2.2), .tuple [.str "hold", .int (i : Int)]]) := by
   obtain ⟨kd, b, l⟩ := x
   obtain ⟨b, rfl⟩ := Int.eq_ofNat_of_zero_le hb.1
   unfold hoO
   dsimp only
   split
   ·rfl
   ·split <;> rfl
  exact ⟨by rw [List.length_append, List.length_append, List.length_append, W8, A4r, List.length_take]; omega, _, _, _, _, _, _, _, by rw [ew]⟩
 rintro e ⟨o5, o6, o7, o8, o9, o10, o11, rfl⟩
 rw [show (hoW ts hs).take hs.length = hoW ts hs from A2i _]
 trivial
 exact k
def A35 : Pu.PMu := fun xs ys zs Q => ∃ (ways : List Wy) (f : List (Option Rat)) (c : List (Option Wy)) (m : Nat), xs = [.list (ways.map wyD)] /\ ys = f.map vD /\ zs = c.map cD /\ (∀ w ∈ ways, w.1 < f.length /\ w.2.1 < f.length /\ On (LL * 4) (1 * 2 ^ 60) w.2.2.1) /\ c.length = f.length /\ FB m f /\ m + ways.length <= 2 ^ 12 /\ Q (mD (strF ways (f, c, none)).2.2) ((strF ways (f, c, none)).1.map vD) ((strF ways (f, c, none)).2.1.map cD)
theorem A4c (T : Txt K mg D) : FnOk P w K mg base CX0 3 D.a_stretch D.d_stretch ["ways", "far", "came"] (Pu.spMu K 1 A35) := by
 refine T.F_stretch.ok sc_stretch (Pu.spMu.len rfl) (fun cdv A outer s H vs Q E hr h => ?_)
 refine ⟨_, (QSs.out (A2 (B3 (i := 3) sc_stretch.nd rfl (Or.inl rfl) G7)
   (A2 (F0 PassesOwn.never rfl (F2 (K := K) rfl (qpv 0)) (A9 (i := 4) sc_stretch.nd rfl (Or.inl rfl) (Or.inl rfl))
    (A2 (E6 (qpv 4) (C9 (K := K) (n := 4) rfl rfl (B2 (A9 (i := 5) sc_stretch.nd rfl (Or.inl rfl) (Or.inl rfl)) (B2 (A9 (i := 6) sc_stretch.nd rfl (Or.inl rfl) (Or.inl rfl)) (B2 (A9 (i := 7) sc_stretch.nd rfl (Or.inl rfl) (Or.inl rfl)) (B2 (A9 (i := 8) sc_stretch.nd rfl (Or.inl rfl) (Or.inl rfl)) C8)))) rfl rfl))
    (A7 (D0 (B7 S3 (A8 (A5 (K := K) rfl) (qMu (qpv 1)) (qpv 5) (fun _ _ => rfl)) G7 (C4 _))
     (A2 (B3 (i := 9) sc_stretch.nd rfl (Or.inl rfl) (A6 (T5 (K := K) T) hr.mo rfl T.m_plus T.F_plus.kp (A1j T) .nil B5 (A0 (A8 (A5 (K := K) rfl) (qMu (qpv 1)) (qpv 5) (fun _ _ => rfl)) (A0 (qpv 7) A1))))
     (A7 (D0 (QW.pt (M1 (B7 A1y (A8 (A5 (K := K) rfl) (qMu (qpv 1)) (qpv 6) (fun _ _ => rfl)) G7 (C4 _)) (M3 (F8 (A6 (A0o (K := K) T) hr.mo rfl T.m_isless T.F_isless.kp (A3w T) .nil B5 (A0 (A8 (A5 (K := K) rfl) (qMu (qpv 1)) (qpv 6) (fun _ _ => rfl)) (A0 (qpv 9) A1)))))))
      (A2 (E6 (qpv 9) (K0 (qMu (qpv 1)) (qpv 6) G0))
      (A2 (E6 (qpv 4) (K0 (qMu (qpv 2)) (qpv 6) G0))
      (A7 (B3 (i := 3) sc_stretch.nd rfl (Or.inl rfl) (qpv 6)))))
      C3)))
     C3))))
   (A7 (C0 (qpv 3)))))), ?_⟩
 haveI := T.c2_NOUGHT
 haveI := T.c2_ONE
 refine Pu.B45 h ?_
 rintro xs ys zs p q Qp hpq ⟨ways, f, c, m, rfl, rfl, rfl, hw, hl, fb, hm, k⟩
 trivial
 refine K2 (f := wyD) (xs := ways) (fun i e => ∃ o4 o5 o6 o7 o8 o9 : Option SV, e = [some (.d (.list (ways.map wyD))), some (.tr (.nd true p (B8 ((strF (ways.take i) (f, c, none)).1.map vD)))), some (.tr (.nd true q (B8 ((strF (ways.take i) (f, c, none)).2.1.map cD)))), some (.d (mD (strF (ways.take i) (f, c, none)).2.2)), o4, o5, o6, o7, o8, o9]) ⟨_, _, _, _, _, _, rfl⟩ ?_ ?_
 ·rintro i w e hi ⟨o4, o5, o6, o7, o8, o9, rfl⟩
  have hil : i < ways.length := (List.getElem?_eq_some_iff.mp hi).1
  obtain ⟨h1, h2, h3⟩ := hw w (List.mem_of_getElem? hi)
  have hb : FB (m + i) (strF (ways.take i) (f, c, none)).1 := by
   have := FB.strF (ways := ways.take i) (s := (f, c, none)) fb (fun x hx => (hw x (List.mem_of_mem_take hx)).2)
   rwa [List.length_take, Nat.min_eq_left (by omega)] at this
  have es := A42 (s := (f, c, none)) hi
  have hlf : (strF (ways.take i) (f, c, none)).1.length = f.length := strF_len.1
  have hlc : (strF (ways.take i) (f, c, none)).2.1.length = f.length := strF_len.2.trans hl
  generalize strF (ways.take i) (f, c, none) = s at *
  rw [es]
  obtain ⟨t, h, l, ar⟩ := w
  rw [show wyD (t, h, l, ar) = PyData.tuple [.int (t : Int), .int (h : Int), dq l, qD ar] from rfl]
  have h1' : t < s.1.length := by rw [hlf]; exact h1
  have h2' : h < s.1.length := by rw [hlf]; exact h2
  trivial
  refine E8 (B0j h1') ?_
  trivial
  refine ite2 (fun hn => ?_) (fun hn => ?_)
  ·cases ha : fa s.1 t with
   | none => rw [ha] at hn; cases hn
   | some a =>
    refine E8 (B0j h1') ?_
    rw [ha, show vD (some a) = dq a from rfl]
    trivial
    have oa := B5m (by decide) (hb _ _ ha) h3 (Nat.le_refl _)
    refine ⟨a, l, rfl, unQ (hb _ _ ha) (by decide) (by decide) (by omega), unQ h3 (by decide) (by decide) (by decide), ?_⟩
    trivial
    refine E8 (B0j h2') ?_
    trivial
    have er : rlx s (t, h, l, ar) = if upB (fa s.1 h) (a + l) then (s.1.set h (some (a + l)), s.2.1.set h (some (t, h, l, ar)), some h) else s := by
     show (match fa s.1 t with | none => s | some a => if upB (fa s.1 h) (a + l) then (s.1.set h (some (a + l)), s.2.1.set h (some (t, h, l, ar)), some h) else s) = _
     rw [ha]
    have ix1 : ixN s.1.length (h : Int) = some h := N5 (o := (h : Int)) (by omega) (by omega)
    have ix2 : ixN s.2.1.length (h : Int) = some h := N5 (o := (h : Int)) (by omega) (by omega)
    cases hh : fa s.1 h with
    | none =>
     rw [hh, show upB none (a + l) = true from rfl, if_pos rfl] at er
     rw [er]
     trivial
     refine ite2 (fun _ => ?_) (fun z => absurd rfl z)
     exact ⟨h, ix1, h, ix2, _, _, _, _, _, _, by rw [List.map_set, List.map_set]; rfl⟩
    | some b =>
     rw [hh, show upB (some b) (a + l) = decide (b < a + l) from rfl] at er
     trivial
     refine ite2 (fun z => absurd z (by show ¬ isNo (dq b) = true; exact fun z => nomatch z)) (fun _ => ?_)
     refine E8 (B0j h2') ?_
     rw [hh, show vD (some b) = dq b from rfl]
     trivial
     refine ⟨b, a + l, rfl, unQ (hb _ _ hh) (by decide) (by decide) (by omega), unQ oa (by decide) (by decide) (by omega), ?_⟩
     trivial
     refine ite2 (fun z => ?_) (fun z => ?_)
     ·rw [if_pos (decide_eq_true z)] at er
      rw [er]
      exact ⟨h, ix1, h, ix2, _, _, _, _, _, _, by rw [List.map_set, List.map_set]; rfl⟩
     ·rw [if_neg (fun y => z (of_decide_eq_true y))] at er
      rw [er]
      exact ⟨_, _, _, _, _, _, rfl⟩
  ·cases ha : fa s.1 t with
   | none =>
    have er : rlx s (t, h, l, ar) = s := by
     show (match fa s.1 t with | none => s | some a => if upB (fa s.1 h) (a + l) then (s.1.set h (some (a + l)), s.2.1.set h (some (t, h, l, ar)), some h) else s) = _
     rw [ha]
    rw [er]
    exact ⟨_, _, _, _, _, _, rfl⟩
   | some a => rw [ha] at hn; exact absurd rfl hn
 ·rintro e ⟨o4, o5, o6, o7, o8, o9, rfl⟩
  rw [List.take_length]
  trivial
  exact ⟨_, _, rfl, rfl, k⟩
def A1u : Pu.PSp := fun as Q => ∃ (ways : List Wy) (n : Nat), as = [.d (.list (ways.map wyD)), .d (.int (n : Int))] /\ n <= 10 /\ ways.length <= 100 /\ (∀ w ∈ ways, w.1 <= n /\ w.2.1 <= n /\ On (LL * 4) (1 * 2 ^ 60) w.2.2.1) /\ (∃ P, Pot ways n P) /\ ∀ k, kst ways n = some k -> Q (.d (.tuple [.list (((bsK ways n k).1.take n).map vD), .none]))
theorem T6 (T : Txt K mg D) : FnOk P w K mg base CX0 4 D.a_farthest D.d_farthest ["ways", "many"] (Pu.spOf K [.dat, .dat] A1u) := by
 refine T.F_farthest.ok sc_farthest (Pu.spOf.len rfl) (fun cdv A outer s H vs Q E hr h => ?_)
 refine ⟨_, (QSs.out (A2 (B3 (i := 2) sc_farthest.nd rfl (Or.inl rfl) (C5 (Q4 (K := K) rfl) (L6 rfl (E7 (N' := ["work"]) (cap := [none]) rfl rfl rfl rfl (by decide +kernel) rfl rfl) (E9 rfl T.z_range (A0 (qpv 1) A1)) (fun _ _ _ => (A9 (i := 0) (show (["work"] : List Str).Nodup from by decide +kernel) rfl (Or.inl rfl) (Or.inr rfl))) (fun _ _ _ => G4) (fun _ _ _ => G7)) (D3 (A0 (S2 (v := .ref D.k_NOUGHT) rfl T.c_NOUGHT rfl) A1))))
   (A2 (F7 (i := 3) rfl sc_farthest.nd rfl rfl (E7 (N' := ["place"]) (cap := [none]) rfl rfl rfl rfl (by decide +kernel) rfl rfl) (F2 (K := K) rfl (qKp (qpv 2))) (fun _ _ _ => (A9 (i := 0) (show (["place"] : List Str).Nodup from by decide +kernel) rfl (Or.inl rfl) (Or.inr rfl))) (fun _ _ _ => G4) (fun _ _ _ => G7) rfl)
   (A2 (B3 (i := 4) sc_farthest.nd rfl (Or.inl rfl) G7)
   (A2 (F0 PassesOwn.never rfl (E9 rfl T.z_range (A0 (C5 G5 (qpv 1) A3) A1)) (A9 (i := 5) sc_farthest.nd rfl (Or.inl rfl) (Or.inl rfl))
    (A2 (B3 (i := 4) sc_farthest.nd rfl (Or.inl rfl) (A6 (A4c (K := K) T) hr.mo rfl T.m_stretch T.F_stretch.kp (A8z T) .nil B5 (A0 (qpv 0) (A0 (qpv 2) (A0 (qpv 3) A1)))))
    (A7 (D0 (B7 A1y (qpv 4) G7 (C4 _))
     (A7 (C0 (C1 (A0 (N1 (R9 (K := K) rfl) (qpv 2) P2 (P1 (qpv 1))) (A0 G7 A1)))))
     C3))))
   (A7 A5c)))))), ?_⟩
 haveI := T.c2_NOUGHT
 haveI := T.c2_ONE
 refine Pu.G3 h ?_
 rintro as Qp ⟨ways, n, rfl, hn, hl, hw, ⟨P, hP⟩, k⟩
 refine hd fun R hR => ?_
 trivial
 refine ⟨by omega, by rw [G8]; omega, M6 (fun i e ys => ∃ o : Option SV, e = [o] /\ ys = (List.replicate i (none : Option Rat)).map vD) ⟨_, rfl, rfl⟩ ?_ ?_⟩
 ·rintro i e ys hi ⟨o, rfl, rfl⟩
  trivial
  exact ⟨_, rfl, by rw [<- List.map_cons, <- List.replicate_succ, List.replicate_succ', List.map_append]; rfl⟩
 rintro e ys ⟨o, rfl, rfl⟩
 have e0 : List.map vD (List.replicate (n : Int).toNat none) ++ [dq 0] = (bs0 n).1.map vD := by
  unfold bs0
  dsimp only
  rw [List.map_append, Int.toNat_natCast]; rfl
 trivial
 refine ⟨by rw [List.length_replicate]; omega, ?_⟩
 rw [e0]
 subst hR
 refine hd fun R hR => ?_
 trivial
 refine ⟨by rw [show (bs0 n).1.length = n + 1 from (J3 (ways := ways) (n := n) 0).1]; omega, K3 (f := vD) (xs := (bs0 n).1) (fun i e ys => ∃ o : Option SV, e = [o] /\ ys = (List.replicate i (none : Option Wy)).map cD) ⟨_, rfl, rfl⟩ ?_ ?_⟩
 ·rintro i x e ys hi ⟨o, rfl, rfl⟩
  trivial
  exact ⟨_, rfl, by rw [<- List.map_cons, <- List.replicate_succ, List.replicate_succ', List.map_append]; rfl⟩
 rintro e ys ⟨o, rfl, rfl⟩
 rw [show (List.replicate (bs0 n).1.length (none : Option Wy)).map cD = (bs0 n).2.1.map cD by rw [show (bs0 n).1.length = n + 1 from (J3 (ways := ways) (n := n) 0).1]; rfl]
 trivial
 subst hR
 refine hd fun R hR => ?_
 trivial
 subst hR
 trivial
 refine ⟨by omega, N6 (fun i e => ∃ o4 o5 : Option SV, e = [some (.d (.list (ways.map wyD))), some (.d (.int (n : Int))), some (.own ((bsK ways n i).1.map vD)), some (.own ((bsK ways n i).2.1.map cD)), o4, o5] /\ ∀ j, j < i -> (bsK ways n (j + 1)).2.2 ≠ none) ⟨_, _, rfl, fun j hj => absurd hj (Nat.not_lt_zero _)⟩ ?_ ?_⟩
 ·rintro i e hi ⟨o4, o5, rfl, hj⟩
  have hi' : i < n + 1 := by omega
  trivial
  refine ⟨by decide, ways, (bsK ways n i).1, (bsK ways n i).2.1, i * ways.length, rfl, rfl, rfl, fun w h => ?_, by rw [(J3 i).1, (J3 i).2], A8v hw i, ?_, ?_⟩
  ·rw [(J3 i).1]; have := hw w h; exact ⟨by omega, by omega, this.2.2⟩
  ·have := Nat.mul_le_mul (show i <= 10 by omega) hl; omega
  rw [show strF ways ((bsK ways n i).1, (bsK ways n i).2.1, none) = bsK ways n (i + 1) from rfl]
  trivial
  refine ite2 (fun z => ?_) (fun z => ?_)
  ·have hm : (bsK ways n (i + 1)).2.2 = none := by
    cases hq : (bsK ways n (i + 1)).2.2 with
    | none => rfl
    | some v => rw [hq] at z; cases z
   rw [(B2m (fun w h => ⟨(hw w h).1, (hw w h).2.1⟩) hm).2, B2j (f := vD) (by rw [(J3 i).1]; omega)]
   refine k i ?_
   unfold kst
   rw [List.find?_range_eq_some]
   refine ⟨by rw [hm]; rfl, List.mem_range.mpr hi', fun j h => ?_⟩
   cases hq : (bsK ways n (j + 1)).2.2 with
   | none => exact absurd hq (hj j h)
   | some v => rfl
  ·refine ⟨_, _, rfl, fun j hj' => ?_⟩
   by_cases h : j < i
   ·exact hj j h
   ·rw [show j = i by omega]
    intro hq
    rw [hq] at z
    exact z rfl
 ·rintro e ⟨o4, o5, rfl, hj⟩
  exact absurd (A8t (fun w h => ⟨(hw w h).1, (hw w h).2.1⟩) hP) (hj n (by omega))
def A1v : Pu.PSp := fun as Q => ∃ (t : OT) (ts : LQ) (ws : LW) (hs : LH), as = [.bt t, .bor (ts.map dq)] /\ NetB t ws hs /\ NOk ts ws hs /\ (∃ P, Pot (L5 ts ws hs none) ts.length P) /\ Q (.d (.tuple [.str "starts", .list ((earS ts ws hs).map dq)]))
theorem A10 (T : Txt K mg D) : FnOk P w K mg base CX0 6 D.a_earliest D.d_earliest ["net", "times"] (Pu.spOf K [.bt, .vw] A1v) := by
 refine T.F_earliest.ok sc_earliest (Pu.spOf.len rfl) (fun cdv A outer s H vs Q E hr h => ?_)
 refine ⟨_, (QSs.out (A2 (E6 (A6 (T6 (K := K) T) hr.mo rfl T.m_farthest T.F_farthest.kp (W1 T) .nil B5 (A0 (A6 (A0k (K := K) T) hr.mo rfl T.m_waysof T.F_waysof.kp (A3u T) .nil B5 (A0 (qpv 0) (A0 (qpv 1) (A0 G7 A1)))) (A0 (B9 (C2 (K := K) rfl) (by rfl) T.z_len PySem.boot_len (A0 (qpv 1) A1)) A1))) (C9 (K := K) (n := 2) rfl rfl (B2 (A9 (i := 2) sc_earliest.nd rfl (Or.inl rfl) (Or.inl rfl)) (B2 (A9 (i := 3) sc_earliest.nd rfl (Or.inl rfl) (Or.inl rfl)) C8)) rfl rfl))
   (A2 (D0 (B7 S3 (qpv 3) G7 (C4 _))
    (A7 (C0 (C1 (A0 C6 (A0 (qpv 3) A1)))))
    C3)
   (A7 (C0 (C1 (A0 C6 (A0 (qpv 2) A1)))))))), ?_⟩
 haveI := T.c2_NOUGHT
 haveI := T.c2_ONE
 refine Pu.G3 h ?_
 rintro as Qp ⟨t, ts, ws, hs, rfl, hb, ok, ⟨P, hP⟩, k⟩
 have hw := A2j ok (W := none) (fun _ e => nomatch e)
 have hl := M9 (W := none) ok
 refine hd fun R hR => ?_
 trivial
 refine ⟨t, ts, ws, hs, none, rfl, hb, ok, (fun _ e => nomatch e), ?_⟩
 trivial
 refine ⟨_, ts.length, rfl, ok.n1, hl, hw, ⟨P, hP⟩, fun j hj => ?_⟩
 have fo := Y7 hw hP hl ok.n1
 rw [<- A17 hj, A4y (by rw [fo.ln]; omega) (fun v hv => B46 fo hv)]
 trivial
 subst hR
 trivial
 exact k
def A5j : Pu.PSp := fun as Q => ∃ (t : OT) (ts : LQ) (ws : LW) (hs : LH) (W : Rat), as = [.bt t, .bor (ts.map dq), .d (dq W)] /\ NetB t ws hs /\ NOk ts ws hs /\ O4 W /\ (∃ P, Pot (L5 ts ws hs (some W)) ts.length P) /\ Q (.d (.tuple [.str "starts", .list ((latS ts ws hs W).map dq)]))
theorem A0n (T : Txt K mg D) : FnOk P w K mg base CX0 7 D.a_latest D.d_latest ["net", "times", "whole"] (Pu.spOf K [.bt, .vw, .dat] A5j) := by
 refine T.F_latest.ok sc_latest (Pu.spOf.len rfl) (fun cdv A outer s H vs Q E hr h => ?_)
 refine ⟨_, (QSs.out (A2 (E6 (A6 (A10 (K := K) T) hr.mo rfl T.m_earliest T.F_earliest.kp (A4m T) .nil B5 (A0 (qpv 0) (A0 (qpv 1) A1))) (C9 (K := K) (n := 2) rfl rfl (B2 (A9 (i := 3) sc_latest.nd rfl (Or.inl rfl) (Or.inl rfl)) (B2 (A9 (i := 4) sc_latest.nd rfl (Or.inl rfl) (Or.inl rfl)) C8)) rfl rfl))
   (A2 (D0 (B7 (D4 (K := K) rfl hr.units) (qpv 3) C6 (C4 _))
    (A7 (C0 (C1 (A0 C6 (A0 (qpv 4) A1)))))
    C3)
   (A2 (F7 (i := 5) rfl sc_latest.nd rfl rfl (E7 (N' := ["tail", "head", "length", "arc"]) (cap := [none, none, none, none]) rfl rfl rfl rfl (by decide +kernel) rfl rfl) (F2 (K := K) rfl (A6 (A0k (K := K) T) hr.mo rfl T.m_waysof T.F_waysof.kp (A3u T) .nil B5 (A0 (qpv 0) (A0 (qpv 1) (A0 (qpv 2) A1))))) (fun _ _ _ => (C9 (K := K) (n := 4) rfl rfl (B2 (A9 (i := 0) (show (["tail", "head", "length", "arc"] : List Str).Nodup from by decide +kernel) rfl (Or.inl rfl) (Or.inr rfl)) (B2 (A9 (i := 1) (show (["tail", "head", "length", "arc"] : List Str).Nodup from by decide +kernel) rfl (Or.inl rfl) (Or.inr rfl)) (B2 (A9 (i := 2) (show (["tail", "head", "length", "arc"] : List Str).Nodup from by decide +kernel) rfl (Or.inl rfl) (Or.inr rfl)) (B2 (A9 (i := 3) (show (["tail", "head", "length", "arc"] : List Str).Nodup from by decide +kernel) rfl (Or.inl rfl) (Or.inr rfl)) C8)))) rfl rfl)) (fun _ _ _ => G4) (fun _ _ _ => (C1 (A0 (qpv 1) (A0 (qpv 0) (A0 (qpv 2) (A0 (qpv 3) A1)))))) rfl)
   (A2 (E6 (A6 (T6 (K := K) T) hr.mo rfl T.m_farthest T.F_farthest.kp (W1 T) .nil B5 (A0 (qpv 5) (A0 (B9 (C2 (K := K) rfl) (by rfl) T.z_len PySem.boot_len (A0 (qpv 1) A1)) A1))) (C9 (K := K) (n := 2) rfl rfl (B2 (A9 (i := 6) sc_latest.nd rfl (Or.inl rfl) (Or.inl rfl)) (B2 (A9 (i := 7) sc_latest.nd rfl (Or.inl rfl) (Or.inl rfl)) C8)) rfl rfl))
   (A2 (D0 (B7 S3 (qpv 7) G7 (C4 _))
    (A7 (C0 (C1 (A0 C6 (A0 (qpv 7) A1)))))
    C3)
   (A7 (C0 (C1 (A0 C6 (A0 (L6 rfl (E7 (N' := ["lead"]) (cap := [none]) rfl rfl rfl rfl (by decide +kernel) rfl rfl) (F2 (K := K) rfl (qpv 6)) (fun _ _ _ => (A9 (i := 0) (show (["lead"] : List Str).Nodup from by decide +kernel) rfl (Or.inl rfl) (Or.inr rfl))) (fun _ _ _ => G4) (fun _ _ _ => (A6 (J5 (K := K) T) hr.mo rfl T.m_minus T.F_minus.kp (L9 T) .nil B5 (A0 (S2 (v := .ref D.k_NOUGHT) rfl T.c_NOUGHT rfl) (A0 (qpv 0) A1))))) A1))))))))))), ?_⟩
 haveI := T.c2_NOUGHT
 haveI := T.c2_ONE
 refine Pu.G3 h ?_
 rintro as Qp ⟨t, ts, ws, hs, W, rfl, hb, ok, oW, ⟨P, hP⟩, k⟩
 have hw := A8y ok oW
 have hl : (bkL ts ws hs W).length <= 100 := by unfold bkL; rw [List.length_map]; exact M9 ok
 have hP' := X5 hP
 have fo := Y7 hw hP' hl ok.n1
 refine hd fun R hR => ?_
 trivial
 refine ⟨t, ts, ws, hs, rfl, hb, ok, ⟨P, B3f hP A4q⟩, ?_⟩
 trivial
 subst hR
 refine hd fun R hR => ?_
 trivial
 refine ⟨by decide +kernel, by decide +kernel, ?_⟩
 refine ite2 (fun h => absurd h (by decide +kernel)) (fun _ => ?_)
 subst hR
 refine hd fun R hR => ?_
 trivial
 refine ⟨t, ts, ws, hs, some W, rfl, hb, ok, (fun _ e => by cases e; exact oW), ?_⟩
 trivial
 refine ⟨by have := M9 (W := some W) ok; omega, K3 (f := wyD) (xs := L5 ts ws hs (some W)) (fun i e ys => ∃ o1 o2 o3 o4 : Option SV, e = [o1, o2, o3, o4] /\ ys = ((bkL ts ws hs W).take i).map wyD) ⟨_, _, _, _, rfl, rfl⟩ ?_ ?_⟩
 ·rintro i x e ys hi ⟨o1, o2, o3, o4, rfl, rfl⟩
  rw [show wyD x = PyData.tuple [.int (x.1 : Int), .int (x.2.1 : Int), dq x.2.2.1, qD x.2.2.2] from rfl]
  trivial
  refine ⟨_, _, _, _, rfl, ?_⟩
  unfold bkL
  rw [List.take_add_one, List.getElem?_map, hi, List.map_append]
  rfl
 rintro e ys ⟨o1, o2, o3, o4, rfl, rfl⟩
 rw [show (bkL ts ws hs W).take (L5 ts ws hs (some W)).length = bkL ts ws hs W from List.take_of_length_le (by unfold bkL; rw [List.length_map]; exact Nat.le_refl _)]
 trivial
 subst hR
 refine hd fun R hR => ?_
 trivial
 refine ⟨_, ts.length, rfl, ok.n1, hl, hw, ⟨_, hP'⟩, fun j hj => ?_⟩
 rw [<- A17 hj, A4y (by rw [fo.ln]; omega) (fun v hv => A2b fo hv)]
 trivial
 subst hR
 trivial
 have hx : ∀ (i : Nat) a, (((farS (bkL ts ws hs W) ts.length).take ts.length).map fun x => x.getD 0)[i]? = some a -> SmQ 3900 a := fun i a h => by
  rw [List.getElem?_map] at h
  obtain ⟨x, hx, rfl⟩ := Option.map_eq_some_iff.mp h
  have hi := (List.getElem?_eq_some_iff.mp hx).1
  rw [List.length_take] at hi
  rw [List.getElem?_take] at hx
  split at hx
  ·rename_i hi'
   obtain ⟨b, hb⟩ := A2b fo hi'
   have := fo.fb i b hb
   unfold fa at hb
   rw [hx] at hb
   rw [show x = some b from hb]
   exact unQ this (by decide) (by decide) (by decide)
  ·cases hx
 refine ⟨by rw [List.length_take]; have := ok.n1; omega, K3 (f := dq) (xs := ((farS (bkL ts ws hs W) ts.length).take ts.length).map fun x => x.getD 0) (fun i e ys => ∃ o1 : Option SV, e = [o1] /\ ys = ((latS ts ws hs W).take i).map dq) ⟨_, rfl, rfl⟩ ?_ ?_⟩
 ·rintro i x e ys hi ⟨o1, rfl, rfl⟩
  trivial
  refine ⟨0, x, rfl, smq0, hx i x hi, ?_⟩
  trivial
  refine ⟨_, rfl, ?_⟩
  rw [List.getElem?_map] at hi
  obtain ⟨y, hy, rfl⟩ := Option.map_eq_some_iff.mp hi
  rw [List.take_add_one, List.map_append]
  unfold latS
  rw [List.getElem?_map, hy]
  rfl
 rintro e ys ⟨o1, rfl, rfl⟩
 rw [show (latS ts ws hs W).take (((farS (bkL ts ws hs W) ts.length).take ts.length).map fun x => x.getD 0).length = latS ts ws hs W from List.take_of_length_le (by unfold latS; rw [List.length_map, List.length_map]; exact Nat.le_refl _)]
 trivial
 exact k
def A0c : Pu.PSp := fun as Q => ∃ (t : OT) (ws : LW) (hs : LH) (ps : LR) (W : Rat) (n B a : Nat), as = [.bt t, .bor (ps.map dcn), .d (dq W), .d (.int (n : Int))] /\ NetB t ws hs /\ PSz B a ws hs ps /\ On B (2 ^ a) W /\ n < ps.length /\ Q (.d (dq (alo ws hs ps W n)))
theorem A0m (T : Txt K mg D) : FnOk P w K mg base CX0 5 D.a_slipalone D.d_slipalone ["net", "plan", "whole", "work"] (Pu.spOf K [.bt, .vw, .dat, .dat] A0c) := by
 refine T.F_slipalone.ok sc_slipalone (Pu.spOf.len rfl) (fun cdv A outer s H vs Q E hr h => ?_)
 refine ⟨_, (QSs.out (A2 (B3 (i := 4) sc_slipalone.nd rfl (Or.inl rfl) (A6 (J5 (K := K) T) hr.mo rfl T.m_minus T.F_minus.kp (L9 T) .nil B5 (A0 (qpv 2) (A0 (A6 (X9 (K := K) T) hr.mo rfl T.m_endof T.F_endof.kp (A2f T) .nil B5 (A0 (A8 (A5 (K := K) rfl) (qpv 1) (qpv 3) (fun _ _ => rfl)) A1)) A1))))
   (A2 (F0 PassesOwn.never rfl (F2 (K := K) rfl (qPth (A8 (A5 (K := K) rfl) (qpv 0) A3 (fun _ _ => rfl)))) (A9 (i := 5) sc_slipalone.nd rfl (Or.inl rfl) (Or.inl rfl))
    (A7 (D0 (B7 (D4 (K := K) rfl hr.units) (A8 (A5 (K := K) rfl) (qpv 5) A3 (fun _ _ => rfl)) (qpv 3) (C4 _))
     (A7 (B3 (i := 4) sc_slipalone.nd rfl (Or.inl rfl) (A6 (V5 (K := K) T) hr.mo rfl T.m_smaller T.F_smaller.kp (A1h T) .nil B5 (A0 (qpv 4) (A0 (A6 (A0l (K := K) T) hr.mo rfl T.m_waitslack T.F_waitslack.kp (A2c T) .nil B5 (A0 (qpv 5) (A0 (qpv 1) A1))) A1)))))
     C3)))
   (A2 (F0 PassesOwn.never rfl (F2 (K := K) rfl (qPth (A8 (A5 (K := K) rfl) (qpv 0) A3 (fun _ _ => rfl)))) (A9 (i := 6) sc_slipalone.nd rfl (Or.inl rfl) (Or.inl rfl))
    (A7 (D0 (QW.pt (O1 (B7 (D4 (K := K) rfl hr.units) (A8 (A5 (K := K) rfl) (qpv 6) A3 (fun _ _ => rfl)) (qpv 3) (C4 _)) (O9 (B7 (K1 (K := K) rfl hr.units) (A8 (A5 (K := K) rfl) (qpv 6) A3 (fun _ _ => rfl)) C6 (C4 _)))))
     (A7 (B3 (i := 4) sc_slipalone.nd rfl (Or.inl rfl) (A6 (V5 (K := K) T) hr.mo rfl T.m_smaller T.F_smaller.kp (A1h T) .nil B5 (A0 (qpv 4) (A0 (A6 (A0p (K := K) T) hr.mo rfl T.m_holdslack T.F_holdslack.kp (A2e T) .nil B5 (A0 (qpv 6) (A0 (qpv 1) A1))) A1)))))
     C3)))
   (A7 (C0 (qpv 4))))))), ?_⟩
 haveI := T.c2_NOUGHT
 haveI := T.c2_ONE
 refine Pu.G3 h ?_
 rintro as Qp ⟨t, ws, hs, ps, W, n, B, a, rfl, ⟨u1, u2, p1, s1, p2, s2⟩, ok, oW, hn, k⟩
 have n0 : (0 : Int) <= (n : Int) := by omega
 have n1 : (n : Int) < (ps.length : Int) := by omega
 have sn := ok.st n0 n1
 have o0 : On B (2 ^ (a + 3)) (W - enD (sat ps (n : Int))) := ((oW.p2 (b := a + 1) (by omega)).sub2 ok.b0 sn.2.2 (show a + 1 + 1 <= a + 2 by omega)).p2 (by omega)
 refine hd fun R hR => ?_
 trivial
 refine E8 (T1 n0 n1) ?_
 trivial
 refine ⟨_, rfl, ok.pl n0 n1, ?_⟩
 trivial
 refine ⟨W, _, rfl, ok.sm oW (by omega), ok.sm sn.2.2 (by omega), ?_⟩
 trivial
 subst hR
 refine hd fun R hR => ?_
 trivial
 refine ⟨u1, p1, _, s1, ?_⟩
 trivial
 refine K2 (f := wD) (xs := ws) (fun i e => ∃ o5 : Option SV, e = [some (.bt t), some (.bor (ps.map dcn)), some (.d (dq W)), some (.d (.int (n : Int))), some (.d (dq (lm (((ws.take i).filter fun w => decide (w.1 = (n : Int))).map (wSl ps)) (W - enD (sat ps (n : Int)))))), o5, none]) ⟨_, rfl⟩ ?_ ?_
 ·rintro i x e hi ⟨o5, rfl⟩
  have hx := List.mem_of_getElem? hi
  have om : On B (2 ^ (a + 3)) (lm (((ws.take i).filter fun w => decide (w.1 = (n : Int))).map (wSl ps)) (W - enD (sat ps (n : Int)))) := A98 (fun v hv => by
   obtain ⟨y, hy, rfl⟩ := List.mem_map.mp hv
   exact (ok.wS (List.mem_of_mem_take (List.mem_filter.mp hy).1)).1) o0
  have ex : wD x = PyData.tuple [.int x.1, .int x.2.1, dq x.2.2] := rfl
  obtain ⟨ha, hb, hl⟩ := ok.w x hx
  trivial
  rw [ex]
  trivial
  refine ite2 (fun z => ?_) (fun z => ?_)
  ·refine ⟨x, ps, rfl, ha, hb, ok.pl ha.1 ha.2, ok.pl hb.1 hb.2, ok.sm hl (by omega), ok.sm (ok.wS hx).2 (by omega), ?_⟩
   trivial
   refine ⟨_, _, rfl, ok.sm om (by omega), ok.sm (ok.wS hx).1 (by omega), ?_⟩
   trivial
   exact ⟨_, by rw [P9 hi, if_pos (show decide (x.1 = (n : Int)) = true from decide_eq_true z)]⟩
  ·exact ⟨_, by rw [P9 hi, if_neg (show ¬ decide (x.1 = (n : Int)) = true from fun y => z (of_decide_eq_true y))]⟩
 rintro e ⟨o5, rfl⟩
 rw [List.take_length]
 rw [show lm ((ws.filter fun w => decide (w.1 = (n : Int))).map (wSl ps)) (W - enD (sat ps (n : Int))) = aloW ws ps W n from rfl]
 have o1 : On B (2 ^ (a + 3)) (aloW ws ps W n) := A98 (fun v hv => by
   obtain ⟨y, hy, rfl⟩ := List.mem_map.mp hv
   exact (ok.wS (List.mem_filter.mp hy).1).1) o0
 subst hR
 trivial
 refine ⟨u2, p2, _, s2, ?_⟩
 trivial
 refine K2 (f := hD) (xs := hs) (fun i e => ∃ o5 o6 : Option SV, e = [some (.bt t), some (.bor (ps.map dcn)), some (.d (dq W)), some (.d (.int (n : Int))), some (.d (dq (lm (((hs.take i).filter (hTB n)).map (hSl ps)) (aloW ws ps W n)))), o5, o6]) ⟨_, _, rfl⟩ ?_ ?_
 ·rintro i x e hi ⟨o5, o6, rfl⟩
  have hx := List.mem_of_getElem? hi
  have om : On B (2 ^ (a + 3)) (lm (((hs.take i).filter (hTB n)).map (hSl ps)) (aloW ws ps W n)) := A98 (fun v hv => by
   obtain ⟨y, hy, rfl⟩ := List.mem_map.mp hv
   exact ok.hS (List.mem_of_mem_take (List.mem_filter.mp hy).1)) o1
  have ex : hD x = PyData.tuple [.str x.1, .int x.2.1, dq x.2.2] := rfl
  obtain ⟨hk, hb, hl⟩ := ok.h x hx
  trivial
  rw [ex]
  trivial
  refine ite2 (fun z => ?_) (fun z => ?_)
  ·refine ⟨hk.lay, A3i, ?_⟩
   rw [A3n]
   trivial
   refine ite2 (fun y => ?_) (fun y => ?_)
   ·exact ⟨_, _, by rw [P9 hi, if_neg (show ¬ hTB n x = true by unfold hTB; rw [decide_eq_true y]; simp)]⟩
   ·refine ⟨x, ps, rfl, hk, hb, ok.pl hb.1 hb.2, ok.sm hl (by omega), ?_⟩
    trivial
    refine ⟨_, _, rfl, ok.sm om (by omega), ok.sm (ok.hS hx) (by omega), ?_⟩
    trivial
    exact ⟨_, _, by rw [P9 hi, if_pos (show hTB n x = true by unfold hTB; rw [decide_eq_true z, decide_eq_false y]; rfl)]⟩
  ·exact ⟨_, _, by rw [P9 hi, if_neg (show ¬ hTB n x = true by unfold hTB; rw [decide_eq_false z]; simp)]⟩
 rintro e ⟨o5, o6, rfl⟩
 rw [List.take_length]
 trivial
 exact k
def A37 : Pu.PSp := fun as Q => ∃ (t : OT) (ws : LW) (hs : LH) (ps : LR) (W : Rat) (B a : Nat), as = [.bt t, .bor (ps.map dcn), .d (dq W)] /\ NetB t ws hs /\ PSz B a ws hs ps /\ On B (2 ^ a) W /\ NOk (ps.map (·.2)) ws hs /\ O4 W /\ (∃ P, Pot (L5 (ps.map (·.2)) ws hs (some W)) ps.length P) /\ Q (.own ((slL ws hs ps W).map dcn))
theorem V6 (T : Txt K mg D) : FnOk P w K mg base CX0 8 D.a_slipsof D.d_slipsof ["net", "plan", "whole"] (Pu.spOf K [.bt, .vw, .dat] A37) := by
 refine T.F_slipsof.ok sc_slipsof (Pu.spOf.len rfl) (fun cdv A outer s H vs Q E hr h => ?_)
 refine ⟨_, (QSs.out (A2 (B3 (i := 3) sc_slipsof.nd rfl (Or.inl rfl) (A8 (A5 (K := K) rfl) (A6 (A0n (K := K) T) hr.mo rfl T.m_latest T.F_latest.kp (A3v T) .nil B5 (A0 (qpv 0) (A0 (L6 rfl (E7 (N' := ["start", "time"]) (cap := [none, none]) rfl rfl rfl rfl (by decide +kernel) rfl rfl) (F2 (K := K) rfl (qpv 1)) (fun _ _ _ => (C9 (K := K) (n := 2) rfl rfl (B2 (A9 (i := 0) (show (["start", "time"] : List Str).Nodup from by decide +kernel) rfl (Or.inl rfl) (Or.inr rfl)) (B2 (A9 (i := 1) (show (["start", "time"] : List Str).Nodup from by decide +kernel) rfl (Or.inl rfl) (Or.inr rfl)) C8)) rfl rfl)) (fun _ _ _ => G4) (fun _ _ _ => (qpv 1))) (A0 (qpv 2) A1)))) A3 (fun _ _ => rfl)))
   (A2 (B3 (i := 4) sc_slipsof.nd rfl (Or.inl rfl) (D3 A1))
   (A2 (F0 PassesOwn.never rfl (P3 (K := K) rfl rfl T.z_enumerate (A0 (qpv 1) A1)) (C9 (K := K) (n := 2) rfl rfl (B2 (A9 (i := 5) sc_slipsof.nd rfl (Or.inl rfl) (Or.inl rfl)) (B2 (A9 (i := 6) sc_slipsof.nd rfl (Or.inl rfl) (Or.inl rfl)) C8)) rfl rfl)
    (A7 (D9 (F5 (K := K) rfl PySem.F.plainAttrs_list PySem.F.slot_list_append PySem.F.type_list_append D5 (qpv 4) (A0 (C1 (A0 (A6 (A0m (K := K) T) hr.mo rfl T.m_slipalone T.F_slipalone.kp (A2d T) .nil B5 (A0 (qpv 0) (A0 (qpv 1) (A0 (qpv 2) (A0 (qpv 5) A1))))) (A0 (A6 (J5 (K := K) T) hr.mo rfl T.m_minus T.F_minus.kp (L9 T) .nil B5 (A0 (A8 (A5 (K := K) rfl) (qpv 3) (qpv 5) (fun _ _ => rfl)) (A0 (A8 (A5 (K := K) rfl) (qpv 6) A3 (fun _ _ => rfl)) A1))) A1))) A1)))))
   (A7 (C0 (qpv 4))))))), ?_⟩
 haveI := T.c2_NOUGHT
 haveI := T.c2_ONE
 refine Pu.G3 h ?_
 rintro as Qp ⟨t, ws, hs, ps, W, B, a, rfl, hb, ok, oW, nk, oW4, ⟨P, hP⟩, k⟩
 have hP1 : Pot (L5 (ps.map (·.2)) ws hs (some W)) (ps.map (·.2)).length P := by rw [List.length_map]; exact hP
 have fo := Y7 (A8y nk oW4) (X5 hP1) (by unfold bkL; rw [List.length_map]; exact M9 nk) nk.n1
 refine hd fun R hR => ?_
 trivial
 refine ⟨by have := ok.ln; omega, K3 (f := dcn) (xs := ps) (fun i e ys => ∃ o1 o2 : Option SV, e = [o1, o2] /\ ys = ((ps.map (·.2)).take i).map dq) ⟨_, _, rfl, rfl⟩ ?_ ?_⟩
 ·rintro i x e ys hi ⟨o1, o2, rfl, rfl⟩
  trivial
  refine ⟨_, _, rfl, ?_⟩
  rw [List.take_add_one, List.getElem?_map, hi, List.map_append]
  rfl
 rintro e ys ⟨o1, o2, rfl, rfl⟩
 rw [show (ps.map (·.2)).take ps.length = ps.map (·.2) from List.take_of_length_le (by rw [List.length_map]; exact Nat.le_refl _)]
 trivial
 refine ⟨t, ps.map (·.2), ws, hs, W, rfl, hb, nk, oW4, ⟨P, hP1⟩, ?_⟩
 trivial
 subst hR
 refine hd fun R hR => ?_
 trivial
 subst hR
 trivial
 refine S5 (f := dcn) (xs := ps) (fun i e => ∃ o5 o6 : Option SV, e = [some (.bt t), some (.bor (ps.map dcn)), some (.d (dq W)), some (.d (.list ((latS (ps.map (·.2)) ws hs W).map dq))), some (.own (((slL ws hs ps W).take i).map dcn)), o5, o6]) ⟨_, _, rfl⟩ ?_ ?_
 ·rintro i x e hi ⟨o5, o6, rfl⟩
  have hil : i < ps.length := (List.getElem?_eq_some_iff.mp hi).1
  have hr0 : (0 : Int) <= (i : Int) := by omega
  have hr1 : (i : Int) < ((latS (ps.map (·.2)) ws hs W).length : Int) := by rw [Y6 fo, List.length_map]; omega
  trivial
  refine ⟨t, ws, hs, ps, W, i, B, a, rfl, hb, ok, oW, hil, ?_⟩
  trivial
  refine E8 (A2t hr0 hr1) ?_
  trivial
  refine ⟨_, x.1, rfl, onB (A15 fo _ (Q2 hr0 hr1)) (by decide) (Nat.le_trans (by decide +kernel : LL * 4 <= 2 ^ 100) (Nat.pow_le_pow_right (by decide) (by decide))) (by decide), ok.sm (ok.p x (List.mem_of_getElem? hi)).1 (by omega), ?_⟩
  trivial
  have ez : (slL ws hs ps W).take (i + 1) = (slL ws hs ps W).take i ++ [(alo ws hs ps W i, rat (latS (ps.map (·.2)) ws hs W) (i : Int) - x.1)] := W5 _ hi
  rw [ez, List.map_append]
  exact ⟨by rw [List.length_take]; have := ok.ln; omega, _, _, rfl⟩
 rintro e ⟨o5, o6, rfl⟩
 rw [show (slL ws hs ps W).take ps.length = slL ws hs ps W from A2i _]
 trivial
 exact k
theorem A4e (T : Txt K mg D) : FnOk P w K mg base CX0 1 D.a_Lbegun D.d_Lbegun ["_law_script", "_law_k"] (B01 K) := by
 refine T.F_Lbegun.ok sc_Lbegun (fun vs H Q E h => ?_) (fun cdv A outer s H vs Q E hr h => ?_)
 ·obtain ⟨a, ns, k, rfl, _⟩ := h; rfl
 ·obtain ⟨a, ns, k, rfl, ha, k0, k1, kk⟩ := h
  refine ⟨_, (J4 (V2 (i := 2) sc_Lbegun.nd rfl (Or.inl rfl) F6)
   (J4 (B3d (A5f (K1 (K := K) rfl hr.units) (pv 0) (A5y V3) (C4 _))
    (Q3 (V2 (i := 2) sc_Lbegun.nd rfl (Or.inl rfl) (X6 (B0d (K := K) rfl) (pv 0) (K8 O0 (pv 1) (A21 call_len_seq (by rfl) T.z_len PySem.boot_len (O3 (pv 0) V3))) (fun _ _ => rfl))))
    A1t)
   (Q3 (A2y (A5y (O3 (pv 2) (O3 (K8 O0 (K8 G5 (K8 G5 (K8 O0 (pv 2) F6) (K8 F1 (K8 F1 F6 (pv 1)) (pv 1))) F6) F6) (O3 (X7 B82 (pv 2) (K8 A6v F6 F6) (C4 _)) V3)))))))), ?_⟩
  have fin : ∀ (c : Int) (H : Hp), (∀ p H', H p = none -> StAt H' p -> Kp p H H' -> Q (.ref p) H') -> ∃ v, ([some (V.ref a), some (V.int k), some (V.int c)] : St)[2]? = some (some v) /\
    (K6 (tOp (rI (fun _ j => 0 < j) fun i j => .int (i % j)) (tOp (rI0 fun i j => .int (i + j)) (tOp (rI0 fun i j => .int (i + j)) (tOp (rI (fun _ j => 0 < j) fun i j => .int (i % j)) (tVar 2) (tC (.int 2147483587)))
     (tOp (rI B5j fun i j => .int (i * j)) (tOp (rI B5j fun i j => .int (i * j)) (tC (.int 104729)) (tVar 1)) (tVar 1))) (tC (.int 7))) (tC (.int 2147483587)))
     (K6 (tOp (rI0 fun i j => .bl (decide (j <= i))) (tVar 2) (tOp (rI CPow fun i j => .int (i ^ j.toNat)) (tC (.int 10)) (tC (.int 18)))) tNil)) [some (V.ref a), some (V.int k), some (V.int c)] H
     fun xs H1 => (v :: xs).length <= sizeLine /\ ∀ p, H1 p = none -> Q (.ref p) (upd H1 p (.lst (v :: xs))) := by
   intro c H kk
   refine ⟨_, rfl, _, rfl, _, _, rfl, rfl, (by show (0 : Int) < 2147483587; decide), _, rfl, _, _, rfl, rfl, ⟨U9 0, sm32 k0 (by omega)⟩, _, rfl, _, _, rfl, rfl, ⟨(Sm.mul (k := 20) (l := 20) (by unfold Sm; decide) (by unfold Sm; omega)).mono (by decide), sm32 k0 (by omega)⟩,
    _, _, rfl, rfl, _, _, rfl, rfl, _, _, rfl, rfl, (by show (0 : Int) < 2147483587; decide), _, rfl, _, _, rfl, rfl, A8k 18, _, _, rfl, rfl, by show 3 <= sizeLine; decide, fun p hp => ?_⟩
   have e1 := Int.emod_nonneg (c % 2147483587 + 104729 * k * k + 7) (show (2147483587 : Int) ≠ 0 by decide)
   have e2 := Int.emod_lt_of_pos (c % 2147483587 + 104729 * k * k + 7) (show (0 : Int) < 2147483587 by decide)
   exact kk p _ hp ⟨_, _, _, D6, e1, by omega⟩ (Same.upd hp).kp
  refine ⟨_, rfl, Nat.zero_le _, fun p hp => ?_⟩
  have sm := Same.upd (H := H) (o := .lst []) hp
  have ha' : SqL K (upd H p (.lst [])) a (ns.map V.int) := Pu.A88 sm ha
  have kk' : ∀ q H', (upd H p (.lst [])) q = none -> StAt H' q -> Kp q (upd H p (.lst [])) H' -> Q (.ref q) H' := fun q H' hq hs kp => kk q H' (by
   by_cases z : q = p
   ·rw [z]; exact hp
   ·rw [D8 z] at hq; exact hq) hs (fun b o nb e => kp b o nb (sm b o e))
  refine ⟨.list (ns.map .int), .list [], .lst ha' (A3q ns), .lst (.inl (.inl D6)) .nil, S4 ns, rfl, A00 ns, _, rfl, ?_⟩
  rw [A3o]
  cases ns with
  | nil => exact fin 0 _ kk'
  | cons c r =>
   obtain ⟨m, hm, hml⟩ : ∃ m : Nat, k % (((c :: r).map V.int).length : Int) = (m : Int) /\ m < ((c :: r).map V.int).length := by
    have h0 : (0 : Int) < (((c :: r).map V.int).length : Int) := by first | (simp; done) | (simp; omega)
    have h1 := Int.emod_nonneg k (Int.ne_of_gt h0)
    have h2 := Int.emod_lt_of_pos k h0
    exact ⟨(k % (((c :: r).map V.int).length : Int)).toNat, by omega, by omega⟩
   obtain ⟨z, hz⟩ : ∃ z, ((c :: r).map V.int)[m]? = some (V.int z) := by
    have : m < (c :: r).length := by simpa using hml
    exact ⟨(c :: r)[m], by rw [List.getElem?_map, List.getElem?_eq_getElem this]; rfl⟩
   refine ⟨_, rfl, _, rfl, _, rfl, a, _, rfl, .inl ha', k, _, rfl, rfl, (by first | (simp; done) | (simp; omega)), a, _, _, _, rfl, rfl, ha', by rw [hm]; exact L4 hz, ?_⟩
   exact fin z _ kk'
theorem L0 (T : Txt K mg D) : FnOk P w K mg base CX0 1 D.a_Lbegun D.d_Lbegun ["_law_script", "_law_k"] (Pu.spOf K [.vw, .dat] B1b) := FnOk.imp (A4e T) B8f
theorem A6w (T : Txt K mg D) : FnOk P w K mg base CX0 1 D.a_Ltake D.d_Ltake ["_law_state", "_law_many"] A43 := by
 refine T.F_Ltake.ok sc_Ltake (fun vs H Q E h => ?_) (fun cdv A outer s H vs Q E hr h => ?_)
 ·obtain ⟨p, n, rfl, _⟩ := h; rfl
 ·obtain ⟨p, n, rfl, S0, n0, sn, k⟩ := h
  refine ⟨_, (J4 (B3d (B09 (X6 ix_list (pv 0) F6 (fun _ _ => rfl)))
    (J4 (V2 (i := 2) sc_Ltake.nd rfl (Or.inl rfl) (K8 O0 (X6 ix_list (pv 0) F6 (fun _ _ => rfl)) (pv 1)))
    (J4 (A2z (K8 L7 (X6 ix_list (pv 0) F6 (fun _ _ => rfl)) (pv 1)) (A20 (pv 0) F6 G0))
    (J4 (A2z (X7 T4 (X6 ix_list (pv 0) F6 (fun _ _ => rfl)) F6 (C4 _)) (A20 (pv 0) F6 G0))
    (Q3 (A2y (pv 2))))))
    A1t)
   (J4 (V2 (i := 3) sc_Ltake.nd rfl (Or.inl rfl) F6)
   (J4 (B1a PassesOwn.never rfl (A0h rfl T.z_range (O3 (K8 G5 F6 (K8 F1 F6 (A0i A1a (by rfl) T.z_int (by rfl) (O3 (X7 T4 (pv 1) (K8 A6v F6 F6) (C4 _)) V3)))) V3)) (A5x (i := 4) sc_Ltake.nd rfl (Or.inl rfl) (Or.inl rfl))
    (J4 (A2z (K8 O0 (K8 G5 (K8 F1 (X6 ix_list (pv 0) F6 (fun _ _ => rfl)) F6) F6) F6) (A20 (pv 0) F6 G0))
    (Q3 (V2 (i := 3) sc_Ltake.nd rfl (Or.inl rfl) (K8 G5 (K8 F1 (pv 3) F6) (K8 O0 (K8 F1 (X6 ix_list (pv 0) F6 (fun _ _ => rfl)) (X6 ix_list (pv 0) F6 (fun _ _ => rfl))) F6))))))
   (Q3 (A2y (K8 O0 (K8 L7 (pv 3) F6) (pv 1))))))), ?_⟩
  obtain ⟨c, m, f, hp, m0, m1⟩ := S0.ex
  refine ⟨_, rfl, p, _, _, _, rfl, rfl, SqL.of hp, at2, f, rfl, ?_⟩
  have s8 : Sm 8000 n := sn.mono (by decide)
  cases f with
  | true =>
   refine iteT ?_
   refine ⟨_, rfl, p, _, _, _, rfl, rfl, SqL.of hp, at0, _, rfl, _, _, rfl, rfl, n0, ?_⟩
   refine ⟨_, rfl, p, _, _, _, rfl, rfl, SqL.of hp, at0, _, rfl, _, _, rfl, rfl, ⟨by omega, s8⟩, _, rfl, p, _, _, 0, rfl, rfl, hp, rfl, ?_⟩
   refine ⟨_, rfl, p, _, _, _, rfl, rfl, SqL.of D6, at0, _, _, rfl, rfl, _, rfl, p, _, _, 2, rfl, rfl, D6, rfl, ?_⟩
   refine ⟨_, rfl, ?_⟩
   exact k _ _ (Int.emod_nonneg c (by omega)) (Int.emod_lt_of_pos c n0) ⟨_, _, _, D6, m0, m1⟩ (Kp.upd.trans Kp.upd)
  | false =>
   refine iteF ?_
   refine ⟨_, rfl, _, _, rfl, rfl, A8k 6, _, _, rfl, rfl, .inr ⟨_, rfl, _, _, rfl, rfl, ⟨U9 0, B5t _⟩, _, _, rfl, rfl, _, rfl, ?_, ?_, A8a (lo := 0)
    (fun i σ H' => ∃ (m' md : Int) (x : Option V), σ = [some (V.ref p), some (V.int n), none, some (V.int md), x] /\ H' p = some (.lst [.int c, .int m', .bl false]) /\ 0 <= m' /\ m' < 2147483648 /\ Kp p H H' /\ Sm (40 * i + 1) md)
    ⟨m, 0, none, rfl, hp, m0, m1, Kp.refl, by unfold Sm; decide⟩ ?_ ?_⟩⟩
   ·split <;> omega
   ·split <;> omega
   ·rintro i σ H' hi ⟨m', md, x, rfl, hp', h0, h1, kk, sd⟩
    have hi9 : i < 9 := by
     refine Nat.lt_of_lt_of_le hi ?_
     split <;> decide
    refine ⟨_, rfl, p, _, _, _, rfl, rfl, SqL.of hp', at1, _, _, rfl, rfl, ⟨sm32 h0 h1, U9 0⟩, _, _, rfl, rfl, _, _, rfl, rfl, (by show (0 : Int) < 2147483647; decide), _, rfl, p, _, _, 1, rfl, rfl, hp', rfl, ?_⟩
    have e1 := Int.emod_nonneg (m' * 39373 + 17) (show (2147483647 : Int) ≠ 0 by decide)
    have e2 := Int.emod_lt_of_pos (m' * 39373 + 17) (show (0 : Int) < 2147483647 by decide)
    have sm := sm32 e1 (by omega)
    refine ⟨_, rfl, _, _, rfl, rfl, ⟨sd.mono (by omega), U9 0⟩, _, rfl, p, _, _, _, rfl, rfl, SqL.of D6, at1, _, rfl, p, _, _, _, rfl, rfl, SqL.of D6, at1, _, _, rfl, rfl, ⟨sm, sm⟩, _, _, rfl, rfl, (by show (0 : Int) < 2147483587; decide), _, _, rfl, rfl, ?_⟩
    have g1 := Int.emod_nonneg ((m' * 39373 + 17) % 2147483647 * ((m' * 39373 + 17) % 2147483647)) (show (2147483587 : Int) ≠ 0 by decide)
    have g2 := Int.emod_lt_of_pos ((m' * 39373 + 17) % 2147483647 * ((m' * 39373 + 17) % 2147483647)) (show (0 : Int) < 2147483587 by decide)
    refine ⟨_, _, _, rfl, D6, e1, by omega, kk.trans Kp.upd, ?_⟩
    refine Sm.mono (k := 40 * i + 1 + 32 + 1) (Sm.add (sd.mul (l := 32) (by unfold Sm; decide)) ?_) (by omega)
    exact Sm.mono (k := 32) (by unfold Sm; omega) (by omega)
   ·rintro σ H' ⟨m', md, x, rfl, hp', h0, h1, kk, sd⟩
    refine ⟨_, rfl, _, _, rfl, rfl, ⟨by decide, U9 0⟩, _, rfl, _, _, rfl, rfl, n0, ?_⟩
    exact k _ _ (Int.emod_nonneg _ (by omega)) (Int.emod_lt_of_pos _ n0) ⟨_, _, _, hp', h0, h1⟩ kk
theorem C7 (T : Txt K mg D) : FnOk P w K mg base CX0 1 D.a_Ltake D.d_Ltake ["_law_state", "_law_many"] (Pu.spOf K [.st, .dat] Pu.A5h) := FnOk.imp (A6w T) Pu.B2r
theorem O6 (T : Txt K mg D) : FnOk P w K mg base CX0 1 D.a_Llow D.d_Llow ["_law_top", "_law_bottom"] (Pu.spOf K [.dat, .dat] B3c) := by
 refine T.F_Llow.ok sc_Llow (Pu.spOf.len rfl) (fun cdv A outer s H vs Q E hr h => ?_)
 refine ⟨_, (QSs.out (A2 (B3 (i := 2) sc_Llow.nd rfl (Or.inl rfl) (qpv 0))
   (A2 (B3 (i := 3) sc_Llow.nd rfl (Or.inl rfl) (qpv 1))
   (A2 (T2 PassesOwn.never (B7 (K1 (K := K) rfl hr.units) (qpv 3) A3 (C4 _))
    (A7 (X1 (i := 2) (j := 3) rfl sc_Llow.nd rfl rfl (by decide) rfl rfl (A0 (qpv 3) (A0 (C5 O0 (qpv 2) (qpv 3)) A1)) rfl)))
   (A7 (C0 (C1 (A0 (C5 L7 (qpv 0) (qpv 2)) (A0 (C5 L7 (qpv 1) (qpv 2)) A1))))))))), ?_⟩
 haveI := T.c2_NOUGHT
 haveI := T.c2_ONE
 refine Pu.G3 h ?_
 rintro as Qp ⟨t, b, rfl, hb, st, sb, k⟩
 trivial
 refine ⟨fun m e => ∃ x y : Int, e = [some (.d (.int t)), some (.d (.int b)), some (.d (.int x)), some (.d (.int y))] /\ 0 <= y /\ (y = 0 -> 0 < x) /\ m = y.toNat /\ Int.gcd x y = Int.gcd t b, ⟨_, _, _, rfl, by omega, fun e => by omega, rfl, rfl⟩, ?_⟩
 rintro m e ⟨x, y, rfl, hy, hx, rfl, hg⟩
 trivial
 refine ite2 (fun e => ?_) (fun hn => ?_)
 ·subst e
  have hx0 := hx rfl
  have e1 : x = sh t b := by
   have := A3k x (by omega)
   rw [hg] at this
   unfold sh; rw [if_neg (by omega)]; exact this.symm
  subst e1
  have hb0 : b ≠ 0 := by omega
  refine ⟨⟨B5w hb0, B5s sb hb0⟩, ⟨B5w hb0, B5s sb hb0⟩, ?_⟩
  rw [A7o hb0, B4p hb0]; exact k
 ·have h1 := Int.emod_lt_of_pos x (show 0 < y by omega)
  have h2 := Int.emod_nonneg x hn
  exact ⟨by omega, (x % y).toNat, by omega, y, x % y, rfl, h2, fun _ => by omega, rfl, by rw [A79, hg]⟩
theorem F3 (T : Txt K mg D) : FnOk P w K mg base CX0 2 D.a_Lplus D.d_Lplus ["_law_one", "_law_other"] (Pu.spOf K [.dat, .dat] (A0e (·+·))) := by
 refine T.F_Lplus.ok sc_Lplus (Pu.spOf.len rfl) (fun cdv A outer s H vs Q E hr h => ?_)
 refine ⟨_, (QSs.out (A7 (C0 (A6 (O6 (K := K) T) hr.mo rfl T.m_Llow T.F_Llow.kp (U4 T) .nil B5 (A0 (C5 G5 (C5 F1 (A8 (A5 (K := K) rfl) (qpv 0) A3 (fun _ _ => rfl)) (A8 (A5 (K := K) rfl) (qpv 1) A3 (fun _ _ => rfl))) (C5 F1 (A8 (A5 (K := K) rfl) (qpv 1) A3 (fun _ _ => rfl)) (A8 (A5 (K := K) rfl) (qpv 0) A3 (fun _ _ => rfl)))) (A0 (C5 F1 (A8 (A5 (K := K) rfl) (qpv 0) A3 (fun _ _ => rfl)) (A8 (A5 (K := K) rfl) (qpv 1) A3 (fun _ _ => rfl))) A1)))))), ?_⟩
 haveI := T.c2_NOUGHT
 haveI := T.c2_ONE
 refine Pu.G3 h ?_
 rintro as Qp ⟨p, q, rfl, sp, sq, k⟩
 trivial
 have p1 := sp.1.mono (l := 8000) (by decide)
 have p2 := sp.2.mono (l := 8000) (by decide)
 have q1 := sq.1.mono (l := 8000) (by decide)
 have q2 := sq.2.mono (l := 8000) (by decide)
 refine ⟨⟨p1, q2⟩, ⟨q1, p2⟩, ⟨p2, q2⟩, _, _, rfl, Int.mul_pos (denp p) (denp q), ((sp.1.mul sq.2).add (sq.1.mul sp.2)).mono (by decide), (sp.2.mul sq.2).mono (by decide), ?_⟩
 rw [B6b]; exact k
theorem F9 (T : Txt K mg D) : FnOk P w K mg base CX0 2 D.a_Lminus D.d_Lminus ["_law_one", "_law_other"] (Pu.spOf K [.dat, .dat] (A0e (·-·))) := by
 refine T.F_Lminus.ok sc_Lminus (Pu.spOf.len rfl) (fun cdv A outer s H vs Q E hr h => ?_)
 refine ⟨_, (QSs.out (A7 (C0 (A6 (O6 (K := K) T) hr.mo rfl T.m_Llow T.F_Llow.kp (U4 T) .nil B5 (A0 (C5 T3 (C5 F1 (A8 (A5 (K := K) rfl) (qpv 0) A3 (fun _ _ => rfl)) (A8 (A5 (K := K) rfl) (qpv 1) A3 (fun _ _ => rfl))) (C5 F1 (A8 (A5 (K := K) rfl) (qpv 1) A3 (fun _ _ => rfl)) (A8 (A5 (K := K) rfl) (qpv 0) A3 (fun _ _ => rfl)))) (A0 (C5 F1 (A8 (A5 (K := K) rfl) (qpv 0) A3 (fun _ _ => rfl)) (A8 (A5 (K := K) rfl) (qpv 1) A3 (fun _ _ => rfl))) A1)))))), ?_⟩
 haveI := T.c2_NOUGHT
 haveI := T.c2_ONE
 refine Pu.G3 h ?_
 rintro as Qp ⟨p, q, rfl, sp, sq, k⟩
 trivial
 have p1 := sp.1.mono (l := 8000) (by decide)
 have p2 := sp.2.mono (l := 8000) (by decide)
 have q1 := sq.1.mono (l := 8000) (by decide)
 have q2 := sq.2.mono (l := 8000) (by decide)
 refine ⟨⟨p1, q2⟩, ⟨q1, p2⟩, ⟨p2, q2⟩, _, _, rfl, Int.mul_pos (denp p) (denp q), ((sp.1.mul sq.2).sub (sq.1.mul sp.2)).mono (by decide), (sp.2.mul sq.2).mono (by decide), ?_⟩
 rw [B58]; exact k
theorem P8 (T : Txt K mg D) : FnOk P w K mg base CX0 2 D.a_Ltimes D.d_Ltimes ["_law_one", "_law_other"] (Pu.spOf K [.dat, .dat] (A0e (·*·))) := by
 refine T.F_Ltimes.ok sc_Ltimes (Pu.spOf.len rfl) (fun cdv A outer s H vs Q E hr h => ?_)
 refine ⟨_, (QSs.out (A7 (C0 (A6 (O6 (K := K) T) hr.mo rfl T.m_Llow T.F_Llow.kp (U4 T) .nil B5 (A0 (C5 F1 (A8 (A5 (K := K) rfl) (qpv 0) A3 (fun _ _ => rfl)) (A8 (A5 (K := K) rfl) (qpv 1) A3 (fun _ _ => rfl))) (A0 (C5 F1 (A8 (A5 (K := K) rfl) (qpv 0) A3 (fun _ _ => rfl)) (A8 (A5 (K := K) rfl) (qpv 1) A3 (fun _ _ => rfl))) A1)))))), ?_⟩
 haveI := T.c2_NOUGHT
 haveI := T.c2_ONE
 refine Pu.G3 h ?_
 rintro as Qp ⟨p, q, rfl, sp, sq, k⟩
 trivial
 have p1 := sp.1.mono (l := 8000) (by decide)
 have p2 := sp.2.mono (l := 8000) (by decide)
 have q1 := sq.1.mono (l := 8000) (by decide)
 have q2 := sq.2.mono (l := 8000) (by decide)
 refine ⟨⟨p1, q1⟩, ⟨p2, q2⟩, _, _, rfl, Int.mul_pos (denp p) (denp q), (sp.1.mul sq.1).mono (by decide), (sp.2.mul sq.2).mono (by decide), ?_⟩
 rw [B59]; exact k
theorem P7 (T : Txt K mg D) : FnOk P w K mg base CX0 1 D.a_Lunder D.d_Lunder ["_law_one", "_law_other"] (Pu.spOf K [.dat, .dat] A5i) := by
 refine T.F_Lunder.ok sc_Lunder (Pu.spOf.len rfl) (fun cdv A outer s H vs Q E hr h => ?_)
 refine ⟨_, (QSs.out (A7 (C0 (J0 A4b (C5 F1 (A8 (A5 (K := K) rfl) (qpv 0) A3 (fun _ _ => rfl)) (A8 (A5 (K := K) rfl) (qpv 1) A3 (fun _ _ => rfl))) (C5 F1 (A8 (A5 (K := K) rfl) (qpv 1) A3 (fun _ _ => rfl)) (A8 (A5 (K := K) rfl) (qpv 0) A3 (fun _ _ => rfl))) (C4 _))))), ?_⟩
 haveI := T.c2_NOUGHT
 haveI := T.c2_ONE
 refine Pu.G3 h ?_
 rintro as Qp ⟨p, q, rfl, sp, sq, k⟩
 trivial
 have p1 := sp.1.mono (l := 8000) (by decide)
 have p2 := sp.2.mono (l := 8000) (by decide)
 have q1 := sq.1.mono (l := 8000) (by decide)
 have q2 := sq.2.mono (l := 8000) (by decide)
 refine ⟨⟨p1, q2⟩, ⟨q1, p2⟩, ?_⟩
 rw [A3h]; exact k
theorem G9 (T : Txt K mg D) : FnOk P w K mg base CX0 2 D.a_Lamount D.d_Lamount ["_law_state", "_law_plain", "_law_least_here"] (Pu.spOf K [.st, .dat, .dat] A5l) := by
 refine T.F_Lamount.ok sc_Lamount (Pu.spOf.len rfl) (fun cdv A outer s H vs Q E hr h => ?_)
 refine ⟨_, (QSs.out (A2 (B3 (i := 3) sc_Lamount.nd rfl (Or.inl rfl) (A6 (C7 (K := K) T) hr.mo rfl T.m_Ltake T.F_Ltake.kp (D1 T) .nil B5 (A0 (qpv 0) (A0 A3 A1))))
   (A2 (D0 (F8 (qpv 1))
    (A7 (C0 (C1 (A0 (C5 G5 (qpv 2) (A6 (C7 (K := K) T) hr.mo rfl T.m_Ltake T.F_Ltake.kp (D1 T) .nil B5 (A0 (qpv 0) (A0 (A8 (A5 (K := K) rfl) (D3 (A0 A3 (A0 A3 (A0 A3 (A0 A3 (A0 A3 (A0 A3 A1))))))) (qpv 3) (fun _ _ => rfl)) A1)))) (A0 A3 A1)))))
    C3)
   (A2 (B3 (i := 4) sc_Lamount.nd rfl (Or.inl rfl) (C5 G5 A3 (A6 (C7 (K := K) T) hr.mo rfl T.m_Ltake T.F_Ltake.kp (D1 T) .nil B5 (A0 (qpv 0) (A0 (A8 (A5 (K := K) rfl) (D3 (A0 A3 (A0 A3 (A0 A3 (A0 A3 (A0 A3 (A0 A3 A1))))))) (qpv 3) (fun _ _ => rfl)) A1)))))
   (A7 (C0 (A6 (O6 (K := K) T) hr.mo rfl T.m_Llow T.F_Llow.kp (U4 T) .nil B5 (A0 (C5 G5 (qpv 2) (A6 (C7 (K := K) T) hr.mo rfl T.m_Ltake T.F_Ltake.kp (D1 T) .nil B5 (A0 (qpv 0) (A0 (A8 (A5 (K := K) rfl) (D3 (A0 A3 (A0 A3 (A0 A3 (A0 A3 (A0 (C5 A6v A3 A3) (A0 A3 A1))))))) (qpv 3) (fun _ _ => rfl)) A1)))) (A0 (qpv 4) A1))))))))), ?_⟩
 haveI := T.c2_NOUGHT
 haveI := T.c2_ONE
 refine Pu.G3 h ?_
 rintro as Qp ⟨pl, le, rfl, hle, k⟩
 trivial
 refine ⟨6, rfl, by decide, sm4 6, fun d d0 d6 => ?_⟩
 trivial
 refine ite2 (fun hp => ?_) (fun hp => ?_)
 ·obtain ⟨z, hz, e⟩ := A96 (xs := [2, 3, 3, 4, 5, 6]) d0 d6
  have hb : 2 <= z /\ z <= 6 := by simp at hz; omega
  refine E8 e ?_
  trivial
  refine ⟨z, rfl, by omega, A45 (by omega) (by omega), fun d2 g0 g1 => ?_⟩
  trivial
  rw [B77]
  have s3 : Sm 3 (le + d2) := J9 (B := 7) (by omega) (by omega) (by decide)
  exact k _ (B7y (by omega)) (fun h1 => B7x (by omega)) ((A1p s3).mono (by decide) (by decide)) fun _ => ⟨A1p s3, B2z (A1p s3)⟩
 ·obtain ⟨x, hx, ex⟩ := A96 (xs := [1, 1, 2, 4, 12, 60]) d0 d6
  have hbx : 1 <= x /\ x <= 60 := by simp at hx; omega
  obtain ⟨z, hz, ez⟩ := A96 (xs := [3, 9, 12, 30, 1000000000000, 90]) d0 d6
  have hbz : 3 <= z /\ z <= 1000000000000 := by simp at hz; omega
  refine E8 ex ?_
  trivial
  refine ⟨x, rfl, by omega, A45 (by omega) (by omega), fun d1 f0 f1 => ?_⟩
  trivial
  refine ⟨A8k 12, E8 ez ?_⟩
  trivial
  refine ⟨z, rfl, by omega, A45 (by omega) (by omega), fun d2 g0 g1 => ?_⟩
  trivial
  have st : Sm 41 (le + d2) := J9 (B := 1000000000000) (by omega) (by omega) (by decide)
  have sb : Sm 6 (1 + d1) := J9 (B := 60) (by omega) (by omega) (by decide)
  refine ⟨_, _, rfl, by omega, st.mono (by decide), sb.mono (by decide), ?_⟩
  exact k _ (P4 (by omega) (by omega)) (fun h1 => B8u (by omega) (by omega)) (SmR.low st sb (by omega)) fun h => absurd h hp
def A5q : Pu.PSp := fun as Q => ∃ (kd : Str) (mo : Int), as = [.st, .d (.str kd), .d (.int mo), .d (.bool false)] /\ 0 < mo /\ mo <= 5 /\ Kd kd /\ ∀ cs, OfG kd cs 100 54 244 130 -> OnC cs -> (kd = "straight" -> OnP cs) -> cs.length <= mo.toNat -> Q (.d (offD kd cs))
theorem A6z (T : Txt K mg D) : FnOk P w K mg base CX0 3 D.a_Loffer D.d_Loffer ["_law_state", "_law_kind", "_law_most", "_law_plain"] (Pu.spOf K [.st, .dat, .dat, .dat] A5q) := by
 refine T.F_Loffer.ok sc_Loffer (Pu.spOf.len rfl) (fun cdv A outer s H vs Q E hr h => ?_)
 refine ⟨_, (QSs.out (A2 (B3 (i := 4) sc_Loffer.nd rfl (Or.inl rfl) (C5 G5 A3 (A6 (C7 (K := K) T) hr.mo rfl T.m_Ltake T.F_Ltake.kp (D1 T) .nil B5 (A0 (qpv 0) (A0 (qpv 2) A1)))))
   (A2 (B3 (i := 5) sc_Loffer.nd rfl (Or.inl rfl) (A6 (G9 (K := K) T) hr.mo rfl T.m_Lamount T.F_Lamount.kp (J8 T) .nil B5 (A0 (qpv 0) (A0 (qpv 3) (A0 A3 A1)))))
   (A2 (B3 (i := 6) sc_Loffer.nd rfl (Or.inl rfl) (A6 (G9 (K := K) T) hr.mo rfl T.m_Lamount T.F_Lamount.kp (J8 T) .nil B5 (A0 (qpv 0) (A0 (qpv 3) (A0 A3 A1)))))
   (A2 (F7 (i := 7) rfl sc_Loffer.nd rfl rfl (E7 (N' := ["_law_state", "_law_plain", "_law_k"]) (cap := [some 0, some 3, none]) rfl rfl rfl rfl (by decide +kernel) rfl rfl) (E9 rfl T.z_range (A0 (C5 T3 (qpv 4) A3) A1)) (fun _ _ _ => (A9 (i := 2) (show (["_law_state", "_law_plain", "_law_k"] : List Str).Nodup from by decide +kernel) rfl (Or.inl rfl) (Or.inr rfl))) (fun _ _ _ => G4) (fun _ _ _ => (A6 (G9 (K := K) T) hr.mo rfl T.m_Lamount T.F_Lamount.kp (J8 T) .nil B5 (A0 (qpv 0) (A0 (qpv 1) (A0 A3 A1))))) rfl)
   (A2 (F0 PassesOwn.never rfl (F2 (K := K) rfl (qpv 7)) (A9 (i := 8) sc_Loffer.nd rfl (Or.inl rfl) (Or.inl rfl))
    (A7 (B3 (i := 5) sc_Loffer.nd rfl (Or.inl rfl) (A6 (F3 (K := K) T) hr.mo rfl T.m_Lplus T.F_Lplus.kp (G2 T) .nil B5 (A0 (qpv 5) (A0 (qpv 8) A1))))))
   (A2 (B3 (i := 9) sc_Loffer.nd rfl (Or.inl rfl) (D3 (A0 (C1 (A0 (qpv 5) (A0 (qpv 6) A1))) A1)))
   (A2 (B3 (i := 10) sc_Loffer.nd rfl (Or.inl rfl) (C1 (A0 A3 (A0 A3 A1))))
   (A2 (F0 PassesOwn.never rfl (F2 (K := K) rfl (qpv 7)) (A9 (i := 8) sc_Loffer.nd rfl (Or.inl rfl) (Or.inl rfl))
    (A2 (B3 (i := 11) sc_Loffer.nd rfl (Or.inl rfl) (A6 (G9 (K := K) T) hr.mo rfl T.m_Lamount T.F_Lamount.kp (J8 T) .nil B5 (A0 (qpv 0) (A0 (qpv 3) (A0 A3 A1)))))
    (A2 (B3 (i := 5) sc_Loffer.nd rfl (Or.inl rfl) (A6 (F9 (K := K) T) hr.mo rfl T.m_Lminus T.F_Lminus.kp (G6 T) .nil B5 (A0 (qpv 5) (A0 (qpv 8) A1))))
    (A2 (B3 (i := 10) sc_Loffer.nd rfl (Or.inl rfl) (A6 (F3 (K := K) T) hr.mo rfl T.m_Lplus T.F_Lplus.kp (G2 T) .nil B5 (A0 (qpv 10) (A0 (qpv 11) A1))))
    (A2 (D0 (B7 (D4 (K := K) rfl hr.units) (qpv 1) C6 (C4 _))
     (A7 (B3 (i := 11) sc_Loffer.nd rfl (Or.inl rfl) (A6 (P8 (K := K) T) hr.mo rfl T.m_Ltimes T.F_Ltimes.kp (S7 T) .nil B5 (A0 (qpv 10) (A0 (qpv 8) A1)))))
     C3)
    (A2 (B3 (i := 6) sc_Loffer.nd rfl (Or.inl rfl) (A6 (F3 (K := K) T) hr.mo rfl T.m_Lplus T.F_Lplus.kp (G2 T) .nil B5 (A0 (qpv 6) (A0 (qpv 11) A1))))
    (A7 (D9 (F5 (K := K) rfl PySem.F.plainAttrs_list PySem.F.slot_list_append PySem.F.type_list_append D5 (qpv 9) (A0 (C1 (A0 (qpv 5) (A0 (qpv 6) A1))) A1))))))))))
   (A7 (C0 (C1 (A0 (qpv 1) (A0 (qpv 9) A1)))))))))))))), ?_⟩
 haveI := T.c2_NOUGHT
 haveI := T.c2_ONE
 refine Pu.G3 h ?_
 rintro as Qp ⟨kd, mo, rfl, m0, m5, hk, k⟩
 trivial
 refine ⟨mo, rfl, m0, J9 (B := 5) (by omega) (by omega) (by decide), fun d d0 d1 => ?_⟩
 trivial
 refine ⟨_, _, rfl, .inl rfl, fun q1 q10 _ s1 _ => ?_⟩
 trivial
 refine ⟨_, _, rfl, .inl rfl, fun q2 q20 _ s2 _ => ?_⟩
 trivial
 refine ⟨by omega, by rw [G8]; omega, ?_⟩
 refine M6 (fun i e ys => ∃ (qs : LQ) (o : Option SV), e = [some .st, some (.d (.bool false)), o] /\ ys = qs.map dq /\ qs.length = i /\ ∀ q ∈ qs, 0 < q /\ SmR 41 6 q) ⟨[], _, rfl, rfl, rfl, fun _ z => nomatch z⟩ ?_ ?_
 ·rintro i e ys hi ⟨qs, o, rfl, rfl, hl, hq⟩
  trivial
  refine ⟨_, _, rfl, .inr rfl, fun q _ qp sq _ => ?_⟩
  trivial
  refine ⟨qs ++ [q], _, rfl, by rw [List.map_append]; rfl, by simp [hl], fun c z => (List.mem_append.mp z).elim (hq c) fun z => ?_⟩
  simp at z; subst z; exact ⟨qp rfl, sq⟩
 ·rintro e ys ⟨qs, o, rfl, rfl, hl, hq⟩
  have hm : qs.length <= 4 := by omega
  trivial
  refine K2 (fun i e => ∃ (o8 : Option SV) (T' : Rat), e = [some .st, some (.d (.str kd)), some (.d (.int mo)), some (.d (.bool false)), some (.d (.int (1 + d))), some (.d (dq T')), some (.d (dq q2)), some (.d (.list (qs.map dq))), o8, none, none, none] /\ SmR (41 + 7 * i) (6 + 6 * i) T' /\ T' = q1 + sumR (qs.take i) /\ On LL ((1 + i) * 2 ^ 41) T') ⟨_, _, rfl, s1, by show q1 = q1 + 0; grind, (N3 s1).mono (Nat.le_of_ble_eq_true rfl)⟩ ?_ ?_
  ·rintro i q e hqi ⟨o8, T', rfl, sT, eT, oT⟩
   have hil : i < qs.length := (List.getElem?_eq_some_iff.mp hqi).1
   have sg := (hq q (List.mem_of_getElem? hqi)).2
   trivial
   refine ⟨_, _, rfl, sT.q (by omega) (by omega), sg.q (by decide) (by decide), ?_⟩
   trivial
   exact ⟨_, _, rfl, (sT.add sg).mono (by omega) (by omega), by rw [List.take_add_one, hqi, Option.toList_some, Z5, eT]; grind, (oT.add D2 (N3 sg)).mono (by rw [show 1 + (i + 1) = (1 + i) + 1 by omega, Nat.add_mul (1 + i) 1, Nat.one_mul]; exact Nat.le_refl _)⟩
  ·rintro e ⟨o8, T0, rfl, sT0, eT0, oT0⟩
   try rw [List.length_map] at oT0
   try rw [List.length_map] at eT0
   rw [List.take_length] at eT0
   have hq0 : ∀ q ∈ qs, 0 < q := fun q hq' => (hq q hq').1
   have sT0 : SmR 69 30 T0 := sT0.mono (by omega) (by omega)
   trivial
   refine K2 (fun i e => ∃ (o8 o11 : Option SV) (T' P' R' : Rat) (cs : LR), e = [some .st, some (.d (.str kd)), some (.d (.int mo)), some (.d (.bool false)), some (.d (.int (1 + d))), some (.d (dq T')), some (.d (dq P')), some (.d (.list (qs.map dq))), o8, some (.own ((cs ++ [(T', P')]).map dcn)), some (.d (dq R')), o11] /\
    SmR (69 + 7 * i) (30 + 6 * i) T' /\ SmR (116 + 32 * i) (6 + 31 * i) P' /\ SmR (41 + 7 * i) (1 + 6 * i) R' /\ (On LL ((6 + i) * 2 ^ 41) T' /\ On (LL * LL) ((1 + i) * 2 ^ 85) P' /\ On LL (i * 2 ^ 41) R' /\ OnC cs /\ (kd = "straight" -> OnP (cs ++ [(T', P')]))) /\ (T' = q1 + sumR (qs.drop i) /\ 0 <= P' /\ 0 <= R' /\ RiseO (cs ++ [(T', P')]) /\ ∀ c ∈ cs, 0 <= c.1 /\ 0 <= c.2) /\ (kd = "straight" -> CvR (cs ++ [(T', P')]) R') /\ Dec (cs ++ [(T', P')]) /\ cs.length = i /\ ∀ c ∈ cs, SmR 100 54 c.1 /\ SmR 244 130 c.2)
    ⟨_, _, T0, q2, 0, [], rfl, sT0, s2.mono (by decide) (by decide), sm_zero.mono (by decide) (by decide), ⟨oT0.mono (Nat.mul_le_mul_right _ (by omega)), ((N3 s2).up D2).mono (Nat.le_of_ble_eq_true rfl), On.zero.mono (Nat.zero_le _), (fun _ z => nomatch z), fun _ => OnP.one _⟩, ⟨eT0, q20, Rat.le_refl, RiseO.one _, fun _ z => nomatch z⟩, fun _ => CvR.one _, True.intro, rfl, fun _ z => nomatch z⟩ ?_ ?_
   ·rintro i q e hqi ⟨o8, o11, T', P', R', cs, rfl, sT, sP, sR, ⟨oT, oP, oR, oC, oS⟩, ⟨eT, P0, R0, up, nn⟩, cv, dec, hcl, hcs⟩
    have hil : i < qs.length := (List.getElem?_eq_some_iff.mp hqi).1
    obtain ⟨qp, sg⟩ := hq q (List.mem_of_getElem? hqi)
    have ed : qs.drop i = q :: qs.drop (i + 1) := by rw [List.drop_eq_getElem_cons hil]; congr 1; exact (List.getElem?_eq_some_iff.mp hqi).2
    have eT2 : T' - q = q1 + sumR (qs.drop (i + 1)) := by
     rw [ed] at eT
     have : sumR (q :: qs.drop (i + 1)) = q + sumR (qs.drop (i + 1)) := rfl
     rw [this] at eT; grind
    have nT2 := W7 (qs := qs.drop (i + 1)) fun x hx => hq0 x (List.mem_of_mem_drop hx)
    have nT := W7 (qs := qs.drop i) fun x hx => hq0 x (List.mem_of_mem_drop hx)
    trivial
    refine ⟨_, _, rfl, .inr rfl, fun v1 _ vp sv1 _ => ?_⟩
    have v0 := vp rfl
    have nn' : ∀ c ∈ cs ++ [(T', P')], 0 <= c.1 /\ 0 <= c.2 := fun c hc => by
     rcases List.mem_append.mp hc with z | z
     ·exact nn c z
     ·cases List.mem_singleton.mp z
      exact ⟨by show 0 <= T'; rw [eT]; grind, P0⟩
    trivial
    refine ⟨_, _, rfl, sT.q (by omega) (by omega), sg.q (by decide) (by decide), ?_⟩
    trivial
    refine ⟨_, _, rfl, sR.q (by omega) (by omega), sv1.q (by decide) (by decide), ?_⟩
    trivial
    have hi4 : i < 4 := by omega
    have oT2 : On LL ((6 + (i + 1)) * 2 ^ 41) (T' - q) := (oT.sub D2 (N3 sg)).mono (by rw [show 6 + (i + 1) = (6 + i) + 1 by omega, Nat.add_mul (6 + i) 1, Nat.one_mul]; exact Nat.le_refl _)
    have oR2 : On LL ((i + 1) * 2 ^ 41) (R' + v1) := (oR.add D2 (N3 sv1)).mono (by rw [Nat.add_mul, Nat.one_mul]; exact Nat.le_refl _)
    have oC2 : OnC (cs ++ [(T', P')]) := fun c hc => by
     rcases List.mem_append.mp hc with z | z
     ·exact oC c z
     ·cases List.mem_singleton.mp z
      exact ⟨oT.mono (Nat.le_trans (Nat.mul_le_mul_right _ (show 6 + i <= 16 by omega)) (Nat.le_of_ble_eq_true rfl)), oP.mono (Nat.le_trans (Nat.mul_le_mul_right _ (show 1 + i <= 16 by omega)) (Nat.le_of_ble_eq_true rfl))⟩
    have sT2 : SmR (69 + 7 * (i + 1)) (30 + 6 * (i + 1)) (T' - q) := (sT.sub sg).mono (by omega) (by omega)
    have sR2 : SmR (41 + 7 * (i + 1)) (1 + 6 * (i + 1)) (R' + v1) := (sR.add sv1).mono (by omega) (by omega)
    refine ⟨hk.lay, A7t, ?_⟩
    refine ite2 (fun h2 => ?_) (fun h2 => ?_)
    case' refine_1 =>
     refine ⟨_, _, rfl, sR2.q (by omega) (by omega), sg.q (by decide) (by decide), ?_⟩
     trivial
     have sv2 : SmR 110 31 ((R' + v1) * q) := (sR2.mul sg).mono (by omega) (by omega)
     obtain ⟨v2, ev2⟩ : ∃ v2, v2 = (R' + v1) * q := ⟨_, rfl⟩
     rw [<- ev2] at sv2 ⊢
     have hv : kd = "straight" -> v2 = (R' + v1) * q := fun _ => ev2
     have ov : On (LL * LL) (2 ^ 85) v2 := by rw [ev2]; exact (oR2.mul (N3 sg)).mono (Nat.le_trans (Nat.mul_le_mul_right _ (Nat.mul_le_mul_right _ (show i + 1 <= 8 by omega))) (Nat.le_of_ble_eq_true rfl))
     have w0 : 0 < v2 := by rw [ev2]; exact Rat.mul_pos (by grind) qp
    case' refine_2 =>
     have sv2 : SmR 110 31 v1 := sv1.mono (by decide) (by decide)
     have hv : kd = "straight" -> v1 = (R' + v1) * q := fun z => absurd (by rw [z]; exact B70) h2
     have ov : On (LL * LL) (2 ^ 85) v1 := ((N3 sv1).up D2).mono (Nat.le_of_ble_eq_true rfl)
     have w0 : 0 < v1 := v0
    all_goals
     refine ⟨_, _, rfl, sP.q (by omega) (by omega), sv2.q (by decide) (by decide), ?_⟩
     trivial
     refine ⟨by simp; omega, _, _, _, _, _, cs ++ [(T', P')], by simp only [List.map_append]; rfl, sT2, (sP.add sv2).mono (by omega) (by omega), sR2, ⟨oT2, (oP.add (Nat.mul_pos D2 D2) ov).mono (by rw [show 1 + (i + 1) = (1 + i) + 1 by omega, Nat.add_mul (1 + i) 1, Nat.one_mul]; exact Nat.le_refl _), oR2, oC2, fun z => (oS z).snoc (by rw [((cv z).step qp (vp rfl) (hv z)).2 cs _ _ (by simp)]; exact oR2.mono (Nat.le_trans (Nat.mul_le_mul_right _ (show i + 1 <= 8 by omega)) (Nat.le_of_ble_eq_true rfl)))⟩, ⟨eT2, by grind, by grind, RiseO.snoc up (by show T' - q < T'; grind) (by show P' < P' + _; grind), nn'⟩, fun z => (cv z).step qp (vp rfl) (hv z), Dec.snoc dec (by show T' - q < T'; grind), by simp [hcl], fun c hc => ?_⟩
     rcases List.mem_append.mp hc with z | z
     ·exact hcs c z
     ·cases List.mem_singleton.mp z
      exact ⟨sT.mono (by omega) (by omega), sP.mono (by omega) (by omega)⟩
   ·rintro e ⟨o8, o11, T', P', R', cs, rfl, sT, sP, sR, ⟨oT, oP, oR, oC, oS⟩, ⟨eT, P0, R0, up, nn⟩, cv, dec, hcl, hcs⟩
    trivial
    have nT := W7 (qs := qs.drop (qs.map dq).length) fun x hx => hq0 x (List.mem_of_mem_drop hx)
    have hl4 : (qs.map dq).length <= 4 := by rw [List.length_map]; exact hm
    refine k _ ⟨⟨by simp, by simp; omega, dec, fun c hc => ?_⟩, fun c hc => ?_, up, fun z => (cv z).1⟩ (fun c hc => ?_) oS (by simp; omega)
    ·rcases List.mem_append.mp hc with z | z
     ·exact hcs c z
     ·simp at z; subst z; exact ⟨sT.mono (by omega) (by omega), sP.mono (by omega) (by omega)⟩
    ·rcases List.mem_append.mp hc with z | z
     ·exact nn c z
     ·simp at z; subst z; exact ⟨by show 0 <= T'; rw [eT]; grind, P0⟩
    ·rcases List.mem_append.mp hc with z | z
     ·exact oC c z
     ·cases List.mem_singleton.mp z
      exact ⟨oT.mono (Nat.le_trans (Nat.mul_le_mul_right _ (show 6 + _ <= 16 by omega)) (Nat.le_of_ble_eq_true rfl)), oP.mono (Nat.le_trans (Nat.mul_le_mul_right _ (show 1 + _ <= 16 by omega)) (Nat.le_of_ble_eq_true rfl))⟩
def A9i : Pu.PSp := fun as Q => ∃ (n : Nat) (xs : List Wk) (vs : List (Int × Int)) (us : List (Str × Int)), as = [.d (shD xs vs us), .st] /\ ShOk n xs vs us /\ ∀ arcs : List (Str × Int), arcs.length <= 12 -> (∀ a ∈ arcs, ArOk n vs.length us.length a) -> Q (.own (arcs.map qD))
theorem A9v (T : Txt K mg D) : FnOk P w K mg base CX0 2 D.a_Lwalk D.d_Lwalk ["_law_shape_here", "_law_state"] (Pu.spOf K [.dat, .st] A9i) := by
 refine T.F_Lwalk.ok sc_Lwalk (Pu.spOf.len rfl) (fun cdv A outer s H vs Q E hr h => ?_)
 refine ⟨_, (QSs.out (A2 (E6 (qpv 0) (C9 (K := K) (n := 3) rfl rfl (B2 (A9 (i := 2) sc_Lwalk.nd rfl (Or.inl rfl) (Or.inl rfl)) (B2 (A9 (i := 3) sc_Lwalk.nd rfl (Or.inr rfl) (Or.inl rfl)) (B2 (A9 (i := 4) sc_Lwalk.nd rfl (Or.inr rfl) (Or.inl rfl)) C8))) rfl rfl))
   (A2 (B3 (i := 5) sc_Lwalk.nd rfl (Or.inr rfl) (A6 (C7 (K := K) T) hr.mo rfl T.m_Ltake T.F_Ltake.kp (D1 T) .nil B5 (A0 (qpv 1) (A0 (B9 (C2 (K := K) rfl) (by rfl) T.z_len PySem.boot_len (A0 (qpv 2) A1)) A1))))
   (A2 (B3 (i := 6) sc_Lwalk.nd rfl (Or.inr rfl) (D3 (A0 (qpv 5) A1)))
   (A2 (B3 (i := 7) sc_Lwalk.nd rfl (Or.inl rfl) (D3 A1))
   (A2 (B3 (i := 8) sc_Lwalk.nd rfl (Or.inl rfl) K7)
   (A2 (T2 PassesOwn.never (F8 (qpv 8))
    (A2 (F7 (i := 9) rfl sc_Lwalk.nd rfl rfl (E7 (N' := ["_law_work", "_law_waits", "_law_k"]) (cap := [some 5, some 3, none]) rfl rfl rfl rfl (by decide +kernel) rfl rfl) (E9 rfl T.z_range (A0 (B9 (C2 (K := K) rfl) (by rfl) T.z_len PySem.boot_len (A0 (qpv 3) A1)) A1)) (fun _ _ _ => (A9 (i := 2) (show (["_law_work", "_law_waits", "_law_k"] : List Str).Nodup from by decide +kernel) rfl (Or.inl rfl) (Or.inr rfl))) (fun _ _ _ => (S1 (B7 (D4 (K := K) rfl hr.units) (A8 (A5 (K := K) rfl) (A8 (A5 (K := K) rfl) (qpv 1) (qpv 2) (fun _ _ => rfl)) A3 (fun _ _ => rfl)) (qpv 0) (C4 _)))) (fun _ _ _ => (qpv 2)) rfl)
    (A2 (B3 (i := 8) sc_Lwalk.nd rfl (Or.inl rfl) (X3 (J0 (K1 (K := K) rfl hr.units) (qpv 9) (D3 A1) (C4 _)) (X2 (J0 T4 (A6 (C7 (K := K) T) hr.mo rfl T.m_Ltake T.F_Ltake.kp (D1 T) .nil B5 (A0 (qpv 1) (A0 A3 A1))) A3 (C4 _)))))
    (A7 (D0 (F8 (qpv 8))
     (A2 (D9 (F5 (K := K) rfl PySem.F.plainAttrs_list PySem.F.slot_list_append PySem.F.type_list_append D5 (qpv 7) (A0 (C1 (A0 C6 (A0 (A8 (A5 (K := K) rfl) (qpv 9) (A6 (C7 (K := K) T) hr.mo rfl T.m_Ltake T.F_Ltake.kp (D1 T) .nil B5 (A0 (qpv 1) (A0 (B9 (C2 (K := K) rfl) (by rfl) T.z_len PySem.boot_len (A0 (qpv 9) A1)) A1))) (fun _ _ => rfl)) A1))) A1)))
     (A2 (B3 (i := 5) sc_Lwalk.nd rfl (Or.inr rfl) (A8 (A5 (K := K) rfl) (A8 (A5 (K := K) rfl) (qpv 3) (A8 (A5 (K := K) rfl) (A8 (A5 (K := K) rfl) (qpv 7) (B06 B0x A3) (fun _ _ => rfl)) A3 (fun _ _ => rfl)) (fun _ _ => rfl)) A3 (fun _ _ => rfl)))
     (A2 (D0 (B7 (A1z (K := K) rfl hr.units) (qpv 5) (qpv 6) (by with_unfolding_all rfl))
      (A7 (C0 (N1 (R9 (K := K) rfl) (qpv 7) (P1 (F5 (K := K) rfl PySem.F.plainAttrs_list PySem.F.slot_list_index PySem.F.type_list_index (Q5 (K := K) rfl hr.units) (qpv 6) (A0 (qpv 5) A1))) P2)))
      C3)
     (A7 (D9 (F5 (K := K) rfl PySem.F.plainAttrs_list PySem.F.slot_list_append PySem.F.type_list_append D5 (qpv 6) (A0 (qpv 5) A1)))))))
     C3)))))
   (A2 (B3 (i := 10) sc_Lwalk.nd rfl (Or.inl rfl) (C5 (Q4 (K := K) rfl) (D3 (A0 (C1 (A0 C6 (A0 (A8 (A5 (K := K) rfl) (qpv 6) A3 (fun _ _ => rfl)) A1))) A1)) (L6 rfl (E7 (N' := ["_law_holds", "_law_seen", "_law_k"]) (cap := [some 4, some 6, none]) rfl rfl rfl rfl (by decide +kernel) rfl rfl) (E9 rfl T.z_range (A0 (B9 (C2 (K := K) rfl) (by rfl) T.z_len PySem.boot_len (A0 (qpv 4) A1)) A1)) (fun _ _ _ => (A9 (i := 2) (show (["_law_holds", "_law_seen", "_law_k"] : List Str).Nodup from by decide +kernel) rfl (Or.inl rfl) (Or.inr rfl))) (fun _ _ _ => (S1 (B7 (D4 (K := K) rfl hr.units) (A8 (A5 (K := K) rfl) (qpv 0) (qpv 2) (fun _ _ => rfl)) (C1 (A0 C6 (A0 (A8 (A5 (K := K) rfl) (qpv 1) A3 (fun _ _ => rfl)) A1))) (C4 _)))) (fun _ _ _ => (C1 (A0 C6 (A0 (qpv 2) A1)))))))
   (A2 (B3 (i := 11) sc_Lwalk.nd rfl (Or.inl rfl) (C5 (Q4 (K := K) rfl) (D3 (A0 (C1 (A0 C6 (A0 (qpv 5) A1))) A1)) (L6 rfl (E7 (N' := ["_law_holds", "_law_work", "_law_k"]) (cap := [some 4, some 5, none]) rfl rfl rfl rfl (by decide +kernel) rfl rfl) (E9 rfl T.z_range (A0 (B9 (C2 (K := K) rfl) (by rfl) T.z_len PySem.boot_len (A0 (qpv 4) A1)) A1)) (fun _ _ _ => (A9 (i := 2) (show (["_law_holds", "_law_work", "_law_k"] : List Str).Nodup from by decide +kernel) rfl (Or.inl rfl) (Or.inr rfl))) (fun _ _ _ => (S1 (B7 (A1z (K := K) rfl hr.units) (A8 (A5 (K := K) rfl) (qpv 0) (qpv 2) (fun _ _ => rfl)) (D3 (A0 (C1 (A0 C6 (A0 (qpv 1) A1))) (A0 (C1 (A0 C6 (A0 (qpv 1) A1))) A1))) (by with_unfolding_all rfl)))) (fun _ _ _ => (C1 (A0 C6 (A0 (qpv 2) A1)))))))
   (A7 (C0 (C5 (Q4 (K := K) rfl) (C5 (Q4 (K := K) rfl) (D3 (A0 (A8 (A5 (K := K) rfl) (qpv 10) (A6 (C7 (K := K) T) hr.mo rfl T.m_Ltake T.F_Ltake.kp (D1 T) .nil B5 (A0 (qpv 1) (A0 (B9 (C2 (K := K) rfl) (by rfl) T.z_len PySem.boot_len (A0 (qpv 10) A1)) A1))) (fun _ _ => rfl)) A1)) (qpv 7)) (D3 (A0 (A8 (A5 (K := K) rfl) (qpv 11) (A6 (C7 (K := K) T) hr.mo rfl T.m_Ltake T.F_Ltake.kp (D1 T) .nil B5 (A0 (qpv 1) (A0 (B9 (C2 (K := K) rfl) (by rfl) T.z_len PySem.boot_len (A0 (qpv 11) A1)) A1))) (fun _ _ => rfl)) A1)))))))))))))), ?_⟩
 haveI := T.c2_NOUGHT
 haveI := T.c2_ONE
 refine Pu.G3 h ?_
 rintro as Qp ⟨n, xs, vs, us, rfl, ok, k⟩
 have n0 := ok.n0
 have n1 := ok.n1
 have ln := ok.ln
 have vl := ok.vl
 have ul := ok.ul
 unfold shD
 refine hd fun R hR => ?_
 trivial
 subst hR
 refine hd fun R hR => ?_
 trivial
 refine ⟨(n : Int), by simp [ln], by omega, J9 (B := 10) (by omega) (by omega) (by decide), fun w0 w00 w01 => ?_⟩
 trivial
 subst hR
 trivial
 refine ⟨fun m e => ∃ (wk : Int) (seen : List Int) (arcs : List (Str × Int)) (go : Bool) (o9 : Option SV), e = [some (.d (.tuple [.list (xs.map kD), .list (vs.map pD), .list (us.map qD)])), some .st, some (.d (.list (xs.map kD))), some (.d (.list (vs.map pD))), some (.d (.list (us.map qD))), some (.d (.int wk)), some (.own (seen.map .int)), some (.own (arcs.map qD)), some (.d (.bool go)), o9, none, none] /\ (wk ∈ seen /\ seen.Nodup /\ (∀ x ∈ seen, 0 <= x /\ x < (n : Int)) /\ arcs.length + 1 = seen.length /\ seen.length <= n /\ ∀ a ∈ arcs, ArOk n vs.length us.length a) /\ m = if go then n + 1 - seen.length else 0, ⟨_, w0, [w0], [], true, _, rfl, ⟨List.mem_singleton.mpr rfl, by simp, (fun x hx => by rw [List.mem_singleton.mp hx]; exact ⟨w00, w01⟩), rfl, by simpa using n0, fun _ z => nomatch z⟩, rfl⟩, ?_⟩
 rintro m e ⟨wk, seen, arcs, go, o9, rfl, ⟨hw, nd, hs, la, ls, ha⟩, rfl⟩
 obtain ⟨wk0, wk1⟩ := hs wk hw
 trivial
 rcases go with _ | _
 ·obtain ⟨s0, es⟩ : ∃ z, seen[0]? = some z := ⟨_, List.getElem?_eq_getElem (by omega)⟩
  obtain ⟨s00, s01⟩ := hs s0 (List.mem_of_getElem? es)
  trivial
  refine B6 (n := 0) es ?_
  trivial
  refine ⟨by omega, by rw [G8]; omega, ?_⟩
  refine M6 (fun i e ys => ∃ (fs : List (Str × Int)) (o : Option SV), e = [some (.d (.list (us.map qD))), some (.bor (seen.map .int)), o] /\ ys = fs.map qD /\ fs.length <= i /\ ∀ a ∈ fs, ArOk n vs.length us.length a) ⟨[], _, rfl, rfl, Nat.zero_le _, fun _ z => nomatch z⟩ ?_ ?_
  ·rintro i e ys hi ⟨fs, o, rfl, rfl, hl, hf⟩
   obtain ⟨u, eu⟩ : ∃ u, us[i]? = some u := ⟨_, List.getElem?_eq_getElem (by omega)⟩
   have uk := (ok.uk u (List.mem_of_getElem? eu)).1
   trivial
   refine B6 eu ?_
   trivial
   refine B6 (n := 0) es ?_
   trivial
   refine ⟨A0a uk, A0a (u := (_, s0)) (.inl rfl), A2x u, ?_⟩
   refine ite2 (fun _ => ?_) (fun _ => ⟨fs, _, rfl, rfl, by omega, hf⟩)
   exact ⟨fs ++ [(Str.ofString "hold", (i : Int))], _, rfl, by rw [List.map_append]; rfl, by rw [List.length_append, List.length_singleton]; omega, ArOk.snoc hf (by omega)⟩
  ·rintro e ys ⟨fs, o, rfl, rfl, hl, hf⟩
   trivial
   refine ⟨by omega, by omega, by rw [G8]; omega, ?_⟩
   refine M6 (fun i e ys => ∃ (gs : List (Str × Int)) (o : Option SV), e = [some (.d (.list (us.map qD))), some (.d (.int wk)), o] /\ ys = gs.map qD /\ gs.length <= i /\ ∀ a ∈ gs, ArOk n vs.length us.length a) ⟨[], _, rfl, rfl, Nat.zero_le _, fun _ z => nomatch z⟩ ?_ ?_
   ·rintro i e ys hi ⟨gs, o, rfl, rfl, hl, hf⟩
    obtain ⟨u, eu⟩ : ∃ u, us[i]? = some u := ⟨_, List.getElem?_eq_getElem (by omega)⟩
    have uk := (ok.uk u (List.mem_of_getElem? eu)).1
    trivial
    refine B6 eu ?_
    trivial
    refine ⟨by show ((qD (Str.ofString "till", wk)).canLay0 && ((qD (Str.ofString "by", wk)).canLay0 && true)) = true; rw [A0a (.inr (.inl rfl)), A0a (.inr (.inr rfl))]; rfl, A0a uk, A2x u, ?_⟩
    refine ite2 (fun _ => ?_) (fun _ => ⟨gs, _, rfl, rfl, by omega, hf⟩)
    exact ⟨gs ++ [(Str.ofString "hold", (i : Int))], _, rfl, by rw [List.map_append]; rfl, by rw [List.length_append, List.length_singleton]; omega, ArOk.snoc hf (by omega)⟩
   ·rintro e ys ⟨gs, o, rfl, rfl, hl2, hg⟩
    have af : ∀ a ∈ (Str.ofString "start", s0) :: fs, ArOk n vs.length us.length a := fun a h => by
     rcases List.mem_cons.mp h with rfl | h
     ·exact ⟨s00, .inl ⟨rfl, s01⟩⟩
     ·exact hf a h
    have ag : ∀ a ∈ (Str.ofString "end", wk) :: gs, ArOk n vs.length us.length a := fun a h => by
     rcases List.mem_cons.mp h with rfl | h
     ·exact ⟨wk0, .inr (.inl ⟨rfl, wk1⟩)⟩
     ·exact hg a h
    trivial
    refine ⟨by omega, ((fs.length + 1 : Nat) : Int), by simp, by omega, J9 (B := 50) (by omega) (by omega) (by decide), fun b b0 b1 => ?_⟩
    trivial
    obtain ⟨q, rfl⟩ := Int.eq_ofNat_of_zero_le b0
    obtain ⟨y, ey⟩ : ∃ z, ((Str.ofString "start", s0) :: fs)[q]? = some z := ⟨_, List.getElem?_eq_getElem (by rw [List.length_cons]; omega)⟩
    have hy := af y (List.mem_of_getElem? ey)
    refine B6 (f := qD) (xs := (Str.ofString "start", s0) :: fs) ey ?_
    trivial
    refine ⟨by omega, ((gs.length + 1 : Nat) : Int), by simp, by omega, J9 (B := 50) (by omega) (by omega) (by decide), fun b b0 b1 => ?_⟩
    trivial
    obtain ⟨q, rfl⟩ := Int.eq_ofNat_of_zero_le b0
    obtain ⟨z, ez⟩ : ∃ z, ((Str.ofString "end", wk) :: gs)[q]? = some z := ⟨_, List.getElem?_eq_getElem (by rw [List.length_cons]; omega)⟩
    have hz := ag z (List.mem_of_getElem? ez)
    refine B6 (f := qD) (xs := (Str.ofString "end", wk) :: gs) ez ?_
    trivial
    have k2 := k ([y] ++ arcs ++ [z]) (by simp; omega) fun a h => by
     rcases List.mem_append.mp h with h | h
     ·rcases List.mem_append.mp h with h | h
      ·rw [List.mem_singleton.mp h]; exact hy
      ·exact ha a h
     ·rw [List.mem_singleton.mp h]; exact hz
    rw [List.map_append, List.map_append] at k2
    exact ⟨by omega, k2⟩
 ·trivial
  refine ⟨by omega, by rw [G8]; omega, ?_⟩
  refine M6 (fun i e ys => ∃ (js : List Int) (o : Option SV), e = [some (.d (.int wk)), some (.d (.list (vs.map pD))), o] /\ ys = js.map .int /\ js.length <= i /\ ∀ j ∈ js, 0 <= j /\ j < (vs.length : Int)) ⟨[], _, rfl, rfl, Nat.zero_le _, fun _ z => nomatch z⟩ ?_ ?_
  ·rintro i e ys hi ⟨js, o, rfl, rfl, hl, hj⟩
   obtain ⟨v, ev⟩ : ∃ v, vs[i]? = some v := ⟨_, List.getElem?_eq_getElem (by omega)⟩
   trivial
   refine B6 ev ?_
   unfold pD
   trivial
   refine ite2 (fun _ => ?_) (fun _ => ⟨js, _, rfl, rfl, by omega, hj⟩)
   trivial
   refine ⟨js ++ [(i : Int)], _, rfl, by rw [List.map_append]; rfl, by rw [List.length_append, List.length_singleton]; omega, fun j hj' => ?_⟩
   rcases List.mem_append.mp hj' with z | z
   ·exact hj j z
   ·rw [List.mem_singleton.mp z]; omega
  ·rintro e ys ⟨js, o, rfl, rfl, hl, hj⟩
   trivial
   refine ⟨S4 js, A00 js, ?_⟩
   rw [A3o]
   have stop : ∀ o9 : Option SV, ∃ m', m' < n + 1 - seen.length /\ ∃ (wk_1 : Int) (seen_1 : List Int) (arcs_1 : List (Str × Int)) (go : Bool) (o9' : Option SV), [some (SV.d (.tuple [.list (xs.map kD), .list (vs.map pD), .list (us.map qD)])), some .st, some (.d (.list (xs.map kD))), some (.d (.list (vs.map pD))), some (.d (.list (us.map qD))), some (.d (.int wk)), some (.own (seen.map .int)), some (.own (arcs.map qD)), some (.d (.bool false)), o9, none, none] = [some (SV.d (.tuple [.list (xs.map kD), .list (vs.map pD), .list (us.map qD)])), some .st, some (.d (.list (xs.map kD))), some (.d (.list (vs.map pD))), some (.d (.list (us.map qD))), some (.d (.int wk_1)), some (.own (seen_1.map .int)), some (.own (arcs_1.map qD)), some (.d (.bool go)), o9', none, none] /\ (wk_1 ∈ seen_1 /\ seen_1.Nodup /\ (∀ x ∈ seen_1, 0 <= x /\ x < (n : Int)) /\ arcs_1.length + 1 = seen_1.length /\ seen_1.length <= n /\ ∀ a ∈ arcs_1, ArOk n vs.length us.length a) /\ m' = if go = true then n + 1 - seen_1.length else 0 := fun o9 => ⟨0, by omega, wk, seen, arcs, false, o9, rfl, ⟨hw, nd, hs, la, ls, ha⟩, rfl⟩
   refine ite2 (fun hn => ?_) (fun hn => stop _)
   refine ⟨4, rfl, by decide, sm4 4, fun d d0 d1 => ?_⟩
   trivial
   refine ite2 (fun hdd => ?_) (fun hdd => by rw [decide_eq_false hdd]; exact stop _)
   have jp : 0 < js.length := by cases js with | nil => cases hn | cons a r => exact Nat.succ_pos _
   refine ⟨(js.length : Int), by simp, by omega, J9 (B := 40) (by omega) (by omega) (by decide), fun b b0 b1 => ?_⟩
   trivial
   obtain ⟨q, rfl⟩ := Int.eq_ofNat_of_zero_le b0
   obtain ⟨z, ez⟩ : ∃ z, js[q]? = some z := ⟨_, List.getElem?_eq_getElem (by omega)⟩
   obtain ⟨z0, z1⟩ := hj z (List.mem_of_getElem? ez)
   refine B6 ez ?_
   trivial
   refine ⟨by omega, ?_⟩
   have ea : arcs.map qD ++ [PyData.tuple [.str (Str.ofString "wait"), .int z]] = (arcs ++ [(Str.ofString "wait", z)]).map qD := by rw [List.map_append]; rfl
   obtain ⟨u, rfl⟩ := Int.eq_ofNat_of_zero_le z0
   obtain ⟨v, ev⟩ : ∃ v, vs[u]? = some v := ⟨_, List.getElem?_eq_getElem (by omega)⟩
   obtain ⟨_, v0, v1⟩ := ok.vk v (List.mem_of_getElem? ev)
   have ha2 : ∀ a ∈ arcs ++ [(Str.ofString "wait", (u : Int))], ArOk n vs.length us.length a := fun a hm => by
    rcases List.mem_append.mp hm with y | y
    ·exact ha a y
    ·rw [List.mem_singleton.mp y]; exact ⟨z0, .inr (.inr (.inl ⟨rfl, z1⟩))⟩
   rw [ea]
   refine A6i (a := (Str.ofString "wait", (u : Int))) (by simp) (by simp) ?_
   rw [show qD (Str.ofString "wait", (u : Int)) = PyData.tuple [.str (Str.ofString "wait"), .int (u : Int)] from rfl]
   trivial
   refine B6 ev ?_
   rw [show pD v = PyData.tuple [.int v.1, .int v.2] from rfl]
   trivial
   refine ⟨A0u seen, ?_⟩
   refine ite2 (fun hy => ?_) (fun hy => ?_)
   ·obtain ⟨p, hp⟩ : ∃ p, (seen.map PyData.int).findIdx? (fun z => z.eqv (PyData.int v.2)) = some p := by
     rcases e : (seen.map PyData.int).findIdx? (fun z => z.eqv (PyData.int v.2)) with _ | p
     ·rw [List.findIdx?_eq_none_iff] at e
      obtain ⟨y, y1, y2⟩ := List.any_eq_true.mp hy
      rw [e y y1] at y2; cases y2
     ·exact ⟨p, e⟩
    refine ⟨A0u seen, by omega, p, hp, ?_⟩
    obtain ⟨ys, ey, my, ly⟩ := B47 (f := qD) (xs := arcs ++ [(Str.ofString "wait", (u : Int))]) (some (p : Int)) none
    rw [ey]
    rw [List.length_append, List.length_singleton] at ly
    exact k ys (by omega) fun a h => ha2 a (my a h)
   ·have nin : v.2 ∉ seen := fun hm => hy (List.any_eq_true.mpr ⟨_, List.mem_map_of_mem hm, by first | exact eqv_int_self _ | decide | simp [PyData.eqv]⟩)
    have nd2 : (seen ++ [v.2]).Nodup := List.nodup_append.mpr ⟨nd, by simp, fun a h b h2 => by rw [List.mem_singleton.mp h2]; exact fun e => nin (e ▸ h)⟩
    have hs2 : ∀ x ∈ seen ++ [v.2], 0 <= x /\ x < (n : Int) := fun x hx => by
     rcases List.mem_append.mp hx with y | y
     ·exact hs x y
     ·rw [List.mem_singleton.mp y]; exact ⟨v0, v1⟩
    have l2 := A93 nd2 hs2
    rw [List.length_append, List.length_singleton] at l2
    rw [show seen.map PyData.int ++ [PyData.int v.2] = (seen ++ [v.2]).map PyData.int from by rw [List.map_append]; rfl, decide_eq_true hdd]
    refine ⟨by omega, n - seen.length, by omega, v.2, seen ++ [v.2], arcs ++ [(Str.ofString "wait", (u : Int))], true, _, rfl, ⟨by simp, nd2, hs2, by simp; omega, by simp; omega, ha2⟩, ?_⟩
    rw [if_pos rfl, List.length_append, List.length_singleton]; omega
def A9k : Pu.PSp := fun as Q => ∃ (n : Nat) (xs : List Wk) (vs : List (Int × Int)) (us : List (Str × Int)), as = [.d (shD xs vs us), .st] /\ ShOk n xs vs us /\ ∀ q, 0 < q -> On LL (2 ^ 45) q -> Q (.d (dq q))
theorem A9x (T : Txt K mg D) : FnOk P w K mg base CX0 3 D.a_Lrate D.d_Lrate ["_law_shape_here", "_law_state"] (Pu.spOf K [.dat, .st] A9k) := by
 refine T.F_Lrate.ok sc_Lrate (Pu.spOf.len rfl) (fun cdv A outer s H vs Q E hr h => ?_)
 refine ⟨_, (QSs.out (A2 (E6 (A8 (A5 (K := K) rfl) (A8 (A5 (K := K) rfl) (A8 (A5 (K := K) rfl) (qpv 0) A3 (fun _ _ => rfl)) (A6 (C7 (K := K) T) hr.mo rfl T.m_Ltake T.F_Ltake.kp (D1 T) .nil B5 (A0 (qpv 1) (A0 (B9 (C2 (K := K) rfl) (by rfl) T.z_len PySem.boot_len (A0 (A8 (A5 (K := K) rfl) (qpv 0) A3 (fun _ _ => rfl)) A1)) A1))) (fun _ _ => rfl)) A3 (fun _ _ => rfl)) (C9 (K := K) (n := 2) rfl rfl (B2 (A9 (i := 2) sc_Lrate.nd rfl (Or.inl rfl) (Or.inl rfl)) (B2 (A9 (i := 3) sc_Lrate.nd rfl (Or.inl rfl) (Or.inl rfl)) C8)) rfl rfl))
   (A2 (B3 (i := 4) sc_Lrate.nd rfl (Or.inl rfl) (A6 (G9 (K := K) T) hr.mo rfl T.m_Lamount T.F_Lamount.kp (J8 T) .nil B5 (A0 (qpv 1) (A0 K7 (A0 A3 A1)))))
   (A2 (D0 (QW.pt (O1 (B7 (D4 (K := K) rfl hr.units) (qpv 2) C6 (C4 _)) (O1 (B7 T4 (B9 (C2 (K := K) rfl) (by rfl) T.z_len PySem.boot_len (A0 (qpv 3) A1)) A3 (C4 _)) (O9 (B7 T4 (A6 (C7 (K := K) T) hr.mo rfl T.m_Ltake T.F_Ltake.kp (D1 T) .nil B5 (A0 (qpv 1) (A0 A3 A1))) A3 (C4 _))))))
    (A2 (B3 (i := 5) sc_Lrate.nd rfl (Or.inl rfl) (C5 G5 A3 (A6 (C7 (K := K) T) hr.mo rfl T.m_Ltake T.F_Ltake.kp (D1 T) .nil B5 (A0 (qpv 1) (A0 (C5 T3 (B9 (C2 (K := K) rfl) (by rfl) T.z_len PySem.boot_len (A0 (qpv 3) A1)) A3) A1)))))
    (A2 (B3 (i := 6) sc_Lrate.nd rfl (Or.inl rfl) (A6 (F9 (K := K) T) hr.mo rfl T.m_Lminus T.F_Lminus.kp (G6 T) .nil B5 (A0 (A8 (A5 (K := K) rfl) (A8 (A5 (K := K) rfl) (qpv 3) (qpv 5) (fun _ _ => rfl)) A3 (fun _ _ => rfl)) (A0 (A8 (A5 (K := K) rfl) (A8 (A5 (K := K) rfl) (qpv 3) (C5 T3 (qpv 5) A3) (fun _ _ => rfl)) A3 (fun _ _ => rfl)) A1))))
    (A2 (B3 (i := 7) sc_Lrate.nd rfl (Or.inl rfl) (A6 (F9 (K := K) T) hr.mo rfl T.m_Lminus T.F_Lminus.kp (G6 T) .nil B5 (A0 (A8 (A5 (K := K) rfl) (A8 (A5 (K := K) rfl) (qpv 3) (C5 T3 (qpv 5) A3) (fun _ _ => rfl)) A3 (fun _ _ => rfl)) (A0 (A8 (A5 (K := K) rfl) (A8 (A5 (K := K) rfl) (qpv 3) (qpv 5) (fun _ _ => rfl)) A3 (fun _ _ => rfl)) A1))))
    (A7 (B3 (i := 4) sc_Lrate.nd rfl (Or.inl rfl) (A6 (O6 (K := K) T) hr.mo rfl T.m_Llow T.F_Llow.kp (U4 T) .nil B5 (A0 (C5 F1 (A8 (A5 (K := K) rfl) (qpv 6) A3 (fun _ _ => rfl)) (A8 (A5 (K := K) rfl) (qpv 7) A3 (fun _ _ => rfl))) (A0 (C5 F1 (A8 (A5 (K := K) rfl) (qpv 6) A3 (fun _ _ => rfl)) (A8 (A5 (K := K) rfl) (qpv 7) A3 (fun _ _ => rfl))) A1))))))))
    C3)
   (A7 (C0 (qpv 4))))))), ?_⟩
 haveI := T.c2_NOUGHT
 haveI := T.c2_ONE
 refine Pu.G3 h ?_
 rintro as Qp ⟨n, xs, vs, us, rfl, ok, k⟩
 have n0 := ok.n0
 have n1 := ok.n1
 have ln := ok.ln
 unfold shD
 trivial
 refine ⟨(n : Int), by simp [ln], by omega, J9 (B := 10) (by omega) (by omega) (by decide), fun a a0 a1 => ?_⟩
 trivial
 obtain ⟨i, rfl⟩ := Int.eq_ofNat_of_zero_le a0
 obtain ⟨x, ex⟩ : ∃ c, xs[i]? = some c := ⟨_, List.getElem?_eq_getElem (by omega)⟩
 obtain ⟨hk, og, oc, op⟩ := ok.of x (List.mem_of_getElem? ex)
 have n5 := og.ok.le
 refine B6 ex ?_
 unfold kD offD
 trivial
 refine ⟨_, _, rfl, .inr rfl, fun q q0 qp sq _ => ?_⟩
 have kq := k q (qp rfl) ((N3 sq).p2 (by decide))
 trivial
 refine ⟨hk.lay, A7t, ?_⟩
 refine ite2 (fun hst => ?_) (fun _ => kq)
 refine ite2 (fun hl => ?_) (fun _ => kq)
 refine ⟨3, rfl, by decide, sm4 3, fun t t0 t1 => ?_⟩
 trivial
 refine ite2 (fun _ => ?_) (fun _ => kq)
 refine ⟨(x.2.2.length : Int) - 1, by simp, by omega, J9 (B := 5) (by omega) (by omega) (by decide), fun j j0 j1 => ?_⟩
 trivial
 obtain ⟨m, rfl⟩ := Int.eq_ofNat_of_zero_le j0
 obtain ⟨c, ec⟩ : ∃ c, x.2.2[m]? = some c := ⟨_, List.getElem?_eq_getElem (by omega)⟩
 obtain ⟨d, ed⟩ : ∃ c, x.2.2[m + 1]? = some c := ⟨_, List.getElem?_eq_getElem (by omega)⟩
 have e1 : (1 : Int) + (m : Int) = ((m + 1 : Nat) : Int) := by omega
 have e2 : ((m + 1 : Nat) : Int) - 1 = (m : Int) := by omega
 obtain ⟨c1, c2⟩ := og.ok.sm c (List.mem_of_getElem? ec)
 obtain ⟨d1, d2⟩ := og.ok.sm d (List.mem_of_getElem? ed)
 obtain ⟨g1, g2⟩ := og.up m c d ec ed
 have kst : x.2.1 = "straight" := by
  rcases hk with z | z
  ·exact z
  ·exfalso
   have : x.2.1 = Str.ofString "steps" := z
   rw [this] at hst
   exact absurd hst (by decide +kernel)
 have hp : 0 < J1 c d := by
  unfold J1
  rw [Rat.div_def]
  exact Rat.mul_pos (by grind) (Rat.inv_pos.mpr (by grind))
 have ks := k _ hp (op kst m c d ec ed)
 have sg := c1.sub d1
 have su := d2.sub c2
 rw [e1]
 refine B6 (n := m + 1) ed ?_
 trivial
 rw [e2]
 refine B6 ec ?_
 trivial
 refine ⟨d.2, c.2, rfl, d2.q (by decide) (by decide), c2.q (by decide) (by decide), ?_⟩
 trivial
 rw [e2]
 refine B6 ec ?_
 trivial
 refine B6 (n := m + 1) ed ?_
 trivial
 refine ⟨c.1, d.1, rfl, c1.q (by decide) (by decide), d1.q (by decide) (by decide), ?_⟩
 trivial
 refine ⟨⟨su.1.mono (by decide), sg.2.mono (by decide)⟩, ⟨su.2.mono (by decide), sg.1.mono (by decide)⟩, _, _, rfl, Int.mul_pos (denp _) (B4l (by grind)), (su.1.mul sg.2).mono (by decide), (su.2.mul sg.1).mono (by decide), ?_⟩
 rw [B6a]
 trivial
 exact ks
def A5p : Pu.PSp := fun as Q => ∃ (n : Nat) (xs : List Wk) (vs : List (Int × Int)) (us : List (Str × Int)) (ns : List Int) (at_ : Int), as = [.d (shD xs vs us), .bor (ns.map .int), .d (.int at_)] /\ 0 <= at_ /\ at_ <= 300 /\ ShOk n xs vs us /\ ∀ ps : List ((Str × Int) × Rat), ps.length <= 48 -> (∀ p ∈ ps, ArOk n vs.length us.length p.1 /\ On LL (2 ^ 51) p.2) -> Q (.own (ps.map paD))
theorem A6y (T : Txt K mg D) : FnOk P w K mg base CX0 4 D.a_Lpaper D.d_Lpaper ["_law_shape_here", "_law_script", "_law_at"] (Pu.spOf K [.dat, .vw, .dat] A5p) := by
 refine T.F_Lpaper.ok sc_Lpaper (Pu.spOf.len rfl) (fun cdv A outer s H vs Q E hr h => ?_)
 refine ⟨_, (QSs.out (A2 (B3 (i := 3) sc_Lpaper.nd rfl (Or.inl rfl) (A6 (L0 (K := K) T) hr.mo rfl T.m_Lbegun T.F_Lbegun.kp (M7 T) .nil B5 (A0 (qpv 1) (A0 (qpv 2) A1))))
   (A2 (D9 (A6 (C7 (K := K) T) hr.mo rfl T.m_Ltake T.F_Ltake.kp (D1 T) .nil B5 (A0 (qpv 3) (A0 A3 A1))))
   (A2 (B3 (i := 4) sc_Lpaper.nd rfl (Or.inr rfl) (D3 A1))
   (A2 (B3 (i := 5) sc_Lpaper.nd rfl (Or.inr rfl) (D3 A1))
   (A2 (F0 PassesOwn.never rfl (E9 rfl T.z_range (A0 (A8 (A5 (K := K) rfl) (D3 (A0 A3 (A0 A3 (A0 A3 (A0 A3 (A0 A3 (A0 A3 A1))))))) (A6 (C7 (K := K) T) hr.mo rfl T.m_Ltake T.F_Ltake.kp (D1 T) .nil B5 (A0 (qpv 3) (A0 A3 A1))) (fun _ _ => rfl)) A1)) (A9 (i := 6) sc_Lpaper.nd rfl (Or.inl rfl) (Or.inl rfl))
    (A2 (B3 (i := 7) sc_Lpaper.nd rfl (Or.inl rfl) (A6 (A9x (K := K) T) hr.mo rfl T.m_Lrate T.F_Lrate.kp (B5e T) .nil B5 (A0 (qpv 0) (A0 (qpv 3) A1))))
    (A7 (F0 PassesOwn.never rfl (F2 (K := K) rfl (A6 (A9v (K := K) T) hr.mo rfl T.m_Lwalk T.F_Lwalk.kp (B5c T) .nil B5 (A0 (qpv 0) (A0 (qpv 3) A1)))) (A9 (i := 8) sc_Lpaper.nd rfl (Or.inl rfl) (Or.inl rfl))
     (A7 (D0 (B7 (A1z (K := K) rfl hr.units) (qpv 8) (qpv 4) (by with_unfolding_all rfl))
      (A7 (E6 (A6 (F3 (K := K) T) hr.mo rfl T.m_Lplus T.F_Lplus.kp (G2 T) .nil B5 (A0 (A8 (A5 (K := K) rfl) (qpv 5) (F5 (K := K) rfl PySem.F.plainAttrs_list PySem.F.slot_list_index PySem.F.type_list_index (Q5 (K := K) rfl hr.units) (qpv 4) (A0 (qpv 8) A1)) (fun _ _ => rfl)) (A0 (qpv 7) A1))) (K0 (qpv 5) (F5 (K := K) rfl PySem.F.plainAttrs_list PySem.F.slot_list_index PySem.F.type_list_index (Q5 (K := K) rfl hr.units) (qpv 4) (A0 (qpv 8) A1)) G0)))
      (A2 (D9 (F5 (K := K) rfl PySem.F.plainAttrs_list PySem.F.slot_list_append PySem.F.type_list_append D5 (qpv 4) (A0 (qpv 8) A1)))
      (A7 (D9 (F5 (K := K) rfl PySem.F.plainAttrs_list PySem.F.slot_list_append PySem.F.type_list_append D5 (qpv 5) (A0 (qpv 7) A1)))))))))))
   (A2 (F7 (i := 9) rfl sc_Lpaper.nd rfl rfl (E7 (N' := ["_law_arcs", "_law_amounts", "_law_k"]) (cap := [some 4, some 5, none]) rfl rfl rfl rfl (by decide +kernel) rfl rfl) (E9 rfl T.z_range (A0 (B9 (C2 (K := K) rfl) (by rfl) T.z_len PySem.boot_len (A0 (qpv 4) A1)) A1)) (fun _ _ _ => (A9 (i := 2) (show (["_law_arcs", "_law_amounts", "_law_k"] : List Str).Nodup from by decide +kernel) rfl (Or.inl rfl) (Or.inr rfl))) (fun _ _ _ => G4) (fun _ _ _ => (C1 (A0 (A8 (A5 (K := K) rfl) (qpv 0) (qpv 2) (fun _ _ => rfl)) (A0 (A8 (A5 (K := K) rfl) (qpv 1) (qpv 2) (fun _ _ => rfl)) A1)))) rfl)
   (A2 (B3 (i := 10) sc_Lpaper.nd rfl (Or.inl rfl) (A6 (C7 (K := K) T) hr.mo rfl T.m_Ltake T.F_Ltake.kp (D1 T) .nil B5 (A0 (qpv 3) (A0 (C5 G5 (B9 (C2 (K := K) rfl) (by rfl) T.z_len PySem.boot_len (A0 (qpv 9) A1)) A3) A1))))
   (A7 (C0 (C5 (Q4 (K := K) rfl) (N1 (R9 (K := K) rfl) (qpv 9) (P1 (qpv 10)) P2) (N1 (R9 (K := K) rfl) (qpv 9) P2 (P1 (qpv 10)))))))))))))), ?_⟩
 haveI := T.c2_NOUGHT
 haveI := T.c2_ONE
 refine Pu.G3 h ?_
 rintro as Qp ⟨n, xs, vs, us, ns, at_, rfl, at0, at1, ok, k⟩
 refine hd fun R hR => ?_
 trivial
 refine ⟨ns, _, rfl, at0, at1, ?_⟩
 trivial
 subst hR
 refine hd fun R hR => ?_
 trivial
 refine ⟨7919, rfl, by decide, J9 (B := 7919) (by omega) (by omega) (by decide), fun d d0 d1 => ?_⟩
 trivial
 subst hR
 trivial
 refine ⟨6, rfl, by decide, sm4 6, fun d d0 d1 => ?_⟩
 trivial
 obtain ⟨tz, hz, etz⟩ := A96 (xs := [0, 1, 1, 2, 3, 4]) d0 d1
 have tz0 : 0 <= tz /\ tz <= 4 := by
  simp only [List.mem_cons, List.not_mem_nil, or_false] at hz
  omega
 refine E8 etz ?_
 trivial
 refine ⟨by omega, ?_⟩
 refine N6 (fun i e => ∃ (ar : List (Str × Int)) (am : LQ) (o6 o7 o8 : Option SV), e = [some (.d (shD xs vs us)), some (.bor (ns.map .int)), some (.d (.int at_)), some .st, some (.own (ar.map qD)), some (.own (am.map dq)), o6, o7, o8, none, none] /\ ar.length = am.length /\ ar.length <= 12 * i /\ (∀ a ∈ ar, ArOk n vs.length us.length a) /\ ∀ q ∈ am, On LL ((12 * i) * 2 ^ 45) q) ⟨[], [], _, _, _, rfl, rfl, Nat.zero_le _, (fun _ z => nomatch z), fun _ z => nomatch z⟩ ?_ ?_
 ·rintro i e hi ⟨ar, am, o6, o7, o8, rfl, hl, h12, ha, hm⟩
  trivial
  refine ⟨n, xs, vs, us, rfl, ok, fun q qp oq => ?_⟩
  trivial
  refine ⟨n, xs, vs, us, rfl, ok, fun wa lw hw => ?_⟩
  trivial
  refine K2 (f := qD) (xs := wa) (fun j e => ∃ (ar : List (Str × Int)) (am : LQ) (o6 o8 : Option SV), e = [some (.d (shD xs vs us)), some (.bor (ns.map .int)), some (.d (.int at_)), some .st, some (.own (ar.map qD)), some (.own (am.map dq)), o6, some (.d (dq q)), o8, none, none] /\ ar.length = am.length /\ ar.length <= 12 * i + j /\ (∀ a ∈ ar, ArOk n vs.length us.length a) /\ ∀ q ∈ am, On LL ((12 * i + j) * 2 ^ 45) q) ⟨ar, am, _, _, rfl, hl, h12, ha, hm⟩ ?_ ?_
  ·rintro j w e hj ⟨ar, am, o6, o8, rfl, hl, h12, ha, hm⟩
   have hjl : j < wa.length := (List.getElem?_eq_some_iff.mp hj).1
   have hwk := hw w (List.mem_of_getElem? hj)
   trivial
   refine ⟨Y4 ha, hwk.lay, A2x w, ?_⟩
   refine ite2 (fun hy => ?_) (fun hy => ?_)
   ·obtain ⟨p, hp, pl⟩ := B4u hy
    rw [List.length_map] at pl
    obtain ⟨b, eb⟩ : ∃ a, am[p]? = some a := ⟨_, List.getElem?_eq_getElem (by omega)⟩
    have ob := hm b (List.mem_of_getElem? eb)
    have L : PyData.canLayAll0 (ar.map qD) = true /\ (qD w).canLay0 = true /\ (qD w).depth <= 60 /\ ar.length <= 1000 := ⟨Y4 ha, hwk.lay, A2x w, by omega⟩
    refine ⟨L.1, L.2.1, L.2.2.1, L.2.2.2, p, hp, ?_⟩
    refine B6 eb ?_
    trivial
    refine ⟨b, q, rfl, (ob.mono (Nat.le_trans (Nat.mul_le_mul_right _ (show _ <= 64 by omega)) (Nat.le_of_ble_eq_true rfl)) : On LL (2 ^ 51) b).q D2 (by decide +kernel) (by decide +kernel), oq.q D2 (by decide +kernel) (by decide +kernel), ?_⟩
    trivial
    refine ⟨L.1, L.2.1, L.2.2.1, L.2.2.2, p, hp, p, N5 (o := (p : Int)) (by omega) (by omega), ar, am.set p (b + q), _, _, by rw [List.map_set], by rw [List.length_set]; exact hl, by omega, ha, fun r h => ?_⟩
    rcases List.mem_or_eq_of_mem_set h with z | z
    ·exact (hm r z).mono (Nat.mul_le_mul_right _ (by omega))
    ·rw [z]; exact O5 D2 ob oq
   ·trivial
    refine ⟨by omega, by omega, ar ++ [w], am ++ [q], _, _, by rw [List.map_append, List.map_append]; rfl, by rw [List.length_append, List.length_append, hl]; rfl, by rw [List.length_append, List.length_singleton]; omega, fun a h => ?_, fun r h => ?_⟩
    ·rcases List.mem_append.mp h with z | z
     ·exact ha a z
     ·rw [List.mem_singleton.mp z]; exact hwk
    ·rcases List.mem_append.mp h with z | z
     ·exact (hm r z).mono (Nat.mul_le_mul_right _ (by omega))
     ·rw [List.mem_singleton.mp z]; exact oq.mono (Nat.le_mul_of_pos_left _ (by omega))
  ·rintro e ⟨ar, am, o6, o8, rfl, hl, h12, ha, hm⟩
   first | rw [List.length_map] at h12 hm | skip
   exact ⟨ar, am, _, _, _, rfl, hl, by omega, ha, fun r h => (hm r h).mono (Nat.mul_le_mul_right _ (by omega))⟩
 ·rintro e ⟨ar, am, o6, o7, o8, rfl, hl, h12, ha, hm⟩
  have l48 : ar.length <= 48 := by omega
  trivial
  refine ⟨by omega, by rw [G8]; omega, ?_⟩
  refine M6 (fun i e ys => ∃ (ps : List ((Str × Int) × Rat)) (o : Option SV), e = [some (.bor (ar.map qD)), some (.bor (am.map dq)), o] /\ ys = ps.map paD /\ ps.length <= i /\ ∀ p ∈ ps, ArOk n vs.length us.length p.1 /\ On LL (2 ^ 51) p.2) ⟨[], _, rfl, rfl, Nat.zero_le _, fun _ z => nomatch z⟩ ?_ ?_
  ·rintro i e ys hi ⟨ps, o, rfl, rfl, hp, hps⟩
   obtain ⟨a, ea⟩ : ∃ a, ar[i]? = some a := ⟨_, List.getElem?_eq_getElem (by omega)⟩
   obtain ⟨b, eb⟩ : ∃ a, am[i]? = some a := ⟨_, List.getElem?_eq_getElem (by omega)⟩
   trivial
   refine B6 ea ?_
   trivial
   refine B6 eb ?_
   trivial
   refine ⟨ps ++ [(a, b)], _, rfl, by rw [List.map_append]; rfl, by rw [List.length_append, List.length_singleton]; omega, fun p h => ?_⟩
   rcases List.mem_append.mp h with z | z
   ·exact hps p z
   ·rw [List.mem_singleton.mp z]
    exact ⟨ha a (List.mem_of_getElem? ea), (hm b (List.mem_of_getElem? eb)).mono (Nat.le_trans (Nat.mul_le_mul_right _ (show _ <= 64 by omega)) (Nat.le_of_ble_eq_true rfl))⟩
  ·rintro e ys ⟨ps, o, rfl, rfl, hp, hps⟩
   trivial
   refine ⟨(ps.length : Int) + 1, by simp, by omega, J9 (B := 50) (by omega) (by omega) (by decide), fun c c0 c1 => ?_⟩
   trivial
   obtain ⟨u, rfl⟩ := Int.eq_ofNat_of_zero_le c0
   have hu : u <= ps.length := by omega
   rw [B8b hu, B2j hu, <- List.map_append]
   refine ⟨by rw [List.length_map, List.length_map, List.length_drop, List.length_take]; omega, k _ (by rw [List.length_append, List.length_drop, List.length_take]; omega) fun p h => ?_⟩
   rcases List.mem_append.mp h with z | z
   ·exact hps p (List.mem_of_mem_drop z)
   ·exact hps p (List.mem_of_mem_take z)
def A5s : Pu.PSp := fun as Q => ∃ (n : Nat) (xs : List Wk) (vs : List (Int × Int)) (us : List (Str × Int)) (ps : List ((Str × Int) × Rat)), as = [.d (shD xs vs us), .bor (ps.map paD)] /\ ShOk n xs vs us /\ ps.length <= 48 /\ (∀ p ∈ ps, ArOk n vs.length us.length p.1 /\ On LL (2 ^ 51) p.2) /\ ∀ is os : LQ, is.length = n -> os.length = n -> (∀ q ∈ is, On LL (2 ^ 57) q) -> (∀ q ∈ os, On LL (2 ^ 57) q) -> Q (.d (.tuple [.list (is.map dq), .list (os.map dq)]))
theorem A61 (T : Txt K mg D) : FnOk P w K mg base CX0 3 D.a_Lflows D.d_Lflows ["_law_net", "_law_paper_here"] (Pu.spOf K [.dat, .vw] A5s) := by
 refine T.F_Lflows.ok sc_Lflows (Pu.spOf.len rfl) (fun cdv A outer s H vs Q E hr h => ?_)
 refine ⟨_, (QSs.out (A2 (E6 (N1 (B20 (K := K) rfl) (qpv 0) P2 (P1 A3)) (C9 (K := K) (n := 3) rfl rfl (B2 (A9 (i := 2) sc_Lflows.nd rfl (Or.inl rfl) (Or.inl rfl)) (B2 (A9 (i := 3) sc_Lflows.nd rfl (Or.inl rfl) (Or.inl rfl)) (B2 (A9 (i := 4) sc_Lflows.nd rfl (Or.inl rfl) (Or.inl rfl)) C8))) rfl rfl))
   (A2 (F7 (i := 5) rfl sc_Lflows.nd rfl rfl (E7 (N' := ["_law_work"]) (cap := [none]) rfl rfl rfl rfl (by decide +kernel) rfl rfl) (F2 (K := K) rfl (qpv 2)) (fun _ _ _ => (A9 (i := 0) (show (["_law_work"] : List Str).Nodup from by decide +kernel) rfl (Or.inl rfl) (Or.inr rfl))) (fun _ _ _ => G4) (fun _ _ _ => (C1 (A0 A3 (A0 A3 A1)))) rfl)
   (A2 (F7 (i := 6) rfl sc_Lflows.nd rfl rfl (E7 (N' := ["_law_work"]) (cap := [none]) rfl rfl rfl rfl (by decide +kernel) rfl rfl) (F2 (K := K) rfl (qpv 2)) (fun _ _ _ => (A9 (i := 0) (show (["_law_work"] : List Str).Nodup from by decide +kernel) rfl (Or.inl rfl) (Or.inr rfl))) (fun _ _ _ => G4) (fun _ _ _ => (C1 (A0 A3 (A0 A3 A1)))) rfl)
   (A2 (F0 PassesOwn.never rfl (F2 (K := K) rfl (qpv 1)) (C9 (K := K) (n := 2) rfl rfl (B2 (C9 (K := K) (n := 2) rfl rfl (B2 (A9 (i := 7) sc_Lflows.nd rfl (Or.inl rfl) (Or.inl rfl)) (B2 (A9 (i := 8) sc_Lflows.nd rfl (Or.inl rfl) (Or.inl rfl)) C8)) rfl rfl) (B2 (A9 (i := 9) sc_Lflows.nd rfl (Or.inl rfl) (Or.inl rfl)) C8)) rfl rfl)
    (A7 (D0 (B7 (D4 (K := K) rfl hr.units) (qpv 7) C6 (C4 _))
     (A7 (E6 (A6 (F3 (K := K) T) hr.mo rfl T.m_Lplus T.F_Lplus.kp (G2 T) .nil B5 (A0 (A8 (A5 (K := K) rfl) (qpv 5) (qpv 8) (fun _ _ => rfl)) (A0 (qpv 9) A1))) (K0 (qpv 5) (qpv 8) G0)))
     (A7 (D0 (B7 (D4 (K := K) rfl hr.units) (qpv 7) C6 (C4 _))
      (A7 (E6 (A6 (F3 (K := K) T) hr.mo rfl T.m_Lplus T.F_Lplus.kp (G2 T) .nil B5 (A0 (A8 (A5 (K := K) rfl) (qpv 6) (qpv 8) (fun _ _ => rfl)) (A0 (qpv 9) A1))) (K0 (qpv 6) (qpv 8) G0)))
      (A7 (D0 (B7 (D4 (K := K) rfl hr.units) (qpv 7) C6 (C4 _))
       (A2 (E6 (A6 (F3 (K := K) T) hr.mo rfl T.m_Lplus T.F_Lplus.kp (G2 T) .nil B5 (A0 (A8 (A5 (K := K) rfl) (qpv 6) (A8 (A5 (K := K) rfl) (A8 (A5 (K := K) rfl) (qpv 3) (qpv 8) (fun _ _ => rfl)) A3 (fun _ _ => rfl)) (fun _ _ => rfl)) (A0 (qpv 9) A1))) (K0 (qpv 6) (A8 (A5 (K := K) rfl) (A8 (A5 (K := K) rfl) (qpv 3) (qpv 8) (fun _ _ => rfl)) A3 (fun _ _ => rfl)) G0))
       (A7 (E6 (A6 (F3 (K := K) T) hr.mo rfl T.m_Lplus T.F_Lplus.kp (G2 T) .nil B5 (A0 (A8 (A5 (K := K) rfl) (qpv 5) (A8 (A5 (K := K) rfl) (A8 (A5 (K := K) rfl) (qpv 3) (qpv 8) (fun _ _ => rfl)) A3 (fun _ _ => rfl)) (fun _ _ => rfl)) (A0 (qpv 9) A1))) (K0 (qpv 5) (A8 (A5 (K := K) rfl) (A8 (A5 (K := K) rfl) (qpv 3) (qpv 8) (fun _ _ => rfl)) A3 (fun _ _ => rfl)) G0))))
       (A7 (D0 (B7 (D4 (K := K) rfl hr.units) (A8 (A5 (K := K) rfl) (A8 (A5 (K := K) rfl) (qpv 4) (qpv 8) (fun _ _ => rfl)) A3 (fun _ _ => rfl)) C6 (C4 _))
        (A7 (E6 (A6 (F3 (K := K) T) hr.mo rfl T.m_Lplus T.F_Lplus.kp (G2 T) .nil B5 (A0 (A8 (A5 (K := K) rfl) (qpv 6) (A8 (A5 (K := K) rfl) (A8 (A5 (K := K) rfl) (qpv 4) (qpv 8) (fun _ _ => rfl)) A3 (fun _ _ => rfl)) (fun _ _ => rfl)) (A0 (qpv 9) A1))) (K0 (qpv 6) (A8 (A5 (K := K) rfl) (A8 (A5 (K := K) rfl) (qpv 4) (qpv 8) (fun _ _ => rfl)) A3 (fun _ _ => rfl)) G0)))
        (A7 (D0 (B7 (D4 (K := K) rfl hr.units) (A8 (A5 (K := K) rfl) (A8 (A5 (K := K) rfl) (qpv 4) (qpv 8) (fun _ _ => rfl)) A3 (fun _ _ => rfl)) C6 (C4 _))
         (A7 (E6 (A6 (F3 (K := K) T) hr.mo rfl T.m_Lplus T.F_Lplus.kp (G2 T) .nil B5 (A0 (A8 (A5 (K := K) rfl) (qpv 5) (A8 (A5 (K := K) rfl) (A8 (A5 (K := K) rfl) (qpv 4) (qpv 8) (fun _ _ => rfl)) A3 (fun _ _ => rfl)) (fun _ _ => rfl)) (A0 (qpv 9) A1))) (K0 (qpv 5) (A8 (A5 (K := K) rfl) (A8 (A5 (K := K) rfl) (qpv 4) (qpv 8) (fun _ _ => rfl)) A3 (fun _ _ => rfl)) G0)))
         (A7 (E6 (A6 (F9 (K := K) T) hr.mo rfl T.m_Lminus T.F_Lminus.kp (G6 T) .nil B5 (A0 (A8 (A5 (K := K) rfl) (qpv 5) (A8 (A5 (K := K) rfl) (A8 (A5 (K := K) rfl) (qpv 4) (qpv 8) (fun _ _ => rfl)) A3 (fun _ _ => rfl)) (fun _ _ => rfl)) (A0 (qpv 9) A1))) (K0 (qpv 5) (A8 (A5 (K := K) rfl) (A8 (A5 (K := K) rfl) (qpv 4) (qpv 8) (fun _ _ => rfl)) A3 (fun _ _ => rfl)) G0))))))))))))))
   (A7 (C0 (C1 (A0 (qpv 5) (A0 (qpv 6) A1)))))))))), ?_⟩
 haveI := T.c2_NOUGHT
 haveI := T.c2_ONE
 refine Pu.G3 h ?_
 rintro as Qp ⟨n, xs, vs, us, ps, rfl, ok, l48, hp, k⟩
 have n0 := ok.n0
 have n1 := ok.n1
 have ln := ok.ln
 have vl := ok.vl
 have ul := ok.ul
 unfold shD
 refine hd fun R hR => ?_
 trivial
 refine ⟨_, 3, rfl, rfl, ?_⟩
 rw [show List.take 3 [PyData.list (xs.map kD), .list (vs.map pD), .list (us.map qD)] = [PyData.list (xs.map kD), .list (vs.map pD), .list (us.map qD)] from rfl]
 trivial
 subst hR
 refine hd fun R hR => ?_
 trivial
 refine ⟨by omega, K3 (f := kD) (xs := xs) (fun i e ys => ∃ o : Option SV, e = [o] /\ ys = (List.replicate i (0 : Rat)).map dq) ⟨_, rfl, rfl⟩ ?_ ?_⟩
 ·rintro i x e ys hx ⟨o, rfl, rfl⟩
  trivial
  exact ⟨_, rfl, by rw [<- List.map_cons, <- List.replicate_succ, List.replicate_succ', List.map_append]; rfl⟩
 rintro e ys ⟨o, rfl, rfl⟩
 rw [ln]
 trivial
 subst hR
 refine hd fun R hR => ?_
 trivial
 refine ⟨by omega, K3 (f := kD) (xs := xs) (fun i e ys => ∃ o : Option SV, e = [o] /\ ys = (List.replicate i (0 : Rat)).map dq) ⟨_, rfl, rfl⟩ ?_ ?_⟩
 ·rintro i x e ys hx ⟨o, rfl, rfl⟩
  trivial
  exact ⟨_, rfl, by rw [<- List.map_cons, <- List.replicate_succ, List.replicate_succ', List.map_append]; rfl⟩
 rintro e ys ⟨o, rfl, rfl⟩
 rw [ln]
 trivial
 subst hR
 trivial
 refine K2 (f := paD) (xs := ps) (fun i e => ∃ (is os : LQ) (o7 o8 o9 : Option SV), e = [some (.d (.tuple [.list (xs.map kD), .list (vs.map pD), .list (us.map qD)])), some (.bor (ps.map paD)), some (.d (.list (xs.map kD))), some (.d (.list (vs.map pD))), some (.d (.list (us.map qD))), some (.own (is.map dq)), some (.own (os.map dq)), o7, o8, o9] /\ (is.length = n /\ os.length = n) /\ (∀ q ∈ is, On LL (i * 2 ^ 51) q) /\ ∀ q ∈ os, On LL (i * 2 ^ 51) q) ⟨_, _, _, _, _, rfl, ⟨by simp, by simp⟩, (fun q h => by rw [List.eq_of_mem_replicate h]; exact On.zero.mono (Nat.zero_le _)), fun q h => by rw [List.eq_of_mem_replicate h]; exact On.zero.mono (Nat.zero_le _)⟩ ?_ ?_
 ·rintro i p e hpi ⟨is, os, o7, o8, o9, rfl, ⟨li, lo⟩, hi, ho⟩
  have hil : i < ps.length := (List.getElem?_eq_some_iff.mp hpi).1
  obtain ⟨⟨k0, ak⟩, oa⟩ := hp p (List.mem_of_getElem? hpi)
  obtain ⟨⟨wd, j⟩, a⟩ := p
  obtain ⟨m, rfl⟩ := Int.eq_ofNat_of_zero_le k0
  have sa : SmQ 3900 a := oa.q D2 (by decide +kernel) (by decide +kernel)
  have sb : ∀ {l : LQ}, (∀ q ∈ l, On LL (i * 2 ^ 51) q) -> ∀ q ∈ l, SmQ 3900 q := fun h q hq => ((h q hq).mono (Nat.le_trans (Nat.mul_le_mul_right _ (show i <= 64 by omega)) (Nat.le_refl _))).q D2 (by decide +kernel) (by decide +kernel)
  have up : ∀ {l : LQ} {z : Nat} {b : Rat}, (∀ q ∈ l, On LL (i * 2 ^ 51) q) -> On LL ((i + 1) * 2 ^ 51) b -> ∀ q ∈ l.set z b, On LL ((i + 1) * 2 ^ 51) q := fun h hb q hq => by
   rcases List.mem_or_eq_of_mem_set hq with z | z
   ·exact (h q z).mono (Nat.mul_le_mul_right _ (by omega))
   ·rw [z]; exact hb
  have up0 : ∀ {l : LQ}, (∀ q ∈ l, On LL (i * 2 ^ 51) q) -> ∀ q ∈ l, On LL ((i + 1) * 2 ^ 51) q := fun h q hq => (h q hq).mono (Nat.mul_le_mul_right _ (by omega))
  rw [show paD ((wd, (m : Int)), a) = PyData.tuple [.tuple [.str wd, .int (m : Int)], dq a] from rfl]
  trivial
  refine ⟨(ArOk.lay (a := (wd, (m : Int))) ⟨k0, ak⟩ |> fun z => by have z' : ((PyData.str wd).canLay0 && ((PyData.int (m : Int)).canLay0 && true)) = true := z; exact (Bool.and_eq_true_iff.mp z').1), by decide +kernel, ?_⟩
  rcases ak with ⟨e, hm⟩ | ⟨e, hm⟩ | ⟨e, hm⟩ | ⟨e, hm⟩
  ·have e' : wd = "start" := e
   subst e'
   refine ite2 (fun _ => ?_) (fun h => absurd (by decide +kernel) h)
   obtain ⟨b, eb⟩ : ∃ z, is[m]? = some z := ⟨_, List.getElem?_eq_getElem (by have : (m : Int) < (n : Int) := hm; omega)⟩
   refine B6 eb ?_
   trivial
   refine ⟨b, a, rfl, sb hi b (List.mem_of_getElem? eb), sa, ?_⟩
   trivial
   exact ⟨m, N5 (o := (m : Int)) (by omega) (by rw [li]; exact hm), is.set m (b + a), os, _, _, _, by rw [List.map_set], ⟨by rw [List.length_set]; exact li, lo⟩, up hi (O5 D2 (hi b (List.mem_of_getElem? eb)) oa), up0 ho⟩
  ·have e' : wd = "end" := e
   subst e'
   refine ite2 (fun h => absurd h (by decide +kernel)) (fun _ => ⟨by decide +kernel, by decide +kernel, ?_⟩)
   refine ite2 (fun _ => ?_) (fun h => absurd (by decide +kernel) h)
   obtain ⟨b, eb⟩ : ∃ z, os[m]? = some z := ⟨_, List.getElem?_eq_getElem (by have : (m : Int) < (n : Int) := hm; omega)⟩
   refine B6 eb ?_
   trivial
   refine ⟨b, a, rfl, sb ho b (List.mem_of_getElem? eb), sa, ?_⟩
   trivial
   exact ⟨m, N5 (o := (m : Int)) (by omega) (by rw [lo]; exact hm), is, os.set m (b + a), _, _, _, by rw [List.map_set], ⟨li, by rw [List.length_set]; exact lo⟩, up0 hi, up ho (O5 D2 (ho b (List.mem_of_getElem? eb)) oa)⟩
  ·have e' : wd = "wait" := e
   subst e'
   refine ite2 (fun h => absurd h (by decide +kernel)) (fun _ => ⟨by decide +kernel, by decide +kernel, ?_⟩)
   refine ite2 (fun h => absurd h (by decide +kernel)) (fun _ => ⟨by decide +kernel, by decide +kernel, ?_⟩)
   refine ite2 (fun _ => ?_) (fun h => absurd (by decide +kernel) h)
   obtain ⟨⟨v1, v2⟩, ev⟩ : ∃ z, vs[m]? = some z := ⟨_, List.getElem?_eq_getElem (by have : (m : Int) < (vs.length : Int) := hm; omega)⟩
   obtain ⟨⟨v10, v11⟩, v20, v21⟩ := ok.vk _ (List.mem_of_getElem? ev)
   obtain ⟨x, rfl⟩ := Int.eq_ofNat_of_zero_le v10
   obtain ⟨y, rfl⟩ := Int.eq_ofNat_of_zero_le v20
   have ed : pD ((x : Int), (y : Int)) = PyData.tuple [.int (x : Int), .int (y : Int)] := rfl
   obtain ⟨b, eb⟩ : ∃ z, os[x]? = some z := ⟨_, List.getElem?_eq_getElem (by have : (x : Int) < (n : Int) := v11; omega)⟩
   obtain ⟨d, edd⟩ : ∃ z, is[y]? = some z := ⟨_, List.getElem?_eq_getElem (by have : (y : Int) < (n : Int) := v21; omega)⟩
   refine B6 ev ?_
   rw [ed]
   trivial
   refine B6 eb ?_
   trivial
   refine ⟨b, a, rfl, sb ho b (List.mem_of_getElem? eb), sa, ?_⟩
   trivial
   refine B6 ev ?_
   rw [ed]
   trivial
   refine ⟨x, N5 (o := (x : Int)) (by omega) (by rw [lo]; exact v11), ?_⟩
   refine B6 ev ?_
   rw [ed]
   trivial
   refine B6 edd ?_
   trivial
   refine ⟨d, a, rfl, sb hi d (List.mem_of_getElem? edd), sa, ?_⟩
   trivial
   refine B6 ev ?_
   rw [ed]
   trivial
   exact ⟨y, N5 (o := (y : Int)) (by omega) (by rw [li]; exact v21), is.set y (d + a), os.set x (b + a), _, _, _, by rw [List.map_set, List.map_set], ⟨by rw [List.length_set]; exact li, by rw [List.length_set]; exact lo⟩, up hi (O5 D2 (hi d (List.mem_of_getElem? edd)) oa), up ho (O5 D2 (ho b (List.mem_of_getElem? eb)) oa)⟩
  ·have e' : wd = "hold" := e
   subst e'
   refine ite2 (fun h => absurd h (by decide +kernel)) (fun _ => ⟨by decide +kernel, by decide +kernel, ?_⟩)
   refine ite2 (fun h => absurd h (by decide +kernel)) (fun _ => ⟨by decide +kernel, by decide +kernel, ?_⟩)
   refine ite2 (fun h => absurd h (by decide +kernel)) (fun _ => ?_)
   obtain ⟨⟨kd, v2⟩, ev⟩ : ∃ z, us[m]? = some z := ⟨_, List.getElem?_eq_getElem (by have : (m : Int) < (us.length : Int) := hm; omega)⟩
   obtain ⟨uk, v20, v21⟩ := ok.uk _ (List.mem_of_getElem? ev)
   obtain ⟨y, rfl⟩ := Int.eq_ofNat_of_zero_le v20
   have ed : qD (kd, (y : Int)) = PyData.tuple [.str kd, .int (y : Int)] := rfl
   obtain ⟨b, eb⟩ : ∃ z, os[y]? = some z := ⟨_, List.getElem?_eq_getElem (by have : (y : Int) < (n : Int) := v21; omega)⟩
   obtain ⟨d, edd⟩ : ∃ z, is[y]? = some z := ⟨_, List.getElem?_eq_getElem (by have : (y : Int) < (n : Int) := v21; omega)⟩
   have ixi : ixN is.length (y : Int) = some y := N5 (o := (y : Int)) (by omega) (by rw [li]; exact v21)
   have ixo : ixN os.length (y : Int) = some y := N5 (o := (y : Int)) (by omega) (by rw [lo]; exact v21)
   have uk' : Hk kd := uk
   refine B6 ev ?_
   rw [ed]
   trivial
   refine ⟨uk'.lay, by decide +kernel, ?_⟩
   refine ite2 (fun _ => ?_) (fun _ => ?_)
   ·refine B6 ev ?_
    rw [ed]
    trivial
    refine B6 eb ?_
    trivial
    refine ⟨b, a, rfl, sb ho b (List.mem_of_getElem? eb), sa, ?_⟩
    trivial
    refine B6 ev ?_
    rw [ed]
    trivial
    exact ⟨y, ixo, is, os.set y (b + a), _, _, _, by rw [List.map_set], ⟨li, by rw [List.length_set]; exact lo⟩, up0 hi, up ho (O5 D2 (ho b (List.mem_of_getElem? eb)) oa)⟩
   ·refine B6 ev ?_
    rw [ed]
    trivial
    refine ⟨uk'.lay, by decide +kernel, ?_⟩
    refine ite2 (fun _ => ?_) (fun _ => ?_)
    ·refine B6 ev ?_
     rw [ed]
     trivial
     refine B6 edd ?_
     trivial
     refine ⟨d, a, rfl, sb hi d (List.mem_of_getElem? edd), sa, ?_⟩
     trivial
     refine B6 ev ?_
     rw [ed]
     trivial
     exact ⟨y, ixi, is.set y (d + a), os, _, _, _, by rw [List.map_set], ⟨by rw [List.length_set]; exact li, lo⟩, up hi (O5 D2 (hi d (List.mem_of_getElem? edd)) oa), up0 ho⟩
    ·refine B6 ev ?_
     rw [ed]
     trivial
     refine B6 edd ?_
     trivial
     refine ⟨d, a, rfl, sb hi d (List.mem_of_getElem? edd), sa, ?_⟩
     trivial
     refine B6 ev ?_
     rw [ed]
     trivial
     exact ⟨y, ixi, is.set y (d - a), os, _, _, _, by rw [List.map_set], ⟨by rw [List.length_set]; exact li, lo⟩, up hi (((hi d (List.mem_of_getElem? edd)).sub D2 oa).mono (by rw [Nat.add_mul, Nat.one_mul]; exact Nat.le_refl _)), up0 ho⟩
 ·rintro e ⟨is, os, o7, o8, o9, rfl, ⟨li, lo⟩, hi, ho⟩
  trivial
  have f : ∀ {l : LQ}, (∀ q ∈ l, On LL (ps.length * 2 ^ 51) q) -> ∀ q ∈ l, On LL (2 ^ 57) q := fun h q hq => (h q hq).mono (Nat.le_trans (Nat.mul_le_mul_right _ (show ps.length <= 64 by omega)) (Nat.le_of_ble_eq_true rfl))
  exact k is os li lo (f hi) (f ho)
def A5r : Pu.PSp := fun as Q => ∃ (kd : Str) (cs : LR) (r : Rat), as = [.d (offD kd cs), .d (dq r)] /\ 1 <= cs.length /\ OnC cs /\ On LL (2 ^ 60) r /\ ∀ m, (∃ c ∈ cs, m = val r c) -> (∀ c ∈ cs, ¬ val r c < m) -> Q (.d (dq m))
theorem A60 (T : Txt K mg D) : FnOk P w K mg base CX0 3 D.a_Lleast D.d_Lleast ["_law_offer_here", "_law_rate_here"] (Pu.spOf K [.dat, .dat] A5r) := by
 refine T.F_Lleast.ok sc_Lleast (Pu.spOf.len rfl) (fun cdv A outer s H vs Q E hr h => ?_)
 refine ⟨_, (QSs.out (A2 (B3 (i := 2) sc_Lleast.nd rfl (Or.inl rfl) G7)
   (A2 (F0 PassesOwn.never rfl (F2 (K := K) rfl (A8 (A5 (K := K) rfl) (qpv 0) A3 (fun _ _ => rfl))) (C9 (K := K) (n := 2) rfl rfl (B2 (A9 (i := 3) sc_Lleast.nd rfl (Or.inl rfl) (Or.inl rfl)) (B2 (A9 (i := 4) sc_Lleast.nd rfl (Or.inl rfl) (Or.inl rfl)) C8)) rfl rfl)
    (A2 (B3 (i := 5) sc_Lleast.nd rfl (Or.inl rfl) (A6 (F3 (K := K) T) hr.mo rfl T.m_Lplus T.F_Lplus.kp (G2 T) .nil B5 (A0 (qpv 4) (A0 (A6 (P8 (K := K) T) hr.mo rfl T.m_Ltimes T.F_Ltimes.kp (S7 T) .nil B5 (A0 (qpv 1) (A0 (qpv 3) A1))) A1))))
    (A7 (D0 (QW.pt (M1 (B7 A1y (qpv 2) G7 (C4 _)) (M3 (F8 (A6 (P7 (K := K) T) hr.mo rfl T.m_Lunder T.F_Lunder.kp (S6 T) .nil B5 (A0 (qpv 5) (A0 (qpv 2) A1)))))))
     (A7 (B3 (i := 2) sc_Lleast.nd rfl (Or.inl rfl) (qpv 5)))
     C3))))
   (A7 (C0 (qpv 2)))))), ?_⟩
 haveI := T.c2_NOUGHT
 haveI := T.c2_ONE
 refine Pu.G3 h ?_
 rintro as Qp ⟨kd, cs, r, rfl, n1, oc, orr, k⟩
 have sr : SmQ 3900 r := orr.q D2 (by decide +kernel) (by decide +kernel)
 have hv : ∀ c ∈ cs, SmQ 3900 c.1 /\ SmQ 3900 c.2 /\ SmQ 3900 (r * c.1) /\ SmQ 3900 (val r c) := fun c hc => by
  obtain ⟨o1, o2⟩ := oc c hc
  have om := orr.mul o1
  have ov := o2.add (Nat.mul_pos D2 D2) om
  exact ⟨o1.q D2 (by decide +kernel) (by decide +kernel), o2.q (Nat.mul_pos D2 D2) (by decide +kernel) (by decide +kernel), om.q (Nat.mul_pos D2 D2) (by decide +kernel) (by decide +kernel), ov.q (Nat.mul_pos D2 D2) (by decide +kernel) (by decide +kernel)⟩
 unfold offD
 trivial
 refine K2 (f := dcn) (xs := cs) (fun i e => ∃ (o : Option Rat) (o3 o4 o5 : Option SV), e = [some (.d (.tuple [.str kd, .list (cs.map dcn)])), some (.d (dq r)), some (.d (vD o)), o3, o4, o5] /\ (o = none -> i = 0) /\ ∀ m, o = some m -> (∃ c ∈ cs, m = val r c) /\ ∀ j c, j < i -> cs[j]? = some c -> ¬ val r c < m) ⟨none, _, _, _, rfl, fun _ => rfl, fun _ z => nomatch z⟩ ?_ ?_
 ·rintro i c e hc ⟨o, o3, o4, o5, rfl, h0, h1⟩
  have hcm := List.mem_of_getElem? hc
  obtain ⟨s1, s2, s3, s4⟩ := hv c hcm
  trivial
  refine ⟨r, c.1, rfl, sr, s1, ?_⟩
  trivial
  refine ⟨c.2, r * c.1, rfl, s2, s3, ?_⟩
  trivial
  rcases o with _ | m
  ·trivial
   refine ⟨some (val r c), _, _, _, rfl, (fun z => nomatch z), fun m hm => ?_⟩
   cases hm
   refine ⟨⟨c, hcm, rfl⟩, fun j d hj hd => ?_⟩
   have : j = i := by have := h0 rfl; omega
   subst this
   rw [hc] at hd; cases hd
   exact Rat.lt_irrefl
  ·trivial
   obtain ⟨⟨d, hd, em⟩, b⟩ := h1 m rfl
   refine ite2 (fun h => absurd h (by show ¬ isNo (dq m) = true; exact fun z => nomatch z)) (fun _ => ?_)
   refine ⟨val r c, m, rfl, s4, by rw [em]; exact (hv d hd).2.2.2, ?_⟩
   trivial
   have up : ∀ m', ¬ val r c < m' -> m' <= m -> ∀ j c', j < i + 1 -> cs[j]? = some c' -> ¬ val r c' < m' := fun m' u v j c' hj e' => by
    by_cases hji : j = i
    ·subst hji
     rw [hc] at e'; cases e'; exact u
    ·have := b j c' (by omega) e'
     grind
   refine ite2 (fun h => ?_) (fun h => ?_)
   ·exact ⟨some (val r c), _, _, _, rfl, (fun z => nomatch z), fun m' hm => by cases hm; exact ⟨⟨c, hcm, rfl⟩, up _ Rat.lt_irrefl (by grind)⟩⟩
   ·exact ⟨some m, _, _, _, rfl, (fun z => nomatch z), fun m' hm => by cases hm; exact ⟨⟨d, hd, em⟩, up _ h Rat.le_refl⟩⟩
 ·rintro e ⟨o, o3, o4, o5, rfl, h0, h1⟩
  try rw [List.length_map] at h0 h1
  rcases o with _ | m
  ·have := h0 rfl; omega
  ·trivial
   obtain ⟨a, b⟩ := h1 m rfl
   exact k m a fun c hc => by
    obtain ⟨j, hj, e⟩ := List.getElem_of_mem hc
    exact b j c hj (by rw [<- e]; exact List.getElem?_eq_getElem hj)
def A9j : Pu.PSp := fun as Q => ∃ (kd : Str) (cs : LR) (r : Rat), as = [.d (offD kd cs), .d (dq r), .st] /\ Kd kd /\ OfOk cs 100 54 244 130 /\ OnC cs /\ On LL (2 ^ 60) r /\ ∀ t, On (LL * 4) (2 ^ 50) t -> Off kd cs t -> Q (.d (dq t))
theorem A9w (T : Txt K mg D) : FnOk P w K mg base CX0 4 D.a_Ltime D.d_Ltime ["_law_offer_here", "_law_amount_here", "_law_own"] (Pu.spOf K [.dat, .dat, .st] A9j) := by
 refine T.F_Ltime.ok sc_Ltime (Pu.spOf.len rfl) (fun cdv A outer s H vs Q E hr h => ?_)
 refine ⟨_, (QSs.out (A2 (E6 (qpv 0) (C9 (K := K) (n := 2) rfl rfl (B2 (A9 (i := 3) sc_Ltime.nd rfl (Or.inl rfl) (Or.inl rfl)) (B2 (A9 (i := 4) sc_Ltime.nd rfl (Or.inl rfl) (Or.inl rfl)) C8)) rfl rfl))
   (A2 (B3 (i := 5) sc_Ltime.nd rfl (Or.inr rfl) (A6 (A60 (K := K) T) hr.mo rfl T.m_Lleast T.F_Lleast.kp (B0t T) .nil B5 (A0 (qpv 0) (A0 (qpv 1) A1))))
   (A2 (F7 (i := 6) rfl sc_Ltime.nd rfl rfl (E7 (N' := ["_law_due", "_law_amount_here", "_law_time_here", "_law_price"]) (cap := [some 5, some 1, none, none]) rfl rfl rfl rfl (by decide +kernel) rfl rfl) (F2 (K := K) rfl (qpv 4)) (fun _ _ _ => (C9 (K := K) (n := 2) rfl rfl (B2 (A9 (i := 2) (show (["_law_due", "_law_amount_here", "_law_time_here", "_law_price"] : List Str).Nodup from by decide +kernel) rfl (Or.inl rfl) (Or.inr rfl)) (B2 (A9 (i := 3) (show (["_law_due", "_law_amount_here", "_law_time_here", "_law_price"] : List Str).Nodup from by decide +kernel) rfl (Or.inl rfl) (Or.inr rfl)) C8)) rfl rfl)) (fun _ _ _ => (S1 (B7 (D4 (K := K) rfl hr.units) (A6 (F3 (K := K) T) hr.mo rfl T.m_Lplus T.F_Lplus.kp (G2 T) .nil B5 (A0 (qpv 3) (A0 (A6 (P8 (K := K) T) hr.mo rfl T.m_Ltimes T.F_Ltimes.kp (S7 T) .nil B5 (A0 (qpv 1) (A0 (qpv 2) A1))) A1))) (qpv 0) (C4 _)))) (fun _ _ _ => (qpv 2)) rfl)
   (A2 (B3 (i := 7) sc_Ltime.nd rfl (Or.inl rfl) (A6 (C7 (K := K) T) hr.mo rfl T.m_Ltake T.F_Ltake.kp (D1 T) .nil B5 (A0 (qpv 2) (A0 A3 A1))))
   (A2 (B3 (i := 8) sc_Ltime.nd rfl (Or.inl rfl) (A6 (C7 (K := K) T) hr.mo rfl T.m_Ltake T.F_Ltake.kp (D1 T) .nil B5 (A0 (qpv 2) (A0 (B9 (C2 (K := K) rfl) (by rfl) T.z_len PySem.boot_len (A0 (qpv 4) A1)) A1))))
   (A2 (D0 (B7 T4 (qpv 7) A3 (C4 _))
    (A7 (C0 (A8 (A5 (K := K) rfl) (qpv 6) (A6 (C7 (K := K) T) hr.mo rfl T.m_Ltake T.F_Ltake.kp (D1 T) .nil B5 (A0 (qpv 2) (A0 (B9 (C2 (K := K) rfl) (by rfl) T.z_len PySem.boot_len (A0 (qpv 6) A1)) A1))) (fun _ _ => rfl))))
    C3)
   (A2 (D0 (QW.pt (M1 (B7 (D4 (K := K) rfl hr.units) (qpv 7) A3 (C4 _)) (M1 (B7 (D4 (K := K) rfl hr.units) (qpv 3) C6 (C4 _)) (M3 (B7 (D4 (K := K) rfl hr.units) (qpv 8) A3 (C4 _))))))
    (A7 (C0 (A8 (A5 (K := K) rfl) (A8 (A5 (K := K) rfl) (qpv 4) (qpv 8) (fun _ _ => rfl)) A3 (fun _ _ => rfl))))
    C3)
   (A2 (B3 (i := 9) sc_Ltime.nd rfl (Or.inl rfl) (A6 (F9 (K := K) T) hr.mo rfl T.m_Lminus T.F_Lminus.kp (G6 T) .nil B5 (A0 (A8 (A5 (K := K) rfl) (A8 (A5 (K := K) rfl) (qpv 4) (C5 T3 (qpv 8) A3) (fun _ _ => rfl)) A3 (fun _ _ => rfl)) (A0 (A8 (A5 (K := K) rfl) (A8 (A5 (K := K) rfl) (qpv 4) (qpv 8) (fun _ _ => rfl)) A3 (fun _ _ => rfl)) A1))))
   (A7 (C0 (A6 (F3 (K := K) T) hr.mo rfl T.m_Lplus T.F_Lplus.kp (G2 T) .nil B5 (A0 (A8 (A5 (K := K) rfl) (A8 (A5 (K := K) rfl) (qpv 4) (qpv 8) (fun _ _ => rfl)) A3 (fun _ _ => rfl)) (A0 (A6 (P8 (K := K) T) hr.mo rfl T.m_Ltimes T.F_Ltimes.kp (S7 T) .nil B5 (A0 (qpv 9) (A0 (A6 (O6 (K := K) T) hr.mo rfl T.m_Llow T.F_Llow.kp (U4 T) .nil B5 (A0 (C5 G5 A3 (A6 (C7 (K := K) T) hr.mo rfl T.m_Ltake T.F_Ltake.kp (D1 T) .nil B5 (A0 (qpv 2) (A0 A3 A1)))) (A0 A3 A1))) A1))) A1)))))))))))))), ?_⟩
 haveI := T.c2_NOUGHT
 haveI := T.c2_ONE
 refine Pu.G3 h ?_
 rintro as Qp ⟨kd, cs, r, rfl, hk, ok, oc, orr, k⟩
 have n1 := ok.ne
 have n5 := ok.le
 have hv : ∀ c ∈ cs, SmQ 3900 c.1 /\ SmQ 3900 c.2 /\ SmQ 3900 (r * c.1) /\ SmQ 3900 (val r c) := fun c hc => by
  obtain ⟨o1, o2⟩ := oc c hc
  have om := orr.mul o1
  have ov := o2.add (Nat.mul_pos D2 D2) om
  exact ⟨o1.q D2 (by decide +kernel) (by decide +kernel), o2.q (Nat.mul_pos D2 D2) (by decide +kernel) (by decide +kernel), om.q (Nat.mul_pos D2 D2) (by decide +kernel) (by decide +kernel), ov.q (Nat.mul_pos D2 D2) (by decide +kernel) (by decide +kernel)⟩
 have sr : SmQ 3900 r := orr.q D2 (by decide +kernel) (by decide +kernel)
 have kc : ∀ (i : Nat) c, cs[i]? = some c -> Qp (.d (dq c.1)) := fun i c ec => k c.1 (((oc c (List.mem_of_getElem? ec)).1.up (by decide)).p2 (by decide)) (A4f hk ok.dec n1 ec)
 unfold offD
 refine hd fun R hR => ?_
 trivial
 subst hR
 refine hd fun R hR => ?_
 trivial
 refine ⟨kd, cs, r, rfl, n1, oc, orr, fun m hm1 hm2 => ?_⟩
 trivial
 subst hR
 refine hd fun R hR => ?_
 trivial
 refine ⟨by omega, K3 (f := dcn) (xs := cs) (fun i e ys => ∃ (ts : LQ) (o2 o3 : Option SV), e = [some (.d (dq m)), some (.d (dq r)), o2, o3] /\ ys = ts.map dq /\ ts.length <= i /\ (∀ t ∈ ts, ∃ (j : Nat) (c : Rat × Rat), cs[j]? = some c /\ c.1 = t) /\ ∀ j c, j < i -> cs[j]? = some c -> m = val r c -> ts ≠ []) ⟨[], _, _, rfl, rfl, Nat.zero_le _, (fun _ z => nomatch z), fun _ _ z => absurd z (Nat.not_lt_zero _)⟩ ?_ ?_⟩
 ·rintro i c e ys hc ⟨ts, o2, o3, rfl, rfl, hl, ht, hne⟩
  obtain ⟨s1, s2, s3, s4⟩ := hv c (List.mem_of_getElem? hc)
  trivial
  refine ⟨r, c.1, rfl, sr, s1, ?_⟩
  trivial
  refine ⟨c.2, r * c.1, rfl, s2, s3, ?_⟩
  trivial
  refine ite2 (fun h => ?_) (fun h => ?_)
  ·refine ⟨ts ++ [c.1], _, _, rfl, by rw [List.map_append]; rfl, by rw [List.length_append, List.length_singleton]; omega, fun t h => ?_, fun _ _ _ _ _ => by simp⟩
   rcases List.mem_append.mp h with z | z
   ·exact ht t z
   ·exact ⟨i, c, hc, (List.mem_singleton.mp z).symm⟩
  ·refine ⟨ts, _, _, rfl, rfl, by omega, ht, fun j d hj ed em => ?_⟩
   by_cases hji : j = i
   ·subst hji
    rw [hc] at ed; cases ed
    exact absurd em.symm h
   ·exact hne j d (by omega) ed em
 ·rintro e ys ⟨ts, o2, o3, rfl, rfl, hl, ht, hne⟩
  trivial
  subst hR
  have tp : 0 < ts.length := by
   obtain ⟨c, hc, em⟩ := hm1
   obtain ⟨j, hj, e⟩ := List.getElem_of_mem hc
   exact List.length_pos_iff.mpr (hne j c (by simpa using hj) (by rw [<- e]; exact List.getElem?_eq_getElem hj) em)
  have tl : ts.length <= 5 := by omega
  trivial
  refine ⟨5, rfl, by decide, sm4 5, fun y y0 y1 => ?_⟩
  trivial
  refine ⟨(cs.length : Int), by simp, by omega, J9 (B := 5) (by omega) (by omega) (by decide), fun a a0 a1 => ?_⟩
  trivial
  obtain ⟨p, rfl⟩ := Int.eq_ofNat_of_zero_le a0
  obtain ⟨c, ec⟩ : ∃ c, cs[p]? = some c := ⟨_, List.getElem?_eq_getElem (by omega)⟩
  refine ite2 (fun h => ?_) (fun h => ?_)
  ·refine ⟨(ts.length : Int), by simp, by omega, J9 (B := 5) (by omega) (by omega) (by decide), fun b b0 b1 => ?_⟩
   trivial
   obtain ⟨q, rfl⟩ := Int.eq_ofNat_of_zero_le b0
   obtain ⟨t, et⟩ : ∃ c, ts[q]? = some c := ⟨_, List.getElem?_eq_getElem (by omega)⟩
   refine B6 et ?_
   trivial
   obtain ⟨j, d, ed, e2⟩ := ht t (List.mem_of_getElem? et)
   rw [<- e2]; exact kc j d ed
  ·refine ite2 (fun _ => ?_) (fun _ => ⟨hk.lay, A7u, ite2 (fun _ => ?_) (fun hst => ite2 (fun _ => ?_) (fun hp0 => ?_))⟩)
   ·refine B6 ec ?_
    trivial
    exact kc p c ec
   ·refine B6 ec ?_
    trivial
    exact kc p c ec
   ·refine B6 ec ?_
    trivial
    exact kc p c ec
   obtain ⟨q, rfl⟩ : ∃ q, p = q + 1 := ⟨p - 1, by omega⟩
   obtain ⟨d, ed⟩ : ∃ c, cs[q]? = some c := ⟨_, List.getElem?_eq_getElem (by omega)⟩
   have hcd : c.1 < d.1 := ok.dec.get ed ec (Nat.lt_succ_self q)
   obtain ⟨sc, _⟩ := hv c (List.mem_of_getElem? ec)
   obtain ⟨sd, _⟩ := hv d (List.mem_of_getElem? ed)
   have o1 := (oc c (List.mem_of_getElem? ec)).1
   have og := (oc d (List.mem_of_getElem? ed)).1.sub2 (b := 46) D2 o1 (by decide)
   rw [show ((q + 1 : Nat) : Int) - 1 = (q : Int) by omega]
   refine B6 ed ?_
   trivial
   refine B6 (n := q + 1) ec ?_
   trivial
   refine ⟨d.1, c.1, rfl, sd, sc, ?_⟩
   trivial
   refine B6 (n := q + 1) ec ?_
   trivial
   refine ⟨3, rfl, by decide, sm4 3, fun u u0 u1 => ?_⟩
   trivial
   refine ⟨1 + u, 4, rfl, by decide, J9 (B := 5) (by omega) (by omega) (by decide), by unfold Sm; decide, ?_⟩
   trivial
   have o4 : On 4 1 (Rat.divInt (1 + u) 4) := ⟨1 + u, rfl, by omega⟩
   have om := og.mul o4
   rw [Nat.mul_one] at om
   refine ⟨d.1 - c.1, Rat.divInt (1 + u) 4, rfl, og.q D2 (by decide +kernel) (by decide +kernel), o4.q (by decide) (by decide +kernel) (by decide +kernel), ?_⟩
   trivial
   refine ⟨c.1, (d.1 - c.1) * Rat.divInt (1 + u) 4, rfl, sc, om.q (by decide) (by decide +kernel) (by decide +kernel), ?_⟩
   trivial
   have f := four (x := 1 + u) (by omega) (by omega)
   refine k _ (((o1.up (by decide)).p2 (b := 46) (by decide)).add2 (by decide) om (by decide)) (T8 (i := q) (j := q + 1) ok.dec (fun z => hst ?_) n1 ed ec ?_ ?_)
   ·rw [z]; exact B71
   ·have h2 : 0 <= (d.1 - c.1) * (1 - Rat.divInt (1 + u) 4) := Rat.mul_nonneg (by grind) (by grind)
    grind
   ·have h2 : 0 <= (d.1 - c.1) * Rat.divInt (1 + u) 4 := Rat.mul_nonneg (by grind) f.1
    grind
def A5m : Pu.PSp := fun as Q => ∃ (ns : List Int) (j : Int), as = [.bor (ns.map .int), .d (.int j)] /\ 0 <= j /\ j <= 100 /\ ∀ q : Rat, 0 <= q -> On LL (2 ^ 42) q -> Q (.d (dq q))
theorem A0q (T : Txt K mg D) : FnOk P w K mg base CX0 3 D.a_Lslack D.d_Lslack ["_law_script", "_law_k"] (Pu.spOf K [.vw, .dat] A5m) := by
 refine T.F_Lslack.ok sc_Lslack (Pu.spOf.len rfl) (fun cdv A outer s H vs Q E hr h => ?_)
 refine ⟨_, (QSs.out (A2 (B3 (i := 2) sc_Lslack.nd rfl (Or.inl rfl) (A6 (L0 (K := K) T) hr.mo rfl T.m_Lbegun T.F_Lbegun.kp (M7 T) .nil B5 (A0 (qpv 0) (A0 (C5 G5 A3 (qpv 1)) A1))))
   (A2 (D9 (A6 (C7 (K := K) T) hr.mo rfl T.m_Ltake T.F_Ltake.kp (D1 T) .nil B5 (A0 (qpv 2) (A0 A3 A1))))
   (A2 (B3 (i := 3) sc_Lslack.nd rfl (Or.inl rfl) (A6 (G9 (K := K) T) hr.mo rfl T.m_Lamount T.F_Lamount.kp (J8 T) .nil B5 (A0 (qpv 2) (A0 K7 (A0 A3 A1)))))
   (A2 (D0 (B7 T4 (A6 (C7 (K := K) T) hr.mo rfl T.m_Ltake T.F_Ltake.kp (D1 T) .nil B5 (A0 (qpv 2) (A0 A3 A1))) A3 (C4 _))
    (A7 (B3 (i := 3) sc_Lslack.nd rfl (Or.inl rfl) (C1 (A0 A3 (A0 A3 A1)))))
    C3)
   (A7 (C0 (qpv 3)))))))), ?_⟩
 haveI := T.c2_NOUGHT
 haveI := T.c2_ONE
 refine Pu.G3 h ?_
 rintro as Qp ⟨ns, j, rfl, j0, j1, k⟩
 trivial
 refine ⟨ns, _, rfl, by omega, by omega, ?_⟩
 trivial
 refine ⟨7907, rfl, by decide, J9 (B := 7907) (by omega) (by omega) (by decide), fun d d0 d1 => ?_⟩
 trivial
 refine ⟨_, _, rfl, .inr rfl, fun q q0 _ sq _ => ?_⟩
 trivial
 refine ⟨3, rfl, by decide, sm4 3, fun t t0 t1 => ?_⟩
 trivial
 exact ite2 (fun h => k 0 Rat.le_refl (On.zero.mono (Nat.zero_le _))) (fun h => k q q0 ((N3 sq).p2 (by decide)))
def A1w : Pu.PSp := fun as Q => ∃ (n : Nat) (xs : List Wk) (vs : List (Int × Int)) (us : List (Str × Int)) (ns : List Int) (pa : List ((Str × Int) × Rat)), as = [.d (shD xs vs us), .bor (ns.map .int), .bor (pa.map paD)] /\ ShOk n xs vs us /\ pa.length <= 48 /\ (∀ p ∈ pa, ArOk n vs.length us.length p.1 /\ On LL (2 ^ 51) p.2) /\ ∀ (ps : LR) (ws : LW) (hs : LH), ps.length = n -> (∀ p ∈ ps, 0 <= p.1 /\ On (LL * 4) (2 ^ 50) p.1 /\ On (LL * 4) (2 ^ 50) p.2) -> (∀ (i : Nat) x p, xs[i]? = some x -> ps[i]? = some p -> Off x.2.1 x.2.2 p.2) -> ws.map (fun w => (w.1, w.2.1)) = vs -> (∀ w ∈ ws, On (LL * 4) (2 ^ 55) w.2.2 /\ 0 <= wSl ps w) -> hs.map (fun h => (h.1, h.2.1)) = us -> (∀ h ∈ hs, On (LL * 4) (2 ^ 55) h.2.2 /\ 0 <= hSl ps h) -> Q (.d (.tuple [netD xs ws hs [], .list (ps.map dcn)]))
theorem A11 (T : Txt K mg D) : FnOk P w K mg base CX0 5 D.a_Lplanned D.d_Lplanned ["_law_shape_here", "_law_script", "_law_paper_here"] (Pu.spOf K [.dat, .vw, .vw] A1w) := by
 refine T.F_Lplanned.ok sc_Lplanned (Pu.spOf.len rfl) (fun cdv A outer s H vs Q E hr h => ?_)
 refine ⟨_, (QSs.out (A2 (E6 (qpv 0) (C9 (K := K) (n := 3) rfl rfl (B2 (A9 (i := 3) sc_Lplanned.nd rfl (Or.inl rfl) (Or.inl rfl)) (B2 (A9 (i := 4) sc_Lplanned.nd rfl (Or.inl rfl) (Or.inl rfl)) (B2 (A9 (i := 5) sc_Lplanned.nd rfl (Or.inl rfl) (Or.inl rfl)) C8))) rfl rfl))
   (A2 (B3 (i := 6) sc_Lplanned.nd rfl (Or.inl rfl) (A8 (A5 (K := K) rfl) (A6 (A61 (K := K) T) hr.mo rfl T.m_Lflows T.F_Lflows.kp (B0u T) .nil B5 (A0 (qpv 0) (A0 (qpv 2) A1))) A3 (fun _ _ => rfl)))
   (A2 (B3 (i := 7) sc_Lplanned.nd rfl (Or.inl rfl) (D3 A1))
   (A2 (F0 PassesOwn.never rfl (E9 rfl T.z_range (A0 (B9 (C2 (K := K) rfl) (by rfl) T.z_len PySem.boot_len (A0 (qpv 3) A1)) A1)) (A9 (i := 8) sc_Lplanned.nd rfl (Or.inl rfl) (Or.inl rfl))
    (A2 (B3 (i := 9) sc_Lplanned.nd rfl (Or.inl rfl) (A6 (L0 (K := K) T) hr.mo rfl T.m_Lbegun T.F_Lbegun.kp (M7 T) .nil B5 (A0 (qpv 1) (A0 (C5 G5 A3 (qpv 8)) A1))))
    (A2 (D9 (A6 (C7 (K := K) T) hr.mo rfl T.m_Ltake T.F_Ltake.kp (D1 T) .nil B5 (A0 (qpv 9) (A0 A3 A1))))
    (A2 (B3 (i := 10) sc_Lplanned.nd rfl (Or.inl rfl) (A6 (A9w (K := K) T) hr.mo rfl T.m_Ltime T.F_Ltime.kp (B5d T) .nil B5 (A0 (A8 (A5 (K := K) rfl) (A8 (A5 (K := K) rfl) (qpv 3) (qpv 8) (fun _ _ => rfl)) A3 (fun _ _ => rfl)) (A0 (A8 (A5 (K := K) rfl) (qpv 6) (qpv 8) (fun _ _ => rfl)) (A0 (qpv 9) A1)))))
    (A2 (B3 (i := 11) sc_Lplanned.nd rfl (Or.inl rfl) (A6 (G9 (K := K) T) hr.mo rfl T.m_Lamount T.F_Lamount.kp (J8 T) .nil B5 (A0 (qpv 9) (A0 K7 (A0 A3 A1)))))
    (A2 (D0 (B7 T4 (A6 (C7 (K := K) T) hr.mo rfl T.m_Ltake T.F_Ltake.kp (D1 T) .nil B5 (A0 (qpv 9) (A0 A3 A1))) A3 (C4 _))
     (A7 (B3 (i := 11) sc_Lplanned.nd rfl (Or.inl rfl) (C1 (A0 A3 (A0 A3 A1)))))
     C3)
    (A7 (D9 (F5 (K := K) rfl PySem.F.plainAttrs_list PySem.F.slot_list_append PySem.F.type_list_append D5 (qpv 7) (A0 (C1 (A0 (qpv 11) (A0 (qpv 10) A1))) A1))))))))))
   (A2 (F7 (i := 12) rfl sc_Lplanned.nd rfl rfl (E7 (N' := ["_law_start", "_law_time_here"]) (cap := [none, none]) rfl rfl rfl rfl (by decide +kernel) rfl rfl) (F2 (K := K) rfl (qpv 7)) (fun _ _ _ => (C9 (K := K) (n := 2) rfl rfl (B2 (A9 (i := 0) (show (["_law_start", "_law_time_here"] : List Str).Nodup from by decide +kernel) rfl (Or.inl rfl) (Or.inr rfl)) (B2 (A9 (i := 1) (show (["_law_start", "_law_time_here"] : List Str).Nodup from by decide +kernel) rfl (Or.inl rfl) (Or.inr rfl)) C8)) rfl rfl)) (fun _ _ _ => G4) (fun _ _ _ => (A6 (F3 (K := K) T) hr.mo rfl T.m_Lplus T.F_Lplus.kp (G2 T) .nil B5 (A0 (qpv 0) (A0 (qpv 1) A1)))) rfl)
   (A2 (B3 (i := 13) sc_Lplanned.nd rfl (Or.inl rfl) (D3 A1))
   (A2 (F0 PassesOwn.never rfl (E9 rfl T.z_range (A0 (B9 (C2 (K := K) rfl) (by rfl) T.z_len PySem.boot_len (A0 (qpv 4) A1)) A1)) (A9 (i := 14) sc_Lplanned.nd rfl (Or.inl rfl) (Or.inl rfl))
    (A2 (E6 (A8 (A5 (K := K) rfl) (qpv 4) (qpv 14) (fun _ _ => rfl)) (C9 (K := K) (n := 2) rfl rfl (B2 (A9 (i := 15) sc_Lplanned.nd rfl (Or.inl rfl) (Or.inl rfl)) (B2 (A9 (i := 16) sc_Lplanned.nd rfl (Or.inl rfl) (Or.inl rfl)) C8)) rfl rfl))
    (A7 (D9 (F5 (K := K) rfl PySem.F.plainAttrs_list PySem.F.slot_list_append PySem.F.type_list_append D5 (qpv 13) (A0 (C1 (A0 (qpv 15) (A0 (qpv 16) (A0 (A6 (F9 (K := K) T) hr.mo rfl T.m_Lminus T.F_Lminus.kp (G6 T) .nil B5 (A0 (A6 (F9 (K := K) T) hr.mo rfl T.m_Lminus T.F_Lminus.kp (G6 T) .nil B5 (A0 (A8 (A5 (K := K) rfl) (A8 (A5 (K := K) rfl) (qpv 7) (qpv 16) (fun _ _ => rfl)) A3 (fun _ _ => rfl)) (A0 (A8 (A5 (K := K) rfl) (qpv 12) (qpv 15) (fun _ _ => rfl)) A1))) (A0 (A6 (A0q (K := K) T) hr.mo rfl T.m_Lslack T.F_Lslack.kp (A3x T) .nil B5 (A0 (qpv 1) (A0 (qpv 14) A1))) A1))) A1)))) A1))))))
   (A2 (B3 (i := 17) sc_Lplanned.nd rfl (Or.inl rfl) (D3 A1))
   (A2 (F0 PassesOwn.never rfl (E9 rfl T.z_range (A0 (B9 (C2 (K := K) rfl) (by rfl) T.z_len PySem.boot_len (A0 (qpv 5) A1)) A1)) (A9 (i := 14) sc_Lplanned.nd rfl (Or.inl rfl) (Or.inl rfl))
    (A2 (E6 (A8 (A5 (K := K) rfl) (qpv 5) (qpv 14) (fun _ _ => rfl)) (C9 (K := K) (n := 2) rfl rfl (B2 (A9 (i := 18) sc_Lplanned.nd rfl (Or.inl rfl) (Or.inl rfl)) (B2 (A9 (i := 8) sc_Lplanned.nd rfl (Or.inl rfl) (Or.inl rfl)) C8)) rfl rfl))
    (A2 (B3 (i := 19) sc_Lplanned.nd rfl (Or.inl rfl) (A6 (A0q (K := K) T) hr.mo rfl T.m_Lslack T.F_Lslack.kp (A3x T) .nil B5 (A0 (qpv 1) (A0 (C5 G5 A3 (qpv 14)) A1))))
    (A7 (D0 (B7 (D4 (K := K) rfl hr.units) (qpv 18) C6 (C4 _))
     (A7 (D9 (F5 (K := K) rfl PySem.F.plainAttrs_list PySem.F.slot_list_append PySem.F.type_list_append D5 (qpv 17) (A0 (C1 (A0 (qpv 18) (A0 (qpv 8) (A0 (A6 (F9 (K := K) T) hr.mo rfl T.m_Lminus T.F_Lminus.kp (G6 T) .nil B5 (A0 (A8 (A5 (K := K) rfl) (A8 (A5 (K := K) rfl) (qpv 7) (qpv 8) (fun _ _ => rfl)) A3 (fun _ _ => rfl)) (A0 (qpv 19) A1))) A1)))) A1))))
     (A7 (D9 (F5 (K := K) rfl PySem.F.plainAttrs_list PySem.F.slot_list_append PySem.F.type_list_append D5 (qpv 17) (A0 (C1 (A0 (qpv 18) (A0 (qpv 8) (A0 (A6 (F3 (K := K) T) hr.mo rfl T.m_Lplus T.F_Lplus.kp (G2 T) .nil B5 (A0 (A8 (A5 (K := K) rfl) (D3 (A0 (A8 (A5 (K := K) rfl) (A8 (A5 (K := K) rfl) (qpv 7) (qpv 8) (fun _ _ => rfl)) A3 (fun _ _ => rfl)) (A0 (A8 (A5 (K := K) rfl) (qpv 12) (qpv 8) (fun _ _ => rfl)) A1))) (K4 U3 (by rfl) T.z_int (by rfl) (A0 (J0 (D4 (K := K) rfl hr.units) (qpv 18) C6 (C4 _)) A1)) (fun _ _ => rfl)) (A0 (qpv 19) A1))) A1)))) A1)))))))))
   (A7 (C0 (C1 (A0 (C1 (A0 (qpv 3) (A0 (qpv 13) (A0 (qpv 17) (A0 (D3 A1) A1))))) (A0 (qpv 7) A1))))))))))))))), ?_⟩
 haveI := T.c2_NOUGHT
 haveI := T.c2_ONE
 refine Pu.G3 h ?_
 rintro as Qp ⟨n, xs, vs, us, ns, pa, rfl, ok, l48, hpa, k⟩
 have n0 := ok.n0
 have n1 := ok.n1
 have ln := ok.ln
 have vl := ok.vl
 have ul := ok.ul
 refine hd fun R hR => ?_
 unfold shD
 trivial
 subst hR
 refine hd fun R hR => ?_
 trivial
 refine ⟨n, xs, vs, us, pa, rfl, ok, l48, hpa, fun is os li lo hi _ => ?_⟩
 trivial
 subst hR
 refine hd fun R hR => ?_
 trivial
 subst hR
 refine hd fun R hR => ?_
 trivial
 refine ⟨by omega, ?_⟩
 refine N6 (fun i e => ∃ (ps : LR) (o8 o9 o10 o11 : Option SV), e = [some (.d (.tuple [.list (xs.map kD), .list (vs.map pD), .list (us.map qD)])), some (.bor (ns.map .int)), some (.bor (pa.map paD)), some (.d (.list (xs.map kD))), some (.d (.list (vs.map pD))), some (.d (.list (us.map qD))), some (.d (.list (is.map dq))), some (.own (ps.map dcn)), o8, o9, o10, o11, none, none, none, none, none, none, none, none] /\ ps.length = i /\ (∀ p ∈ ps, 0 <= p.1 /\ On (LL * 4) (2 ^ 50) p.1 /\ On (LL * 4) (2 ^ 50) p.2) /\ ∀ (j : Nat) x p, xs[j]? = some x -> ps[j]? = some p -> Off x.2.1 x.2.2 p.2) ⟨[], _, _, _, _, rfl, rfl, (fun _ z => nomatch z), fun j x p _ h => nomatch h⟩ ?_ ?_
 ·rintro i e hi' ⟨ps, o8, o9, o10, o11, rfl, hl, hp, hof⟩
  obtain ⟨x, ex⟩ : ∃ c, xs[i]? = some c := ⟨_, List.getElem?_eq_getElem (by omega)⟩
  obtain ⟨r, er⟩ : ∃ c, is[i]? = some c := ⟨_, List.getElem?_eq_getElem (by omega)⟩
  obtain ⟨hk, og, oc, op⟩ := ok.of x (List.mem_of_getElem? ex)
  trivial
  refine ⟨ns, _, rfl, by omega, by omega, ?_⟩
  trivial
  refine ⟨7919, rfl, by decide, J9 (B := 7919) (by omega) (by omega) (by decide), fun d d0 d1 => ?_⟩
  trivial
  refine B6 ex ?_
  rw [show kD x = PyData.tuple [.str x.1, offD x.2.1 x.2.2] from rfl]
  trivial
  refine B6 er ?_
  trivial
  refine ⟨x.2.1, x.2.2, r, rfl, hk, og.ok, oc, (hi r (List.mem_of_getElem? er)).p2 (by decide), fun t ot off => ?_⟩
  trivial
  refine ⟨_, _, rfl, .inl rfl, fun q q0 _ sq _ => ?_⟩
  trivial
  refine ⟨4, rfl, by decide, sm4 4, fun z z0 z1 => ?_⟩
  trivial
  have fin : ∀ (q : Rat), 0 <= q -> On (LL * 4) (2 ^ 50) q -> (∀ p ∈ ps ++ [(q, t)], 0 <= p.1 /\ On (LL * 4) (2 ^ 50) p.1 /\ On (LL * 4) (2 ^ 50) p.2) /\ ∀ (j : Nat) x p, xs[j]? = some x -> (ps ++ [(q, t)])[j]? = some p -> Off x.2.1 x.2.2 p.2 := fun q q0 oq => by
   refine ⟨fun p h => ?_, fun j y p hx h => ?_⟩
   ·rcases List.mem_append.mp h with z | z
    ·exact hp p z
    ·rw [List.mem_singleton.mp z]; exact ⟨q0, oq, ot⟩
   ·by_cases hj : j < ps.length
    ·rw [List.getElem?_append_left hj] at h
     exact hof j y p hx h
    ·have hj2 : j = ps.length := by
      have := (List.getElem?_eq_some_iff.mp h).1
      rw [List.length_append, List.length_singleton] at this
      omega
     rw [hj2, List.getElem?_append_right (Nat.le_refl _), Nat.sub_self] at h
     cases h
     rw [hj2, hl, ex] at hx
     cases hx
     exact off
  refine ite2 (fun _ => ?_) (fun _ => ?_)
  ·trivial
   obtain ⟨f1, f2⟩ := fin 0 Rat.le_refl (On.zero.mono (Nat.zero_le _))
   exact ⟨by omega, ps ++ [(0, t)], _, _, _, _, by rw [List.map_append]; rfl, by rw [List.length_append, hl]; rfl, f1, f2⟩
  ·trivial
   obtain ⟨f1, f2⟩ := fin q q0 (((N3 sq).up (by decide)).p2 (by decide))
   exact ⟨by omega, ps ++ [(q, t)], _, _, _, _, by rw [List.map_append]; rfl, by rw [List.length_append, hl]; rfl, f1, f2⟩
 ·rintro e ⟨ps, o8, o9, o10, o11, rfl, hl, hp, hof⟩
  trivial
  subst hR
  refine hd fun R hR => ?_
  trivial
  have B4 : 0 < LL * 4 := Nat.mul_pos D2 (by decide)
  have sp : ∀ p ∈ ps, SmQ 3900 p.1 /\ SmQ 3900 p.2 /\ SmQ 3900 (enD p) /\ On (LL * 4) (2 ^ 51) (enD p) := fun p h => by
   obtain ⟨_, a, b⟩ := hp p h
   have c := a.add2 (b := 51) B4 b (by decide)
   exact ⟨a.q B4 (by decide +kernel) (by decide +kernel), b.q B4 (by decide +kernel) (by decide +kernel), c.q B4 (by decide +kernel) (by decide +kernel), c⟩
  refine ⟨by omega, K3 (f := dcn) (xs := ps) (fun i e ys => ∃ o1 o2 : Option SV, e = [o1, o2] /\ ys = ((ps.take i).map enD).map dq) ⟨_, _, rfl, rfl⟩ ?_ ?_⟩
  ·rintro i p e ys hpi ⟨o1, o2, rfl, rfl⟩
   obtain ⟨a, b, _, _⟩ := sp p (List.mem_of_getElem? hpi)
   trivial
   refine ⟨p.1, p.2, rfl, a, b, ?_⟩
   trivial
   exact ⟨_, _, rfl, by rw [List.take_succ, hpi, List.map_append, List.map_append]; rfl⟩
  rintro e ys ⟨o1, o2, rfl, rfl⟩
  rw [List.take_length]
  trivial
  subst hR
  refine hd fun R hR => ?_
  trivial
  subst hR
  refine hd fun R hR => ?_
  trivial
  have st : ∀ {y : Nat} {p : Rat × Rat}, ps[y]? = some p -> sat ps (y : Int) = p := fun {y p} h => by
   show ps.getD ((y : Int).toNat) (0, 0) = p
   rw [Int.toNat_natCast, List.getD_eq_getElem?_getD, h]; rfl
  refine ⟨by omega, ?_⟩
  refine N6 (fun i e => ∃ (ws : LW) (o14 o15 o16 : Option SV), e = [some (.d (.tuple [.list (xs.map kD), .list (vs.map pD), .list (us.map qD)])), some (.bor (ns.map .int)), some (.bor (pa.map paD)), some (.d (.list (xs.map kD))), some (.d (.list (vs.map pD))), some (.d (.list (us.map qD))), some (.d (.list (is.map dq))), some (.d (.list (ps.map dcn))), o8, o9, o10, o11, some (.own ((ps.map enD).map dq)), some (.own (ws.map wD)), o14, o15, o16, none, none, none] /\ ws.length = i /\ ws.map (fun w => (w.1, w.2.1)) = vs.take i /\ ∀ w ∈ ws, On (LL * 4) (2 ^ 55) w.2.2 /\ 0 <= wSl ps w) ⟨[], _, _, _, rfl, rfl, rfl, fun _ z => nomatch z⟩ ?_ ?_
  ·rintro i e hi' ⟨ws, o14, o15, o16, rfl, lw, ew, hw⟩
   obtain ⟨⟨v1, v2⟩, ev⟩ : ∃ z, vs[i]? = some z := ⟨_, List.getElem?_eq_getElem (by omega)⟩
   obtain ⟨⟨v10, v11⟩, v20, v21⟩ := ok.vk _ (List.mem_of_getElem? ev)
   obtain ⟨x, rfl⟩ := Int.eq_ofNat_of_zero_le v10
   obtain ⟨y, rfl⟩ := Int.eq_ofNat_of_zero_le v20
   obtain ⟨a, ea⟩ : ∃ z, ps[x]? = some z := ⟨_, List.getElem?_eq_getElem (by have : (x : Int) < (n : Int) := v11; omega)⟩
   obtain ⟨b, eb⟩ : ∃ z, ps[y]? = some z := ⟨_, List.getElem?_eq_getElem (by have : (y : Int) < (n : Int) := v21; omega)⟩
   obtain ⟨_, _, a3, a4⟩ := sp a (List.mem_of_getElem? ea)
   obtain ⟨b1, _, _, _⟩ := sp b (List.mem_of_getElem? eb)
   have ob := (hp b (List.mem_of_getElem? eb)).2.1
   have od := (ob.p2 (b := 51) (by decide)).sub2 (b := 52) B4 a4 (by decide)
   trivial
   refine B6 ev ?_
   rw [show pD ((x : Int), (y : Int)) = PyData.tuple [.int (x : Int), .int (y : Int)] from rfl]
   trivial
   refine B6 eb ?_
   trivial
   refine B6 (f := dq) (xs := ps.map enD) (n := x) (by rw [List.getElem?_map, ea]; rfl) ?_
   trivial
   refine ⟨b.1, enD a, rfl, b1, a3, ?_⟩
   trivial
   refine ⟨ns, _, rfl, by omega, by omega, fun q q0 oq => ?_⟩
   have oq4 : On (LL * 4) (2 ^ 52) q := (oq.up (by decide)).p2 (by decide)
   trivial
   refine ⟨b.1 - enD a, q, rfl, od.q B4 (by decide +kernel) (by decide +kernel), oq4.q B4 (by decide +kernel) (by decide +kernel), ?_⟩
   trivial
   refine ⟨by omega, ws ++ [((x : Int), (y : Int), b.1 - enD a - q)], _, _, _, by rw [List.map_append]; rfl, by rw [List.length_append, lw]; rfl, by rw [List.map_append, ew, List.take_succ, ev]; rfl, fun w h => ?_⟩
   rcases List.mem_append.mp h with z | z
   ·exact hw w z
   ·rw [List.mem_singleton.mp z]
    refine ⟨(od.sub2 (b := 53) B4 oq4 (by decide)).p2 (by decide), ?_⟩
    show 0 <= (sat ps (y : Int)).1 - (enD (sat ps (x : Int)) + (b.1 - enD a - q))
    rw [st ea, st eb]; grind
  rintro e ⟨ws, o14, o15, o16, rfl, lw, ew, hw⟩
  trivial
  subst hR
  refine hd fun R hR => ?_
  trivial
  subst hR
  refine hd fun R hR => ?_
  trivial
  refine ⟨by omega, ?_⟩
  refine N6 (fun i e => ∃ (hs : LH) (o8 o14 o18 o19 : Option SV), e = [some (.d (.tuple [.list (xs.map kD), .list (vs.map pD), .list (us.map qD)])), some (.bor (ns.map .int)), some (.bor (pa.map paD)), some (.d (.list (xs.map kD))), some (.d (.list (vs.map pD))), some (.d (.list (us.map qD))), some (.d (.list (is.map dq))), some (.d (.list (ps.map dcn))), o8, o9, o10, o11, some (.own ((ps.map enD).map dq)), some (.own (ws.map wD)), o14, o15, o16, some (.own (hs.map hD)), o18, o19] /\ hs.length = i /\ hs.map (fun h => (h.1, h.2.1)) = us.take i /\ ∀ h ∈ hs, On (LL * 4) (2 ^ 55) h.2.2 /\ 0 <= hSl ps h) ⟨[], _, _, _, _, rfl, rfl, rfl, fun _ z => nomatch z⟩ ?_ ?_
  ·rintro i e hi' ⟨hs, o8, o14, o18, o19, rfl, lh, eh, hh⟩
   obtain ⟨⟨kd, v2⟩, ev⟩ : ∃ z, us[i]? = some z := ⟨_, List.getElem?_eq_getElem (by omega)⟩
   obtain ⟨uk, v20, v21⟩ := ok.uk _ (List.mem_of_getElem? ev)
   have uk' : Hk kd := uk
   obtain ⟨y, rfl⟩ := Int.eq_ofNat_of_zero_le v20
   obtain ⟨b, eb⟩ : ∃ z, ps[y]? = some z := ⟨_, List.getElem?_eq_getElem (by have : (y : Int) < (n : Int) := v21; omega)⟩
   obtain ⟨b1, _, b3, b4⟩ := sp b (List.mem_of_getElem? eb)
   have ob := (hp b (List.mem_of_getElem? eb)).2.1.p2 (b := 52) (by decide)
   have oe := b4.p2 (b := 52) (by decide)
   have add : ∀ {kd' : Str} {q : Rat}, kd' = kd -> On (LL * 4) (2 ^ 55) q -> 0 <= hSl ps (kd', (y : Int), q) -> (hs ++ [(kd', (y : Int), q)]).length = i + 1 /\ (hs ++ [(kd', (y : Int), q)]).map (fun h => (h.1, h.2.1)) = us.take (i + 1) /\ ∀ h ∈ hs ++ [(kd', (y : Int), q)], On (LL * 4) (2 ^ 55) h.2.2 /\ 0 <= hSl ps h := fun {kd' q} e oq hq => by
    refine ⟨by rw [List.length_append, lh]; rfl, by rw [List.map_append, eh, List.take_succ, ev, e]; rfl, fun h hm => ?_⟩
    rcases List.mem_append.mp hm with z | z
    ·exact hh h z
    ·rw [List.mem_singleton.mp z]; exact ⟨oq, hq⟩
   trivial
   refine B6 ev ?_
   rw [show qD (kd, (y : Int)) = PyData.tuple [.str kd, .int (y : Int)] from rfl]
   trivial
   refine ⟨ns, _, rfl, by omega, by omega, fun q q0 oq => ?_⟩
   have oq4 : On (LL * 4) (2 ^ 52) q := (oq.up (by decide)).p2 (by decide)
   have sq : SmQ 3900 q := oq4.q B4 (by decide +kernel) (by decide +kernel)
   trivial
   refine ⟨uk'.lay, by decide +kernel, ?_⟩
   refine ite2 (fun hf => ?_) (fun hf => ?_)
   ·refine B6 eb ?_
    trivial
    refine ⟨b.1, q, rfl, b1, sq, ?_⟩
    trivial
    have ek : kd = "from" := by
     rcases uk' with z | z | z
     ·exact z
     ·rw [z] at hf; exact absurd hf (by decide +kernel)
     ·rw [z] at hf; exact absurd hf (by decide +kernel)
    obtain ⟨r1, r2, r3⟩ := add (kd' := kd) rfl ((ob.sub2 (b := 53) B4 oq4 (by decide)).p2 (by decide)) (by
     unfold hSl
     rw [if_pos ek]
     show 0 <= (sat ps (y : Int)).1 - (b.1 - q)
     rw [st eb]; grind)
    exact ⟨by omega, hs ++ [(kd, (y : Int), b.1 - q)], _, _, _, _, by rw [List.map_append]; rfl, r1, r2, r3⟩
   ·refine B6 eb ?_
    trivial
    refine B6 (f := dq) (xs := ps.map enD) (n := y) (by rw [List.getElem?_map, eb]; rfl) ?_
    trivial
    refine ⟨uk'.lay, by decide +kernel, ?_⟩
    rcases uk' with z | z | z
    ·rw [z] at hf; exact absurd (by decide +kernel) hf
    ·have z' : kd = "till" := z
     subst z'
     rw [if_neg (by decide +kernel)]
     trivial
     refine ⟨b.1, q, rfl, b1, sq, ?_⟩
     trivial
     obtain ⟨r1, r2, r3⟩ := add (kd' := "till") rfl ((ob.add2 (b := 53) B4 oq4 (by decide)).p2 (by decide)) (by
      unfold hSl
      rw [if_neg A7k, if_pos rfl]
      show 0 <= b.1 + q - (sat ps (y : Int)).1
      rw [st eb]; grind)
     exact ⟨by omega, hs ++ [(Str.ofString "till", (y : Int), b.1 + q)], _, _, _, _, by rw [List.map_append]; rfl, r1, r2, r3⟩
    ·have z' : kd = "by" := z
     subst z'
     rw [if_pos (by decide +kernel)]
     trivial
     refine ⟨enD b, q, rfl, b3, sq, ?_⟩
     trivial
     obtain ⟨r1, r2, r3⟩ := add (kd' := "by") rfl ((oe.add2 (b := 53) B4 oq4 (by decide)).p2 (by decide)) (by
      unfold hSl
      rw [if_neg A7l, if_neg A95]
      show 0 <= enD b + q - enD (sat ps (y : Int))
      rw [st eb]; grind)
     exact ⟨by omega, hs ++ [(Str.ofString "by", (y : Int), enD b + q)], _, _, _, _, by rw [List.map_append]; rfl, r1, r2, r3⟩
  rintro e ⟨hs, o8, o14, o18, o19, rfl, lh, eh, hh⟩
  trivial
  subst hR
  trivial
  exact k ps ws hs (by omega) hp hof (ew.trans (List.take_of_length_le (by omega))) hw (eh.trans (List.take_of_length_le (by omega))) hh
def X4 : Pu.PSp := fun as Q => ∃ (ps : LR) (B : Nat), as = [.bor (ps.map dcn)] /\ 0 < B /\ B <= 2 ^ 1000 /\ (∀ p ∈ ps, On B (2 ^ 80) p.1 /\ On B (2 ^ 80) p.2) /\ ∀ m, 0 <= m -> (∀ p ∈ ps, enD p <= m) -> (m = 0 \/ ∃ p ∈ ps, m = enD p) -> Q (.d (dq m))
theorem Y0 (T : Txt K mg D) : FnOk P w K mg base CX0 3 D.a_Llatestend D.d_Llatestend ["_law_plan"] (Pu.spOf K [.vw] X4) := by
 refine T.F_Llatestend.ok sc_Llatestend (Pu.spOf.len rfl) (fun cdv A outer s H vs Q E hr h => ?_)
 refine ⟨_, (QSs.out (A2 (B3 (i := 1) sc_Llatestend.nd rfl (Or.inl rfl) (C1 (A0 A3 (A0 A3 A1))))
   (A2 (F0 PassesOwn.never rfl (F2 (K := K) rfl (qpv 0)) (C9 (K := K) (n := 2) rfl rfl (B2 (A9 (i := 2) sc_Llatestend.nd rfl (Or.inl rfl) (Or.inl rfl)) (B2 (A9 (i := 3) sc_Llatestend.nd rfl (Or.inl rfl) (Or.inl rfl)) C8)) rfl rfl)
    (A2 (B3 (i := 4) sc_Llatestend.nd rfl (Or.inl rfl) (A6 (F3 (K := K) T) hr.mo rfl T.m_Lplus T.F_Lplus.kp (G2 T) .nil B5 (A0 (qpv 2) (A0 (qpv 3) A1))))
    (A7 (D0 (F8 (A6 (P7 (K := K) T) hr.mo rfl T.m_Lunder T.F_Lunder.kp (S6 T) .nil B5 (A0 (qpv 1) (A0 (qpv 4) A1))))
     (A7 (B3 (i := 1) sc_Llatestend.nd rfl (Or.inl rfl) (qpv 4)))
     C3))))
   (A7 (C0 (qpv 1)))))), ?_⟩
 haveI := T.c2_NOUGHT
 haveI := T.c2_ONE
 refine Pu.G3 h ?_
 rintro as Qp ⟨ps, B, rfl, b0, b1, hp, k⟩
 refine hd fun R hR => ?_
 trivial
 subst hR
 trivial
 refine K2 (f := dcn) (xs := ps) (fun i e => ∃ (m : Rat) (o2 o3 o4 : Option SV), e = [some (.bor (ps.map dcn)), some (.d (dq m)), o2, o3, o4] /\ 0 <= m /\ (∀ j p, j < i -> ps[j]? = some p -> enD p <= m) /\ (m = 0 \/ ∃ p ∈ ps, m = enD p)) ⟨0, _, _, _, rfl, Rat.le_refl, fun j p h => absurd h (Nat.not_lt_zero _), .inl rfl⟩ ?_ ?_
 ·rintro i p e hi ⟨m, o2, o3, o4, rfl, m0, hm, hc⟩
  have hpm := List.mem_of_getElem? hi
  obtain ⟨p1, p2⟩ := hp p hpm
  have pe : On B (2 ^ 81) (enD p) := p1.add2 b0 p2 (by decide)
  have om : On B (2 ^ 81) m := by
   rcases hc with rfl | ⟨q, hq, rfl⟩
   ·exact On.zero.mono (Nat.zero_le _)
   ·exact (hp q hq).1.add2 b0 (hp q hq).2 (by decide)
  trivial
  refine ⟨_, _, rfl, onB p1 b0 b1 (by decide), onB p2 b0 b1 (by decide), ?_⟩
  trivial
  refine ⟨m, enD p, rfl, onB om b0 b1 (by decide), onB pe b0 b1 (by decide), ?_⟩
  trivial
  refine ite2 (fun z => ?_) (fun z => ?_)
  ·refine ⟨enD p, _, _, _, rfl, Rat.le_trans m0 (Rat.le_of_lt z), fun j q hj hq => ?_, .inr ⟨p, hpm, rfl⟩⟩
   by_cases h : j = i
   ·subst h; rw [hi] at hq; cases hq; exact Rat.le_refl
   ·exact Rat.le_trans (hm j q (by omega) hq) (Rat.le_of_lt z)
  ·refine ⟨m, _, _, _, rfl, m0, fun j q hj hq => ?_, hc⟩
   by_cases h : j = i
   ·subst h; rw [hi] at hq; cases hq; exact Rat.not_lt.mp z
   ·exact hm j q (by omega) hq
 ·rintro e ⟨m, o2, o3, o4, rfl, m0, hm, hc⟩
  trivial
  exact k m m0 (fun p hp => by
   obtain ⟨j, hj, e⟩ := List.getElem_of_mem hp
   exact hm j p hj (by rw [List.getElem?_eq_getElem hj, e])) hc
def A0f : Pu.PSp := fun as Q => ∃ q : Rat, as = [.d (dq q)] /\ SmQ 3900 q /\ Q (.d (.bool true))
theorem Q8 (T : Txt K mg D) : FnOk P w K mg base CX0 2 D.a_Lfraction D.d_Lfraction ["_law_found"] (Pu.spOf K [.dat] A0f) := by
 refine T.F_Lfraction.ok sc_Lfraction (Pu.spOf.len rfl) (fun cdv A outer s H vs Q E hr h => ?_)
 refine ⟨_, (QSs.out (A2 (D0 (QW.pt (M1 (O2 (F8 (B9 (L3 (K := K) rfl) (by rfl) T.z_isinstance (by rfl) (A0 (qpv 0) (A0 (M4 (v := .ty "tuple") rfl T.z_tuple (by rfl) rfl) A1))))) (M3 (B7 (K1 (K := K) rfl hr.units) (B9 (C2 (K := K) rfl) (by rfl) T.z_len PySem.boot_len (A0 (qpv 0) A1)) A3 (C4 _)))))
    (A7 (C0 K7))
    C3)
   (A2 (F0 PassesOwn.never rfl (F2 (K := K) rfl (qpv 0)) (A9 (i := 1) sc_Lfraction.nd rfl (Or.inl rfl) (Or.inl rfl))
    (A7 (D0 (QW.pt (M1 (O2 (F8 (B9 (L3 (K := K) rfl) (by rfl) T.z_isinstance (by rfl) (A0 (qpv 1) (A0 (M4 (v := .ty "int") rfl T.z_int (by rfl) rfl) A1))))) (M3 (F8 (B9 (L3 (K := K) rfl) (by rfl) T.z_isinstance (by rfl) (A0 (qpv 1) (A0 (M4 (v := .ty "bool") rfl T.z_bool (by rfl) rfl) A1)))))))
     (A7 (C0 K7))
     C3)))
   (A7 (C0 (X3 (J0 T4 (A8 (A5 (K := K) rfl) (qpv 0) A3 (fun _ _ => rfl)) A3 (C4 _)) (X2 (J0 (D4 (K := K) rfl hr.units) (A6 (O6 (K := K) T) hr.mo rfl T.m_Llow T.F_Llow.kp (U4 T) .nil B5 (A0 (A8 (A5 (K := K) rfl) (qpv 0) A3 (fun _ _ => rfl)) (A0 (A8 (A5 (K := K) rfl) (qpv 0) A3 (fun _ _ => rfl)) A1))) (qpv 0) (C4 _))))))))), ?_⟩
 haveI := T.c2_NOUGHT
 haveI := T.c2_ONE
 refine Pu.G3 h ?_
 rintro as Qp ⟨q, rfl, sq, k⟩
 trivial
 refine B44 (fun i e => ∃ o : Option SV, e = [some (.d (dq q)), o]) ⟨_, rfl⟩ ?_ ?_
 ·rintro i x e hi ⟨o, rfl⟩
  have hx : ∃ z, x = .int z := by
   match i, hi with
   | 0, hi => cases hi; exact ⟨_, rfl⟩
   | 1, hi => cases hi; exact ⟨_, rfl⟩
  obtain ⟨z, rfl⟩ := hx
  trivial
  exact ⟨_, rfl⟩
 rintro e ⟨o, rfl⟩
 trivial
 have hd0 : (0 : Int) < (q.den : Int) := by have := q.den_pos; omega
 refine ite2 (fun _ => ?_) (fun z => absurd hd0 z)
 refine ⟨q.num, (q.den : Int), rfl, hd0, sq.1.mono (by decide), sq.2.mono (by decide), ?_⟩
 rw [Rat.num_divInt_den]
 trivial
 exact k
theorem A9y (T : Txt K mg D) : ∀ n : Nat, FnOk P w K mg base CX0 (n + 1) D.a_Lcopy D.d_Lcopy ["_law_thing"] (Pu.spOf K [.dat] (A5k n)) := by
 have step : ∀ (n : Nat) (psI : Pu.PSp), FnOk P w K mg base CX0 n D.a_Lcopy D.d_Lcopy ["_law_thing"] (Pu.spOf K [.dat] psI) -> (∀ xs, (okA n (.list xs) \/ okA n (.tuple xs)) -> xs.length < 1000 /\ ∀ x ∈ xs, ∀ Q : SV -> Prop, (∀ t, Cp x t -> Q (OT.out t)) -> psI [.d x] Q) ->
   FnOk P w K mg base CX0 (n + 1) D.a_Lcopy D.d_Lcopy ["_law_thing"] (Pu.spOf K [.dat] (A5k n)) := by
  intro n psI IH hI
  refine T.F_Lcopy.ok sc_Lcopy (Pu.spOf.len rfl) (fun cdv A outer s H vs Q E hr h => ?_)
  refine ⟨_, (QSs.out (A2 (D0 (F8 (B9 (L3 (K := K) rfl) (by rfl) T.z_isinstance (by rfl) (A0 (qpv 0) (A0 (M4 (v := .ty "list") rfl T.z_list (by rfl) rfl) A1))))
    (A7 (C0 (qCmT (L6 rfl (E7 (N' := ["_law_one"]) (cap := [none]) rfl rfl rfl rfl (by decide +kernel) rfl rfl) (F2 (K := K) rfl (qpv 0)) (fun _ _ _ => (A9 (i := 0) (show (["_law_one"] : List Str).Nodup from by decide +kernel) rfl (Or.inl rfl) (Or.inr rfl))) (fun _ _ _ => G4) (fun _ _ _ => (A6 IH hr.mo rfl T.m_Lcopy T.F_Lcopy.kp (A2g T) .nil B5 (A0 (qpv 0) A1)))))))
    C3)
   (A2 (D0 (F8 (B9 (L3 (K := K) rfl) (by rfl) T.z_isinstance (by rfl) (A0 (qpv 0) (A0 (M4 (v := .ty "tuple") rfl T.z_tuple (by rfl) rfl) A1))))
    (A7 (C0 (K4 (A8o (K := K) rfl) (by rfl) T.z_tuple (by rfl) (A0 (qCmT (L6 rfl (E7 (N' := ["_law_one"]) (cap := [none]) rfl rfl rfl rfl (by decide +kernel) rfl rfl) (F2 (K := K) rfl (qpv 0)) (fun _ _ _ => (A9 (i := 0) (show (["_law_one"] : List Str).Nodup from by decide +kernel) rfl (Or.inl rfl) (Or.inr rfl))) (fun _ _ _ => G4) (fun _ _ _ => (A6 IH hr.mo rfl T.m_Lcopy T.F_Lcopy.kp (A2g T) .nil B5 (A0 (qpv 0) A1))))) A1))))
    C3)
   (A7 (C0 (qpv 0)))))), ?_⟩
  refine Pu.G3 h ?_
  rintro as Qp ⟨x, rfl, ox, k⟩
  cases x with
  | none =>
   trivial
   exact k _ .non
  | bool b =>
   trivial
   exact k _ (.bl b)
  | int i =>
   trivial
   exact k _ (.int i)
  | str t =>
   trivial
   exact k _ (.str t)
  | dict kvs => unfold okA at ox; exact ox.elim
  | list xs =>
   obtain ⟨hl, hx⟩ := hI xs (.inl ox)
   trivial
   refine ⟨by omega, fun i e ts => ∃ o : Option SV, e = [o] /\ Cps (xs.take i) ts, ⟨_, rfl, .nil⟩, ?_, ?_⟩
   ·rintro i x e ts hi ⟨o, rfl, hc⟩
    trivial
    refine hx x (List.mem_of_getElem? hi) _ fun t ht => ?_
    trivial
    refine A6u ⟨_, rfl, ?_⟩
    rw [List.take_add_one, hi]
    exact hc.snoc ht
   ·rintro e ts ⟨o, rfl, hc⟩
    rw [List.take_length] at hc
    trivial
    exact fun a => k _ (.lst hc)
  | tuple xs =>
   obtain ⟨hl, hx⟩ := hI xs (.inr ox)
   trivial
   refine ⟨by omega, fun i e ts => ∃ o : Option SV, e = [o] /\ Cps (xs.take i) ts, ⟨_, rfl, .nil⟩, ?_, ?_⟩
   ·rintro i x e ts hi ⟨o, rfl, hc⟩
    trivial
    refine hx x (List.mem_of_getElem? hi) _ fun t ht => ?_
    trivial
    refine A6u ⟨_, rfl, ?_⟩
    rw [List.take_add_one, hi]
    exact hc.snoc ht
   ·rintro e ts ⟨o, rfl, hc⟩
    rw [List.take_length] at hc
    trivial
    refine fun a => ⟨a, _, rfl, fun p => ?_⟩
    obtain ⟨t, ht, et⟩ := A4k (p := p) hc
    rw [et]
    exact k _ ht
 intro n
 induction n with
 | zero => exact step 0 _ (B0g rfl) fun xs h => by rcases h with h | h <;> (unfold okA at h; exact h.elim)
 | succ n ih =>
  refine step (n + 1) _ ih fun xs h => ?_
  have h' : xs.length < 1000 /\ ∀ x ∈ xs, okA n x := by rcases h with h | h <;> (unfold okA at h; exact h)
  exact ⟨h'.1, fun x hx Q q => ⟨x, rfl, h'.2 x hx, q⟩⟩
def A5n : Pu.PSp := fun as Q => ∃ (ns : List Int) (kz : List Str), as = [.bor (ns.map .int), .d (.list (kz.map .str))] /\ ns.length <= 63 /\ 1 <= kz.length /\ kz.length <= 3 /\ (∀ z ∈ kz, Kd z) /\ ∀ n xs vs us, ShOk n xs vs us -> ∀ a b c e, Q (.tr (.nd false a (.cons (.nd true b (B8 (xs.map kD))) (.cons (.nd true c (B8 (vs.map pD))) (.cons (.nd true e (B8 (us.map qD))) .nil)))))
theorem A6x (T : Txt K mg D) : FnOk P w K mg base CX0 4 D.a_Lshape D.d_Lshape ["_law_script", "_law_kinds"] (Pu.spOf K [.vw, .dat] A5n) := by
 refine T.F_Lshape.ok sc_Lshape (Pu.spOf.len rfl) (fun cdv A outer s H vs Q E hr h => ?_)
 refine ⟨_, (QSs.out (A2 (B3 (i := 2) sc_Lshape.nd rfl (Or.inl rfl) (A6 (L0 (K := K) T) hr.mo rfl T.m_Lbegun T.F_Lbegun.kp (M7 T) .nil B5 (A0 (qpv 0) (A0 A3 A1))))
   (A2 (B3 (i := 3) sc_Lshape.nd rfl (Or.inl rfl) (A8 (A5 (K := K) rfl) (D3 (A0 A3 (A0 A3 (A0 A3 (A0 A3 (A0 A3 (A0 A3 (A0 A3 (A0 A3 A1))))))))) (A6 (C7 (K := K) T) hr.mo rfl T.m_Ltake T.F_Ltake.kp (D1 T) .nil B5 (A0 (qpv 2) (A0 A3 A1))) (fun _ _ => rfl)))
   (A2 (B3 (i := 4) sc_Lshape.nd rfl (Or.inl rfl) (C5 G5 A3 (A6 (C7 (K := K) T) hr.mo rfl T.m_Ltake T.F_Ltake.kp (D1 T) .nil B5 (A0 (qpv 2) (A0 A3 A1)))))
   (A2 (B3 (i := 5) sc_Lshape.nd rfl (Or.inl rfl) (A6 (C7 (K := K) T) hr.mo rfl T.m_Ltake T.F_Ltake.kp (D1 T) .nil B5 (A0 (qpv 2) (A0 A3 A1))))
   (A2 (B3 (i := 6) sc_Lshape.nd rfl (Or.inl rfl) (C5 F1 A3 (K4 U3 (by rfl) T.z_int (by rfl) (A0 (J0 (D4 (K := K) rfl hr.units) (A6 (C7 (K := K) T) hr.mo rfl T.m_Ltake T.F_Ltake.kp (D1 T) .nil B5 (A0 (qpv 2) (A0 A3 A1))) A3 (C4 _)) A1))))
   (A2 (B3 (i := 7) sc_Lshape.nd rfl (Or.inl rfl) (D3 A1))
   (A2 (F0 PassesOwn.never rfl (E9 rfl T.z_range (A0 (qpv 3) A1)) (A9 (i := 8) sc_Lshape.nd rfl (Or.inl rfl) (Or.inl rfl))
    (A2 (B3 (i := 9) sc_Lshape.nd rfl (Or.inl rfl) (A6 (L0 (K := K) T) hr.mo rfl T.m_Lbegun T.F_Lbegun.kp (M7 T) .nil B5 (A0 (qpv 0) (A0 (C5 G5 A3 (qpv 8)) A1))))
    (A2 (B3 (i := 10) sc_Lshape.nd rfl (Or.inl rfl) (A8 (A5 (K := K) rfl) (qpv 1) (A6 (C7 (K := K) T) hr.mo rfl T.m_Ltake T.F_Ltake.kp (D1 T) .nil B5 (A0 (qpv 9) (A0 (B9 (C2 (K := K) rfl) (by rfl) T.z_len PySem.boot_len (A0 (qpv 1) A1)) A1))) (fun _ _ => rfl)))
    (A7 (D9 (F5 (K := K) rfl PySem.F.plainAttrs_list PySem.F.slot_list_append PySem.F.type_list_append D5 (qpv 7) (A0 (C1 (A0 (C5 B4d (A8 (A5 (K := K) rfl) C6 (qpv 8) (fun _ _ => rfl)) (qpv 4)) (A0 (A6 (A6z (K := K) T) hr.mo rfl T.m_Loffer T.F_Loffer.kp (B0s T) .nil B5 (A0 (qpv 9) (A0 (qpv 10) (A0 A3 (A0 K7 A1))))) A1))) A1)))))))
   (A2 (B3 (i := 11) sc_Lshape.nd rfl (Or.inl rfl) (D3 A1))
   (A2 (B3 (i := 12) sc_Lshape.nd rfl (Or.inl rfl) (D3 A1))
   (A2 (F0 PassesOwn.never rfl (A34 rfl T.z_range (A0 A3 (A0 (C5 G5 (B9 (A8r rfl) (by rfl) T.z_max (by rfl) (A0 (C5 G5 A3 (qpv 5)) (A0 (B9 (A8p rfl) (by rfl) T.z_min (by rfl) (A0 (B9 (C2 (K := K) rfl) (by rfl) T.z_len PySem.boot_len (A0 (qpv 0) A1)) (A0 A3 A1))) A1))) (C5 F1 A3 (qpv 6))) A1))) (A9 (i := 8) sc_Lshape.nd rfl (Or.inl rfl) (Or.inl rfl))
    (A2 (B3 (i := 9) sc_Lshape.nd rfl (Or.inl rfl) (A6 (L0 (K := K) T) hr.mo rfl T.m_Lbegun T.F_Lbegun.kp (M7 T) .nil B5 (A0 (qpv 0) (A0 (qpv 8) A1))))
    (A2 (B3 (i := 13) sc_Lshape.nd rfl (Or.inl rfl) (A6 (C7 (K := K) T) hr.mo rfl T.m_Ltake T.F_Ltake.kp (D1 T) .nil B5 (A0 (qpv 9) (A0 (qpv 3) A1))))
    (A7 (D0 (QW.pt (O1 (B7 T4 (qpv 3) A3 (C4 _)) (O1 (B7 A4b (A6 (C7 (K := K) T) hr.mo rfl T.m_Ltake T.F_Ltake.kp (D1 T) .nil B5 (A0 (qpv 9) (A0 A3 A1))) A3 (C4 _)) (O9 (B7 A4b (B9 (C2 (K := K) rfl) (by rfl) T.z_len PySem.boot_len (A0 (qpv 11) A1)) A3 (C4 _))))))
     (A7 (D9 (F5 (K := K) rfl PySem.F.plainAttrs_list PySem.F.slot_list_append PySem.F.type_list_append D5 (qpv 11) (A0 (C1 (A0 (qpv 13) (A0 (C5 O0 (C5 G5 (C5 G5 (qpv 13) A3) (A6 (C7 (K := K) T) hr.mo rfl T.m_Ltake T.F_Ltake.kp (D1 T) .nil B5 (A0 (qpv 9) (A0 (C5 T3 (qpv 3) A3) A1)))) (qpv 3)) A1))) A1))))
     (A7 (D0 (B7 A4b (B9 (C2 (K := K) rfl) (by rfl) T.z_len PySem.boot_len (A0 (qpv 12) A1)) A3 (C4 _))
      (A7 (D9 (F5 (K := K) rfl PySem.F.plainAttrs_list PySem.F.slot_list_append PySem.F.type_list_append D5 (qpv 12) (A0 (C1 (A0 (A8 (A5 (K := K) rfl) (D3 (A0 C6 (A0 C6 (A0 C6 A1)))) (A6 (C7 (K := K) T) hr.mo rfl T.m_Ltake T.F_Ltake.kp (D1 T) .nil B5 (A0 (qpv 9) (A0 A3 A1))) (fun _ _ => rfl)) (A0 (qpv 13) A1))) A1))))
      C3)))))))
   (A7 (C0 (B8v (C1 (A0 (qpv 7) (A0 (qpv 11) (A0 (qpv 12) A1)))))))))))))))))), ?_⟩
 haveI := T.c2_NOUGHT
 haveI := T.c2_ONE
 refine Pu.G3 h ?_
 rintro as Qp ⟨ns, kz, rfl, hns, k1, k3, hkz, k⟩
 refine hd fun R hR => ?_
 trivial
 refine ⟨ns, _, rfl, by decide, by decide, ?_⟩
 trivial
 subst hR
 refine hd fun R hR => ?_
 trivial
 refine ⟨8, rfl, by decide, sm4 8, fun d d0 d1 => ?_⟩
 trivial
 obtain ⟨n, ⟨n0, n1⟩, en⟩ := B4n d0 d1
 refine E8 en ?_
 trivial
 subst hR
 refine hd fun R hR => ?_
 trivial
 refine ⟨8, rfl, by decide, sm4 8, fun sz sz0 sz1 => ?_⟩
 trivial
 subst hR
 refine hd fun R hR => ?_
 trivial
 refine ⟨8, rfl, by decide, sm4 8, fun le le0 le1 => ?_⟩
 trivial
 subst hR
 refine hd fun R hR => ?_
 trivial
 refine ⟨8, rfl, by decide, sm4 8, fun fu fu0 fu1 => ?_⟩
 trivial
 refine ⟨⟨J9 (B := 40) (by omega) (by omega) (by decide), J9 (B := 1) (by split <;> omega) (by split <;> omega) (by decide)⟩, ?_⟩
 obtain ⟨fl, hfl, fl0, fl1⟩ : ∃ fl : Int, fl = 40 * (if fu = 5 then 1 else 0) /\ 0 <= fl /\ fl <= 40 := ⟨_, rfl, by split <;> omega, by split <;> omega⟩
 rw [<- hfl]
 subst hR
 refine hd fun R hR => ?_
 trivial
 subst hR
 refine Q1 (fun e => ∃ (xs : List Wk) (o8 o9 o10 : Option SV), e = [some (.bor (ns.map .int)), some (.d (.list (kz.map .str))), some .st, some (.d (.int (n : Int))), some (.d (.int (1 + sz))), some (.d (.int le)), some (.d (.int fl)), some (.own (xs.map kD)), o8, o9, o10, none, none, none] /\ xs.length = n /\ (∀ x ∈ xs, Kd x.2.1 /\ OfG x.2.1 x.2.2 100 54 244 130 /\ OnC x.2.2 /\ (x.2.1 = "straight" -> OnP x.2.2)) /\ ∀ x ∈ xs, (PyData.str x.1).canLay0 = true) (fun R hR => ?_) ?_
 ·trivial
  refine ⟨⟨by omega, by omega⟩, N6 (fun i e => ∃ (xs : List Wk) (o8 o9 o10 : Option SV), e = [some (.bor (ns.map .int)), some (.d (.list (kz.map .str))), some .st, some (.d (.int (n : Int))), some (.d (.int (1 + sz))), some (.d (.int le)), some (.d (.int fl)), some (.own (xs.map kD)), o8, o9, o10, none, none, none] /\ xs.length = i /\ (∀ x ∈ xs, Kd x.2.1 /\ OfG x.2.1 x.2.2 100 54 244 130 /\ OnC x.2.2 /\ (x.2.1 = "straight" -> OnP x.2.2)) /\ ∀ x ∈ xs, (PyData.str x.1).canLay0 = true) ⟨[], _, _, _, rfl, rfl, (fun _ z => nomatch z), fun _ z => nomatch z⟩ ?_ ?_⟩
  ·rintro i e hi ⟨xs, o8, o9, o10, rfl, hl, hx, hn⟩
   have hin : i < n := by simpa using hi
   refine hd fun R hR => ?_
   trivial
   refine ⟨ns, _, rfl, by omega, by omega, ?_⟩
   trivial
   subst hR
   refine hd fun R hR => ?_
   trivial
   refine ⟨(kz.length : Int), by simp, by omega, J9 (B := 3) (by omega) (by omega) (by decide), fun g g0 g1 => ?_⟩
   trivial
   obtain ⟨gj, rfl⟩ := Int.eq_ofNat_of_zero_le g0
   have hgj : gj < kz.length := by omega
   have eg : L2.atI (kz.map PyData.str) (gj : Int) = some (.str kz[gj]) := L4 (by rw [List.getElem?_map, List.getElem?_eq_getElem hgj]; rfl)
   refine E8 eg ?_
   trivial
   subst hR
   trivial
   refine ⟨(show ltr2.length <= 1000 by rw [Y1]; decide), ?_⟩
   refine getS (z := ltr2) (by rw [Y1]; decide) A97 (by omega) (by rw [Y1]; omega) (fun c hc => ?_)
   rw [show sgn c = PyData.str ⟨#[c]⟩ from rfl]
   trivial
   refine ⟨⟨by omega, by omega⟩, (show 1 <= 100 by decide), kz[gj], 5, rfl, by decide, by decide, hkz _ (List.getElem_mem hgj), fun cs og oc op ol => ?_⟩
   trivial
   refine ⟨by omega, xs ++ [(Txt.mul ⟨#[c]⟩ (1 + sz), kz[gj], cs)], _, _, _, by rw [List.map_append]; rfl, by rw [List.length_append, hl]; rfl, fun x hx' => ?_, fun x hx' => ?_⟩
   ·rcases List.mem_append.mp hx' with q | q
    ·exact hx x q
    ·rw [List.mem_singleton.mp q]; exact ⟨hkz _ (List.getElem_mem hgj), og, oc, op⟩
   ·rcases List.mem_append.mp hx' with q | q
    ·exact hn x q
    ·rw [List.mem_singleton.mp q]; exact B4m (B5y hc)
  ·rintro e ⟨xs, o8, o9, o10, rfl, hl, hx, hn⟩
   exact hR _ ⟨xs, _, _, _, rfl, by simpa using hl, hx, hn⟩
 rintro e ⟨xs, o8, o9, o10, rfl, hl, hx, hn⟩
 refine hd fun R hR => ?_
 trivial
 subst hR
 refine hd fun R hR => ?_
 trivial
 subst hR
 trivial
 refine ⟨⟨J9 (B := 2) (by omega) (by omega) (by decide), J9 (B := 40) (by omega) (by omega) (by decide)⟩, ?_⟩
 have hM : 0 <= (if (if 40 < (ns.length : Int) then 40 else (ns.length : Int)) > 7 + le then if 40 < (ns.length : Int) then 40 else (ns.length : Int) else 7 + le) + 2 * fl /\ (if (if 40 < (ns.length : Int) then 40 else (ns.length : Int)) > 7 + le then if 40 < (ns.length : Int) then 40 else (ns.length : Int) else 7 + le) + 2 * fl <= 120 := by
  split <;> split <;> omega
 generalize (if (if 40 < (ns.length : Int) then 40 else (ns.length : Int)) > 7 + le then if 40 < (ns.length : Int) then 40 else (ns.length : Int) else 7 + le) + 2 * fl = M at hM ⊢
 refine ⟨⟨by decide, by decide, by omega, by omega⟩, N6 (fun i e => ∃ (vs : List (Int × Int)) (us : List (Str × Int)) (o8 o9 o10 o13 : Option SV), e = [some (.bor (ns.map .int)), some (.d (.list (kz.map .str))), some .st, some (.d (.int (n : Int))), some (.d (.int (1 + sz))), some (.d (.int le)), some (.d (.int fl)), some (.own (xs.map kD)), o8, o9, o10, some (.own (vs.map pD)), some (.own (us.map qD)), o13] /\ ShOk n xs vs us) ⟨[], [], _, _, _, _, rfl, hl, n0, n1, hx, hn, Nat.zero_le _, (fun _ z => nomatch z), Nat.zero_le _, (fun _ z => nomatch z), fun _ z => nomatch z⟩ ?_ ?_⟩
 ·rintro i e hi ⟨vs, us, o8, o9, o10, o13, rfl, ok⟩
  have vl := ok.vl
  have ul := ok.ul
  refine hd fun R hR => ?_
  trivial
  refine ⟨ns, _, rfl, by omega, by omega, ?_⟩
  trivial
  subst hR
  refine hd fun R hR => ?_
  trivial
  refine ⟨(n : Int), rfl, by omega, J9 (B := 10) (by omega) (by omega) (by decide), fun a a0 a1 => ?_⟩
  trivial
  subst hR
  trivial
  refine ite2 (fun h1 => ?_) (fun h1 => ?_)
  ·refine ⟨3, rfl, by decide, sm4 3, fun t t0 t1 => ?_⟩
   trivial
   refine ite2 (fun h3 => ite2 (fun h4 => ?_) (fun h4 => ?_)) (fun h3 => ?_)
   ·refine ⟨(n : Int) - 1, rfl, by omega, J9 (B := 10) (by omega) (by omega) (by decide), fun b b0 b1 => ?_⟩
    trivial
    exact ⟨by omega, by omega, vs ++ [(a, (a + 1 + b) % (n : Int))], us, _, _, _, _, by rw [List.map_append]; rfl, ok.addV ⟨a0, a1⟩ ⟨Int.emod_nonneg _ (by omega), Int.emod_lt_of_pos _ (by omega)⟩ (by omega) (B7g a0 a1 b0 (by omega))⟩
   all_goals
    refine ite2 (fun h2 => ?_) (fun h2 => ⟨vs, us, _, _, _, _, rfl, ok⟩)
    refine ⟨3, rfl, by decide, sm4 3, fun g g0 g1 => ?_⟩
    trivial
    obtain ⟨kd, hkd, ek⟩ := B2c g0 g1
    refine E8 ek ?_
    trivial
    exact ⟨by omega, vs, us ++ [(kd, a)], _, _, _, _, by rw [List.map_append]; rfl, ok.addU ⟨a0, a1⟩ hkd (by omega)⟩
  ·refine ite2 (fun h2 => ?_) (fun h2 => ⟨vs, us, _, _, _, _, rfl, ok⟩)
   refine ⟨3, rfl, by decide, sm4 3, fun g g0 g1 => ?_⟩
   trivial
   obtain ⟨kd, hkd, ek⟩ := B2c g0 g1
   refine E8 ek ?_
   trivial
   exact ⟨by omega, vs, us ++ [(kd, a)], _, _, _, _, by rw [List.map_append]; rfl, ok.addU ⟨a0, a1⟩ hkd (by omega)⟩
 rintro e ⟨vs, us, o8, o9, o10, o13, rfl, ok⟩
 trivial
 exact fun b c e _ _ _ => ⟨Nat.le_of_ble_eq_true rfl, fun a _ => k n xs vs us ok a b c e⟩
def A5t : Pu.PSp := fun as Q => ∃ (ns : List Int) (kz : List Str), as = [.bor (ns.map .int), .d (.list (kz.map .str))] /\ ns.length <= 63 /\ 1 <= kz.length /\ kz.length <= 3 /\ (∀ z ∈ kz, Kd z) /\ ∀ (n : Nat) (xs : List Wk) (vs : List (Int × Int)) (us : List (Str × Int)) (pa : List ((Str × Int) × Rat)) (ps : LR) (ws : LW) (hs : LH) (gs : LP), ShOk n xs vs us -> ps.length = n -> (∀ p ∈ ps, 0 <= p.1 /\ On (LL * 4) (2 ^ 50) p.1 /\ On (LL * 4) (2 ^ 50) p.2) -> ws.map (fun w => (w.1, w.2.1)) = vs -> (∀ w ∈ ws, On (LL * 4) (2 ^ 55) w.2.2 /\ 0 <= wSl ps w) -> hs.map (fun h => (h.1, h.2.1)) = us -> (∀ h ∈ hs, On (LL * 4) (2 ^ 55) h.2.2 /\ 0 <= hSl ps h) -> (gs = [] \/ gs = [.list [.int 1, .int 0]]) -> Q (.d (.tuple [netD xs ws hs gs, .list (ps.map dcn), .list (pa.map paD)]))
theorem A62 (T : Txt K mg D) : FnOk P w K mg base CX0 6 D.a_Ldrawn D.d_Ldrawn ["_law_script", "_law_kinds"] (Pu.spOf K [.vw, .dat] A5t) := by
 refine T.F_Ldrawn.ok sc_Ldrawn (Pu.spOf.len rfl) (fun cdv A outer s H vs Q E hr h => ?_)
 refine ⟨_, (QSs.out (A2 (B3 (i := 2) sc_Ldrawn.nd rfl (Or.inl rfl) (A6 (A6x (K := K) T) hr.mo rfl T.m_Lshape T.F_Lshape.kp (B0q T) .nil B5 (A0 (qpv 0) (A0 (qpv 1) A1))))
   (A2 (B3 (i := 3) sc_Ldrawn.nd rfl (Or.inl rfl) (qAl (i := 2) (n := 0) (A8 (A5 (K := K) rfl) (qpv 2) A3 (fun _ _ => rfl))))
   (A2 (B3 (i := 4) sc_Ldrawn.nd rfl (Or.inl rfl) (X3 (J0 T4 (B9 (C2 (K := K) rfl) (by rfl) T.z_len PySem.boot_len (A0 (qAr (i := 2) (n := 0) (qpv 3)) A1)) A3 (C4 _)) (X2 (J0 (D4 (K := K) rfl hr.units) (A8 (A5 (K := K) rfl) (A8 (A5 (K := K) rfl) (A8 (A5 (K := K) rfl) (qAr (i := 2) (n := 0) (qpv 3)) A3 (fun _ _ => rfl)) A3 (fun _ _ => rfl)) A3 (fun _ _ => rfl)) C6 (C4 _)))))
   (A2 (D0 (F8 (qpv 4))
    (A7 (E6 (C1 (A0 (A8 (A5 (K := K) rfl) (A8 (A5 (K := K) rfl) (qAr (i := 2) (n := 0) (qpv 3)) A3 (fun _ _ => rfl)) A3 (fun _ _ => rfl)) (A0 (C1 (A0 C6 (A0 (K4 (A07 (K := K) rfl) (by rfl) T.z_list (by rfl) (A0 (A8 (A5 (K := K) rfl) (A8 (A5 (K := K) rfl) (A8 (A5 (K := K) rfl) (qAr (i := 2) (n := 0) (qpv 3)) A3 (fun _ _ => rfl)) A3 (fun _ _ => rfl)) A3 (fun _ _ => rfl)) A1)) A1))) A1))) (K0 (qAr (i := 2) (n := 0) (qpv 3)) A3 G0)))
    C3)
   (A2 (B3 (i := 5) sc_Ldrawn.nd rfl (Or.inl rfl) (A6 (A6y (K := K) T) hr.mo rfl T.m_Lpaper T.F_Lpaper.kp (B0r T) .nil B5 (A0 (qFz (qpv 2)) (A0 (qpv 0) (A0 A3 A1)))))
   (A2 (E6 (A6 (A11 (K := K) T) hr.mo rfl T.m_Lplanned T.F_Lplanned.kp (A4n T) .nil B5 (A0 (qFz (qpv 2)) (A0 (qpv 0) (A0 (qpv 5) A1)))) (C9 (K := K) (n := 2) rfl rfl (B2 (A9 (i := 6) sc_Ldrawn.nd rfl (Or.inl rfl) (Or.inl rfl)) (B2 (A9 (i := 7) sc_Ldrawn.nd rfl (Or.inl rfl) (Or.inl rfl)) C8)) rfl rfl))
   (A2 (B3 (i := 4) sc_Ldrawn.nd rfl (Or.inl rfl) (X3 (qpv 4) (X2 (J0 (D4 (K := K) rfl hr.units) (A8 (A5 (K := K) rfl) (A8 (A5 (K := K) rfl) (qpv 7) A3 (fun _ _ => rfl)) A3 (fun _ _ => rfl)) (A8 (A5 (K := K) rfl) (A8 (A5 (K := K) rfl) (qpv 7) A3 (fun _ _ => rfl)) A3 (fun _ _ => rfl)) (C4 _)))))
   (A7 (C0 (C1 (A0 (C1 (A0 (A8 (A5 (K := K) rfl) (qpv 6) A3 (fun _ _ => rfl)) (A0 (A8 (A5 (K := K) rfl) (qpv 6) A3 (fun _ _ => rfl)) (A0 (A8 (A5 (K := K) rfl) (qpv 6) A3 (fun _ _ => rfl)) (A0 (C5 B4b (D3 (A0 (D3 (A0 A3 (A0 A3 A1))) A1)) (K4 U3 (by rfl) T.z_int (by rfl) (A0 (qpv 4) A1))) A1))))) (A0 (qpv 7) (A0 (qpv 5) A1)))))))))))))), ?_⟩
 haveI := T.c2_NOUGHT
 haveI := T.c2_ONE
 refine Pu.G3 h ?_
 rintro as Qp ⟨ns, kz, rfl, h63, k1, k3, hkz, k⟩
 refine hd fun R hR => ?_
 trivial
 refine ⟨ns, kz, rfl, h63, k1, k3, hkz, fun n xs vs us ok a b c e => ?_⟩
 trivial
 subst hR
 refine hd fun R hR => ?_
 trivial
 refine ⟨_, _, _, _, _, rfl, rfl, ?_⟩
 subst hR
 refine Q1 (fun e' => ∃ (q : Bool), e' = [some (.bor (ns.map .int)), some (.d (.list (kz.map .str))), some (.tr (.nd false a (.cons (.nd true b (B8 (xs.map kD))) (.cons (.nd true c (B8 (vs.map pD))) (.cons (.nd true e (B8 (us.map qD))) .nil))))), some (.al b), some (.d (.bool q)), none, none, none] /\ (q = true -> 1 < n /\ ∃ x0 : Wk, xs[0]? = some x0 /\ x0.2.1 = "steps")) (fun R hR => ?_) ?_
 ·trivial
  refine ⟨_, _, _, _, _, rfl, rfl, rfl, ?_⟩
  trivial
  have ln := ok.ln
  have n0 := ok.n0
  refine ite2 (fun z => ?_) (fun z => hR _ ⟨false, rfl, fun y => nomatch y⟩)
  refine ⟨_, _, _, _, _, rfl, rfl, rfl, ?_⟩
  obtain ⟨x0, hx0⟩ : ∃ x, xs[0]? = some x := ⟨_, List.getElem?_eq_getElem (by omega)⟩
  trivial
  refine B6 (f := kD) (n := 0) hx0 ?_
  rw [show kD x0 = PyData.tuple [.str x0.1, .tuple [.str x0.2.1, .list (x0.2.2.map dcn)]] from rfl]
  trivial
  have kd0 := (ok.of x0 (List.mem_of_getElem? hx0)).1
  refine ⟨kd0.lay, A7u, ?_⟩
  rw [A3n]
  exact hR _ ⟨_, rfl, fun y => ⟨by omega, x0, hx0, of_decide_eq_true y⟩⟩
 rintro e' ⟨q, rfl, hq⟩
 refine Q1 (fun e' => ∃ (xs' : List Wk), e' = [some (.bor (ns.map .int)), some (.d (.list (kz.map .str))), some (.tr (.nd false a (.cons (.nd true b (B8 (xs'.map kD))) (.cons (.nd true c (B8 (vs.map pD))) (.cons (.nd true e (B8 (us.map qD))) .nil))))), some (.al b), some (.d (.bool q)), none, none, none] /\ ShOk n xs' vs us) (fun R hR => ?_) ?_
 ·rcases q with _ | _
  ·trivial
   exact hR _ ⟨xs, rfl, ok⟩
  ·obtain ⟨n2, x0, hx0, ek⟩ := hq rfl
   obtain ⟨x1, hx1⟩ : ∃ x, xs[1]? = some x := ⟨_, List.getElem?_eq_getElem (by have := ok.ln; omega)⟩
   trivial
   refine ⟨_, _, _, _, _, rfl, rfl, rfl, ?_⟩
   trivial
   refine B6 (f := kD) (n := 1) hx1 ?_
   rw [show kD x1 = PyData.tuple [.str x1.1, .tuple [.str x1.2.1, .list (x1.2.2.map dcn)]] from rfl]
   trivial
   refine ⟨_, _, _, _, _, rfl, rfl, rfl, ?_⟩
   refine B6 (f := kD) (n := 0) hx0 ?_
   rw [show kD x0 = PyData.tuple [.str x0.1, .tuple [.str x0.2.1, .list (x0.2.2.map dcn)]] from rfl]
   trivial
   refine ⟨_, _, _, _, _, rfl, rfl, rfl, 1, N5 (o := 1) (by decide) (by rw [List.length_map]; have := ok.ln; omega), ?_⟩
   have es : (xs.map kD).set 1 (.tuple [.str x1.1, .tuple [.str "steps", .list (x0.2.2.map dcn)]]) = (xs.set 1 (x1.1, x0.2.1, x0.2.2)).map kD := by rw [List.map_set, ek]; rfl
   rw [es]
   refine hR _ ⟨xs.set 1 (x1.1, x0.2.1, x0.2.2), rfl, ⟨by rw [List.length_set]; exact ok.ln, ok.n0, ok.n1, fun x hx => ?_, fun x hx => ?_, ok.vl, ok.vk, ok.ul, ok.uk, ok.vn⟩⟩
   ·rcases List.mem_or_eq_of_mem_set hx with y | y
    ·exact ok.of x y
    ·rw [y]; exact ok.of x0 (List.mem_of_getElem? hx0)
   ·rcases List.mem_or_eq_of_mem_set hx with y | y
    ·exact ok.nm x y
    ·rw [y]; exact ok.nm x1 (List.mem_of_getElem? hx1)
 rintro e' ⟨xs', rfl, ok'⟩
 have ed : (OT.nd false a (.cons (.nd true b (B8 (xs'.map kD))) (.cons (.nd true c (B8 (vs.map pD))) (.cons (.nd true e (B8 (us.map qD))) .nil)))).dat = [shD xs' vs us] := by
  show [PyData.tuple ([PyData.list (B8 _).dat] ++ ([PyData.list (B8 _).dat] ++ ([PyData.list (B8 _).dat] ++ [])))] = _
  rw [I0, I0, I0]; rfl
 refine hd fun R hR => ?_
 trivial
 refine ⟨_, ed, ?_⟩
 trivial
 refine ⟨n, xs', vs, us, ns, 0, rfl, by decide, by decide, ok', fun pa l48 hpa => ?_⟩
 trivial
 subst hR
 refine hd fun R hR => ?_
 trivial
 refine ⟨n, xs', vs, us, ns, pa, rfl, ok', l48, hpa, fun ps ws hs h1 h2 h3 h4 h5 h6 h7 => ?_⟩
 trivial
 subst hR
 refine Q1 (fun e' => ∃ (q : Bool), e' = [some (.bor (ns.map .int)), some (.d (.list (kz.map .str))), some (.d (shD xs' vs us)), some (.al b), some (.d (.bool q)), some (.own (pa.map paD)), some (.d (netD xs' ws hs [])), some (.d (.list (ps.map dcn)))]) (fun R hR => ?_) ?_
 ·trivial
  refine ite2 (fun z => ?_) (fun z => hR _ ⟨false, rfl⟩)
  obtain ⟨n2, _⟩ := hq z
  obtain ⟨p0, hp0⟩ : ∃ p, ps[0]? = some p := ⟨_, List.getElem?_eq_getElem (by omega)⟩
  obtain ⟨p1, hp1⟩ : ∃ p, ps[1]? = some p := ⟨_, List.getElem?_eq_getElem (by omega)⟩
  refine B6 (f := dcn) (n := 0) hp0 ?_
  trivial
  refine B6 (f := dcn) (n := 1) hp1 ?_
  trivial
  exact hR _ ⟨_, rfl⟩
 rintro e' ⟨q, rfl⟩
 unfold netD
 trivial
 refine ⟨_, rfl, _, rfl, by split <;> decide, by split <;> decide, by decide, ?_⟩
 cases q with
 | false => exact k n xs' vs us pa ps ws hs [] ok' h1 h2 h4 h5 h6 h7 (.inl rfl)
 | true => exact k n xs' vs us pa ps ws hs _ ok' h1 h2 h4 h5 h6 h7 (.inr rfl)
def A5u : Pu.PSp := fun as Q => ∃ (xs : List Wk) (ws : LW) (hs : LH) (gs : LP) (ps : LR) (W : Rat) (n B a : Nat), as = [.d (netD xs ws hs gs), .d (.list (ps.map dcn)), .d (dq W), .d (.int (n : Int))] /\ PSz B a ws hs ps /\ On B (2 ^ a) W /\ n < ps.length /\ Q (.d (dq (alo ws hs ps W n)))
theorem A63 (T : Txt K mg D) : FnOk P w K mg base CX0 3 D.a_Lalone D.d_Lalone ["_law_net", "_law_plan", "_law_whole", "_law_i"] (Pu.spOf K [.dat, .dat, .dat, .dat] A5u) := by
 refine T.F_Lalone.ok sc_Lalone (Pu.spOf.len rfl) (fun cdv A outer s H vs Q E hr h => ?_)
 refine ⟨_, (QSs.out (A2 (E6 (A8 (A5 (K := K) rfl) (qpv 1) (qpv 3) (fun _ _ => rfl)) (C9 (K := K) (n := 2) rfl rfl (B2 (A9 (i := 4) sc_Lalone.nd rfl (Or.inl rfl) (Or.inl rfl)) (B2 (A9 (i := 5) sc_Lalone.nd rfl (Or.inl rfl) (Or.inl rfl)) C8)) rfl rfl))
   (A2 (B3 (i := 6) sc_Lalone.nd rfl (Or.inl rfl) (A6 (F3 (K := K) T) hr.mo rfl T.m_Lplus T.F_Lplus.kp (G2 T) .nil B5 (A0 (qpv 4) (A0 (qpv 5) A1))))
   (A2 (B3 (i := 7) sc_Lalone.nd rfl (Or.inl rfl) (D3 (A0 (A6 (F9 (K := K) T) hr.mo rfl T.m_Lminus T.F_Lminus.kp (G6 T) .nil B5 (A0 (qpv 2) (A0 (qpv 6) A1))) A1)))
   (A2 (F0 PassesOwn.never rfl (F2 (K := K) rfl (A8 (A5 (K := K) rfl) (qpv 0) A3 (fun _ _ => rfl))) (C9 (K := K) (n := 3) rfl rfl (B2 (A9 (i := 8) sc_Lalone.nd rfl (Or.inl rfl) (Or.inl rfl)) (B2 (A9 (i := 9) sc_Lalone.nd rfl (Or.inl rfl) (Or.inl rfl)) (B2 (A9 (i := 10) sc_Lalone.nd rfl (Or.inl rfl) (Or.inl rfl)) C8))) rfl rfl)
    (A7 (D0 (B7 (D4 (K := K) rfl hr.units) (qpv 8) (qpv 3) (C4 _))
     (A7 (D9 (F5 (K := K) rfl PySem.F.plainAttrs_list PySem.F.slot_list_append PySem.F.type_list_append D5 (qpv 7) (A0 (A6 (F9 (K := K) T) hr.mo rfl T.m_Lminus T.F_Lminus.kp (G6 T) .nil B5 (A0 (A6 (F9 (K := K) T) hr.mo rfl T.m_Lminus T.F_Lminus.kp (G6 T) .nil B5 (A0 (A8 (A5 (K := K) rfl) (A8 (A5 (K := K) rfl) (qpv 1) (qpv 9) (fun _ _ => rfl)) A3 (fun _ _ => rfl)) (A0 (qpv 6) A1))) (A0 (qpv 10) A1))) A1))))
     C3)))
   (A2 (F0 PassesOwn.never rfl (F2 (K := K) rfl (A8 (A5 (K := K) rfl) (qpv 0) A3 (fun _ _ => rfl))) (C9 (K := K) (n := 3) rfl rfl (B2 (A9 (i := 11) sc_Lalone.nd rfl (Or.inl rfl) (Or.inl rfl)) (B2 (A9 (i := 12) sc_Lalone.nd rfl (Or.inl rfl) (Or.inl rfl)) (B2 (A9 (i := 13) sc_Lalone.nd rfl (Or.inl rfl) (Or.inl rfl)) C8))) rfl rfl)
    (A2 (D0 (QW.pt (O1 (B7 (D4 (K := K) rfl hr.units) (qpv 12) (qpv 3) (C4 _)) (O9 (B7 (D4 (K := K) rfl hr.units) (qpv 11) C6 (C4 _)))))
     (A7 (D9 (F5 (K := K) rfl PySem.F.plainAttrs_list PySem.F.slot_list_append PySem.F.type_list_append D5 (qpv 7) (A0 (A6 (F9 (K := K) T) hr.mo rfl T.m_Lminus T.F_Lminus.kp (G6 T) .nil B5 (A0 (qpv 13) (A0 (qpv 4) A1))) A1))))
     C3)
    (A7 (D0 (QW.pt (O1 (B7 (D4 (K := K) rfl hr.units) (qpv 12) (qpv 3) (C4 _)) (O9 (B7 (D4 (K := K) rfl hr.units) (qpv 11) C6 (C4 _)))))
     (A7 (D9 (F5 (K := K) rfl PySem.F.plainAttrs_list PySem.F.slot_list_append PySem.F.type_list_append D5 (qpv 7) (A0 (A6 (F9 (K := K) T) hr.mo rfl T.m_Lminus T.F_Lminus.kp (G6 T) .nil B5 (A0 (qpv 13) (A0 (qpv 6) A1))) A1))))
     C3))))
   (A2 (B3 (i := 14) sc_Lalone.nd rfl (Or.inl rfl) (A8 (A5 (K := K) rfl) (qpv 7) A3 (fun _ _ => rfl)))
   (A2 (F0 PassesOwn.never rfl (F2 (K := K) rfl (qpv 7)) (A9 (i := 15) sc_Lalone.nd rfl (Or.inl rfl) (Or.inl rfl))
    (A7 (D0 (F8 (A6 (P7 (K := K) T) hr.mo rfl T.m_Lunder T.F_Lunder.kp (S6 T) .nil B5 (A0 (qpv 15) (A0 (qpv 14) A1))))
     (A7 (B3 (i := 14) sc_Lalone.nd rfl (Or.inl rfl) (qpv 15)))
     C3)))
   (A7 (C0 (qpv 14))))))))))), ?_⟩
 haveI := T.c2_NOUGHT
 haveI := T.c2_ONE
 refine Pu.G3 h ?_
 rintro as Qp ⟨xs, ws, hs, gs, ps, W, n, B, a, rfl, ok, oW, hn, k⟩
 have n0 : (0 : Int) <= (n : Int) := by omega
 have n1 : (n : Int) < (ps.length : Int) := by omega
 have sn := ok.st n0 n1
 have o0 : On B (2 ^ (a + 3)) (W - enD (sat ps (n : Int))) := ((oW.p2 (b := a + 1) (by omega)).sub2 ok.b0 sn.2.2 (show a + 1 + 1 <= a + 2 by omega)).p2 (by omega)
 have wl := ok.wl
 have hl := ok.hl
 unfold netD
 refine hd fun R hR => ?_
 trivial
 refine E8 (T1 n0 n1) ?_
 trivial
 subst hR
 refine hd fun R hR => ?_
 trivial
 refine ⟨_, _, rfl, ok.sm sn.1 (by omega), ok.sm sn.2.1 (by omega), ?_⟩
 trivial
 subst hR
 rw [show (sat ps (n : Int)).1 + (sat ps (n : Int)).2 = enD (sat ps (n : Int)) from rfl]
 refine hd fun R hR => ?_
 trivial
 refine ⟨W, _, rfl, ok.sm oW (by omega), ok.sm sn.2.2 (by omega), ?_⟩
 trivial
 subst hR
 refine hd fun R hR => ?_
 trivial
 refine K2 (f := wD) (xs := ws) (fun i e => ∃ o8 o9 o10 : Option SV, e = [some (.d (.tuple [.list (xs.map kD), .list (ws.map wD), .list (hs.map hD), .list gs])), some (.d (.list (ps.map dcn))), some (.d (dq W)), some (.d (.int (n : Int))), some (.d (dq (sat ps (n : Int)).1)), some (.d (dq (sat ps (n : Int)).2)), some (.d (dq (enD (sat ps (n : Int))))), some (.own ((rmA ws ps W n i).map dq)), o8, o9, o10, none, none, none, none, none]) ⟨_, _, _, rfl⟩ ?_ ?_
 ·rintro i x e hi ⟨o8, o9, o10, rfl⟩
  have hx := List.mem_of_getElem? hi
  obtain ⟨ha, hb, hlg⟩ := ok.w x hx
  have so := ok.st hb.1 hb.2
  rw [A9c hi]
  rw [show wD x = PyData.tuple [.int x.1, .int x.2.1, dq x.2.2] from rfl]
  trivial
  refine ite2 (fun z => ?_) (fun z => by rw [if_neg z, List.append_nil]; exact ⟨_, _, _, rfl⟩)
  rw [if_pos z]
  refine E8 (T1 hb.1 hb.2) ?_
  trivial
  refine ⟨_, _, rfl, ok.sm so.1 (by omega), ok.sm sn.2.2 (by omega), ?_⟩
  trivial
  refine ⟨_, _, rfl, ok.sm ((so.1.p2 (b := a + 1) (by omega)).sub2 ok.b0 sn.2.2 (show a + 1 + 1 <= a + 2 by omega)) (by omega), ok.sm hlg (by omega), ?_⟩
  have ew : (sat ps x.2.1).1 - enD (sat ps (n : Int)) - x.2.2 = wSl ps x := by unfold wSl; rw [z]; grind
  trivial
  rw [ew]
  exact ⟨by unfold rmA; simp; have := List.length_filter_le (fun w : Int × Int × Rat => decide (w.1 = (n : Int))) (ws.take i); rw [List.length_take] at this; omega, _, _, _, by rw [List.map_append]; rfl⟩
 rintro e ⟨o8, o9, o10, rfl⟩
 subst hR
 dsimp only
 refine hd fun R hR => ?_
 trivial
 refine K2 (f := hD) (xs := hs) (fun i e => ∃ o8 o9 o10 o11 o12 o13 : Option SV, e = [some (.d (.tuple [.list (xs.map kD), .list (ws.map wD), .list (hs.map hD), .list gs])), some (.d (.list (ps.map dcn))), some (.d (dq W)), some (.d (.int (n : Int))), some (.d (dq (sat ps (n : Int)).1)), some (.d (dq (sat ps (n : Int)).2)), some (.d (dq (enD (sat ps (n : Int))))), some (.own ((rmB ws hs ps W n i).map dq)), o8, o9, o10, o11, o12, o13, none, none]) ⟨_, _, _, _, _, _, by rw [show rmB ws hs ps W n 0 = rmA ws ps W n ws.length from List.append_nil _]⟩ ?_ ?_
 ·rintro i x e hi ⟨o8, o9, o10, o11, o12, o13, rfl⟩
  have hx := List.mem_of_getElem? hi
  obtain ⟨hk, hb, hlg⟩ := ok.h x hx
  rw [A9b hi]
  have lB : (rmB ws hs ps W n i).length < 1000000 := by
   unfold rmB rmA
   have h1 := List.length_filter_le (fun w : Int × Int × Rat => decide (w.1 = (n : Int))) (ws.take ws.length)
   have h2 := List.length_filter_le (hTB n) (hs.take i)
   rw [List.length_take] at h1 h2
   simp only [List.length_append, List.length_cons, List.length_map]
   omega
  obtain ⟨kd, o, m⟩ := x
  rw [show hD (kd, o, m) = PyData.tuple [.str kd, .int o, dq m] from rfl]
  trivial
  have hf : ∀ {l : LQ}, hTB n (kd, o, m) = false -> rmB ws hs ps W n i ++ (if hTB n (kd, o, m) = true then l else []) = rmB ws hs ps W n i := fun h => by rw [h]; simp
  have ht : ∀ {l : LQ}, hTB n (kd, o, m) = true -> rmB ws hs ps W n i ++ (if hTB n (kd, o, m) = true then l else []) = rmB ws hs ps W n i ++ l := fun h => by rw [if_pos h]
  refine ite2 (fun z => ?_) (fun z => ?_)
  ·have z' : o = (n : Int) := z
   refine ⟨hk.lay, Q9, ?_⟩
   rcases hk with hk | hk | hk
   ·have hk' : kd = "from" := hk
    subst hk'
    rw [B73, if_neg (by decide)]
    refine ite2 (fun _ => ⟨A3i, A0v, ?_⟩) (fun y => absurd z y)
    rw [B74, if_neg (by decide)]
    rw [hf (by unfold hTB; simp)]
    exact ⟨_, _, _, _, _, _, rfl⟩
   ·have hk' : kd = "till" := hk
    subst hk'
    have eh : hSl ps (Str.ofString "till", o, m) = m - (sat ps (n : Int)).1 := by rw [<- z']; exact (if_neg A7k).trans (if_pos rfl)
    rw [A8c, if_pos rfl]
    refine ⟨_, _, rfl, ok.sm hlg (by omega), ok.sm sn.1 (by omega), ?_⟩
    trivial
    refine ⟨lB, ite2 (fun _ => ⟨Q9, A0v, ?_⟩) (fun y => absurd z y)⟩
    rw [B72, if_neg (by decide)]
    rw [ht (hTB_iff.mpr ⟨z', A7k⟩), eh, List.map_append]
    exact ⟨_, _, _, _, _, _, rfl⟩
   ·have hk' : kd = "by" := hk
    subst hk'
    have eh : hSl ps (Str.ofString "by", o, m) = m - enD (sat ps (n : Int)) := by rw [<- z']; exact (if_neg A7l).trans (if_neg A95)
    rw [A8d, if_neg (by decide)]
    refine ite2 (fun _ => ⟨A0v, A0v, ?_⟩) (fun y => absurd z y)
    rw [B75, if_pos rfl]
    refine ⟨_, _, rfl, ok.sm hlg (by omega), ok.sm sn.2.2 (by omega), ?_⟩
    trivial
    rw [ht (hTB_iff.mpr ⟨z', A7l⟩), eh, List.map_append]
    exact ⟨lB, _, _, _, _, _, _, rfl⟩
  ·refine ite2 (fun y => absurd y z) (fun _ => ?_)
   rw [hf (by unfold hTB; rw [decide_eq_false z]; rfl)]
   exact ⟨_, _, _, _, _, _, rfl⟩
 rintro e ⟨o8, o9, o10, o11, o12, o13, rfl⟩
 subst hR
 dsimp only
 refine hd fun R hR => ?_
 trivial
 refine B6 (f := dq) (n := 0) (xs := rmB ws hs ps W n hs.length) (a := W - enD (sat ps (n : Int))) rfl ?_
 have oR : ∀ q ∈ rmB ws hs ps W n hs.length, On B (2 ^ (a + 3)) q := fun q hq => by
  rcases List.mem_append.mp hq with y | y
  ·rcases List.mem_cons.mp y with rfl | y
   ·exact o0
   ·obtain ⟨w, hw, rfl⟩ := List.mem_map.mp y
    exact (ok.wS (List.mem_of_mem_take (List.mem_filter.mp hw).1)).1
  ·obtain ⟨w, hw, rfl⟩ := List.mem_map.mp y
   exact ok.hS (List.mem_of_mem_take (List.mem_filter.mp hw).1)
 trivial
 subst hR
 trivial
 refine K2 (f := dq) (xs := rmB ws hs ps W n hs.length) (fun i e => ∃ (s7 : Option SV) (o8 o9 o10 o11 o12 o13 o15 : Option SV), e = [some (.d (.tuple [.list (xs.map kD), .list (ws.map wD), .list (hs.map hD), .list gs])), some (.d (.list (ps.map dcn))), some (.d (dq W)), some (.d (.int (n : Int))), some (.d (dq (sat ps (n : Int)).1)), some (.d (dq (sat ps (n : Int)).2)), some (.d (dq (enD (sat ps (n : Int))))), s7, o8, o9, o10, o11, o12, o13, some (.d (dq (lm ((rmB ws hs ps W n hs.length).take i) (W - enD (sat ps (n : Int)))))), o15]) ⟨_, _, _, _, _, _, _, _, rfl⟩ ?_ ?_
 ·rintro i x e hi ⟨s7, o8, o9, o10, o11, o12, o13, o15, rfl⟩
  have ol : On B (2 ^ (a + 3)) (lm ((rmB ws hs ps W n hs.length).take i) (W - enD (sat ps (n : Int)))) := A98 (fun v hv => oR v (List.mem_of_mem_take hv)) o0
  have es : lm ((rmB ws hs ps W n hs.length).take (i + 1)) (W - enD (sat ps (n : Int))) = if x < lm ((rmB ws hs ps W n hs.length).take i) (W - enD (sat ps (n : Int))) then x else lm ((rmB ws hs ps W n hs.length).take i) (W - enD (sat ps (n : Int))) := by
   rw [List.take_add_one, hi]; exact A7r _ _ _
  rw [es]
  trivial
  refine ⟨_, _, rfl, ok.sm (oR x (List.mem_of_getElem? hi)) (by omega), ok.sm ol (by omega), ?_⟩
  trivial
  refine ite2 (fun z => ?_) (fun z => ?_)
  ·rw [if_pos z]; exact ⟨_, _, _, _, _, _, _, _, rfl⟩
  ·rw [if_neg z]; exact ⟨_, _, _, _, _, _, _, _, rfl⟩
 rintro e ⟨s7, o8, o9, o10, o11, o12, o13, o15, rfl⟩
 rw [List.take_length, B52]
 trivial
 exact k
def A5o : Pu.PSp := fun as Q => ∃ (xs : List Wk) (ws : LW) (hs : LH) (gs : LP) (ps : LR) (W : Rat) (B a : Nat), as = [.d (netD xs ws hs gs), .d (.list (ps.map dcn)), .d (dq W), .d (.list ((slL ws hs ps W).map dcn)), .d (.list ((latS (ps.map (·.2)) ws hs W).map dq))] /\ PSz B a ws hs ps /\ On B (2 ^ a) W /\ (latS (ps.map (·.2)) ws hs W).length = ps.length /\ (∀ q ∈ latS (ps.map (·.2)) ws hs W, On B (2 ^ a) q) /\ (∀ i, i < ps.length -> 0 <= alo ws hs ps W i /\ alo ws hs ps W i <= rat (latS (ps.map (·.2)) ws hs W) (i : Int) - (sat ps (i : Int)).1) /\ Q (.d (.bool true))
theorem A0r (T : Txt K mg D) : FnOk P w K mg base CX0 4 D.a_Lright D.d_Lright ["_law_net", "_law_plan", "_law_whole", "_law_found", "_law_late"] (Pu.spOf K [.dat, .dat, .dat, .dat, .dat] A5o) := by
 refine T.F_Lright.ok sc_Lright (Pu.spOf.len rfl) (fun cdv A outer s H vs Q E hr h => ?_)
 refine ⟨_, (QSs.out (A2 (D0 (QW.pt (M1 (O2 (F8 (B9 (L3 (K := K) rfl) (by rfl) T.z_isinstance (by rfl) (A0 (qpv 3) (A0 (M4 (v := .ty "list") rfl T.z_list (by rfl) rfl) A1))))) (M3 (B7 (K1 (K := K) rfl hr.units) (B9 (C2 (K := K) rfl) (by rfl) T.z_len PySem.boot_len (A0 (qpv 3) A1)) (B9 (C2 (K := K) rfl) (by rfl) T.z_len PySem.boot_len (A0 (qpv 1) A1)) (C4 _)))))
    (A7 (C0 K7))
    C3)
   (A2 (F0 PassesOwn.never rfl (E9 rfl T.z_range (A0 (B9 (C2 (K := K) rfl) (by rfl) T.z_len PySem.boot_len (A0 (qpv 1) A1)) A1)) (A9 (i := 5) sc_Lright.nd rfl (Or.inl rfl) (Or.inl rfl))
    (A2 (B3 (i := 6) sc_Lright.nd rfl (Or.inl rfl) (A8 (A5 (K := K) rfl) (qpv 3) (qpv 5) (fun _ _ => rfl)))
    (A2 (D0 (QW.pt (M1 (O2 (F8 (B9 (L3 (K := K) rfl) (by rfl) T.z_isinstance (by rfl) (A0 (qpv 6) (A0 (M4 (v := .ty "tuple") rfl T.z_tuple (by rfl) rfl) A1))))) (M1 (B7 (K1 (K := K) rfl hr.units) (B9 (C2 (K := K) rfl) (by rfl) T.z_len PySem.boot_len (A0 (qpv 6) A1)) A3 (C4 _)) (M1 (O2 (F8 (A6 (Q8 (K := K) T) hr.mo rfl T.m_Lfraction T.F_Lfraction.kp (U5 T) .nil B5 (A0 (A8 (A5 (K := K) rfl) (qpv 6) A3 (fun _ _ => rfl)) A1)))) (M3 (O2 (F8 (A6 (Q8 (K := K) T) hr.mo rfl T.m_Lfraction T.F_Lfraction.kp (U5 T) .nil B5 (A0 (A8 (A5 (K := K) rfl) (qpv 6) A3 (fun _ _ => rfl)) A1)))))))))
     (A7 (C0 K7))
     C3)
    (A2 (D0 (QW.pt (M1 (B7 (K1 (K := K) rfl hr.units) (A8 (A5 (K := K) rfl) (qpv 6) A3 (fun _ _ => rfl)) (A6 (A63 (K := K) T) hr.mo rfl T.m_Lalone T.F_Lalone.kp (B0w T) .nil B5 (A0 (qpv 0) (A0 (qpv 1) (A0 (qpv 2) (A0 (qpv 5) A1))))) (C4 _)) (M1 (B7 A4b (A8 (A5 (K := K) rfl) (A8 (A5 (K := K) rfl) (qpv 6) A3 (fun _ _ => rfl)) A3 (fun _ _ => rfl)) A3 (C4 _)) (M3 (F8 (A6 (P7 (K := K) T) hr.mo rfl T.m_Lunder T.F_Lunder.kp (S6 T) .nil B5 (A0 (A8 (A5 (K := K) rfl) (qpv 6) A3 (fun _ _ => rfl)) (A0 (A8 (A5 (K := K) rfl) (qpv 6) A3 (fun _ _ => rfl)) A1))))))))
     (A7 (C0 K7))
     C3)
    (A7 (D0 (B7 (K1 (K := K) rfl hr.units) (A6 (F3 (K := K) T) hr.mo rfl T.m_Lplus T.F_Lplus.kp (G2 T) .nil B5 (A0 (A8 (A5 (K := K) rfl) (A8 (A5 (K := K) rfl) (qpv 1) (qpv 5) (fun _ _ => rfl)) A3 (fun _ _ => rfl)) (A0 (A8 (A5 (K := K) rfl) (qpv 6) A3 (fun _ _ => rfl)) A1))) (A8 (A5 (K := K) rfl) (qpv 4) (qpv 5) (fun _ _ => rfl)) (C4 _))
     (A7 (C0 K7))
     C3))))))
   (A7 (C0 K7))))), ?_⟩
 haveI := T.c2_NOUGHT
 haveI := T.c2_ONE
 refine Pu.G3 h ?_
 rintro as Qp ⟨xs, ws, hs, gs, ps, W, B, a, rfl, ok, oW, ll, oL, hal, k⟩
 have p10 := ok.ln
 refine hd fun R hR => ?_
 trivial
 rw [A1q]
 refine ite2 (fun _ => ?_) (fun z => absurd rfl z)
 subst hR
 trivial
 refine ⟨by omega, N6 (fun i e => ∃ o5 o6 : Option SV, e = [some (.d (netD xs ws hs gs)), some (.d (.list (ps.map dcn))), some (.d (dq W)), some (.d (.list ((slL ws hs ps W).map dcn))), some (.d (.list ((latS (ps.map (·.2)) ws hs W).map dq))), o5, o6]) ⟨_, _, rfl⟩ ?_ ?_⟩
 ·rintro i e hi ⟨o5, o6, rfl⟩
  have hil : i < ps.length := by omega
  have i0 : (0 : Int) <= (i : Int) := by omega
  have i1 : (i : Int) < (ps.length : Int) := by omega
  have si := ok.st i0 i1
  have ri := oL _ (Q2 (ss := latS (ps.map (·.2)) ws hs W) i0 (by omega))
  have oa := B8n ok oW hil
  have ot := ri.sub2 ok.b0 si.1 (Nat.le_refl (a + 1))
  obtain ⟨al0, al1⟩ := hal i hil
  refine hd fun R hR => ?_
  trivial
  refine B6 (f := dcn) (B5v (A48 hil)) ?_
  trivial
  subst hR
  refine hd fun R hR => ?_
  trivial
  rw [<- B79]
  trivial
  refine ite2 (fun _ => ?_) (fun z => absurd (by decide) z)
  refine ⟨_, rfl, ok.sm oa (by omega), ?_⟩
  trivial
  refine ⟨_, rfl, ok.sm ot (by omega), ?_⟩
  trivial
  subst hR
  refine hd fun R hR => ?_
  trivial
  refine ⟨xs, ws, hs, gs, ps, W, i, B, a, rfl, ok, oW, hil, ?_⟩
  trivial
  refine ite2 (fun z => absurd (num_lt.mp z) (Rat.not_lt.mpr al0)) (fun _ => ?_)
  refine ⟨_, _, rfl, ok.sm ot (by omega), ok.sm oa (by omega), ?_⟩
  trivial
  refine ite2 (fun z => absurd z (Rat.not_lt.mpr al1)) (fun _ => ?_)
  subst hR
  trivial
  refine E8 (T1 i0 i1) ?_
  trivial
  refine ⟨_, _, rfl, ok.sm si.1 (by omega), ok.sm ot (by omega), ?_⟩
  trivial
  refine E8 (A2t i0 (by omega)) ?_
  rw [show (sat ps (i : Int)).1 + (rat (latS (ps.map (·.2)) ws hs W) (i : Int) - (sat ps (i : Int)).1) = rat (latS (ps.map (·.2)) ws hs W) (i : Int) by grind]
  trivial
  exact ⟨_, _, rfl⟩
 rintro e ⟨o5, o6, rfl⟩
 trivial
 exact k
theorem B62 (T : Txt K mg D) : FnOk P w K mg base CX0 10 D.a_law D.d_law ["_law_script"] (B2y K) := by
 refine FnOk.imp (sp := Pu.spOf K [.vw] Pu.pLaw) ?_ Pu.B7o
 refine T.F_law.ok sc_law (Pu.spOf.len rfl) (fun cdv A outer s H vs Q E hr h => ?_)
 refine ⟨_, (QSs.out (A2 (E6 (A6 (A62 (K := K) T) hr.mo rfl T.m_Ldrawn T.F_Ldrawn.kp (B0v T) .nil B5 (A0 (qpv 0) (A0 (D3 (A0 C6 (A0 C6 (A0 C6 A1)))) A1))) (C9 (K := K) (n := 3) rfl rfl (B2 (A9 (i := 1) sc_law.nd rfl (Or.inl rfl) (Or.inl rfl)) (B2 (A9 (i := 2) sc_law.nd rfl (Or.inl rfl) (Or.inl rfl)) (B2 (A9 (i := 3) sc_law.nd rfl (Or.inl rfl) (Or.inl rfl)) C8))) rfl rfl))
   (A2 (B3 (i := 4) sc_law.nd rfl (Or.inl rfl) (A6 (L0 (K := K) T) hr.mo rfl T.m_Lbegun T.F_Lbegun.kp (M7 T) .nil B5 (A0 (qpv 0) (A0 A3 A1))))
   (A2 (B3 (i := 5) sc_law.nd rfl (Or.inl rfl) (A6 (Y0 (K := K) T) hr.mo rfl T.m_Llatestend T.F_Llatestend.kp (A1k T) .nil B5 (A0 (qpv 2) A1)))
   (A2 (D0 (B7 (D4 (K := K) rfl hr.units) (A6 (C7 (K := K) T) hr.mo rfl T.m_Ltake T.F_Ltake.kp (D1 T) .nil B5 (A0 (qpv 4) (A0 A3 A1))) A3 (C4 _))
    (A7 (B3 (i := 5) sc_law.nd rfl (Or.inl rfl) (A6 (F3 (K := K) T) hr.mo rfl T.m_Lplus T.F_Lplus.kp (G2 T) .nil B5 (A0 (qpv 5) (A0 (A6 (G9 (K := K) T) hr.mo rfl T.m_Lamount T.F_Lamount.kp (J8 T) .nil B5 (A0 (qpv 4) (A0 K7 (A0 A3 A1)))) A1)))))
    C3)
   (A2 (B3 (i := 6) sc_law.nd rfl (Or.inl rfl) (B8w (D3 (A0 (A6 (A9y (K := K) T 8) hr.mo rfl T.m_Lcopy T.F_Lcopy.kp (A2g T) .nil B5 (A0 (qpv 1) A1)) (A0 (K4 (A07 (K := K) rfl) (by rfl) T.z_list (by rfl) (A0 (qpv 2) A1)) A1)))))
   (A2 (B3 (i := 7) sc_law.nd rfl (Or.inl rfl) (A6 (V6 (K := K) T) hr.mo rfl T.m_slipsof T.F_slipsof.kp (A1i T) .nil B5 (A0 (qPo (A8 (A5 (K := K) rfl) (qpv 6) A3 (fun _ _ => rfl))) (A0 (qPo (A8 (A5 (K := K) rfl) (qpv 6) A3 (fun _ _ => rfl))) (A0 (qpv 5) A1)))))
   (A2 (B3 (i := 8) sc_law.nd rfl (Or.inl rfl) (A6 (A0n (K := K) T) hr.mo rfl T.m_latest T.F_latest.kp (A3v T) .nil B5 (A0 (qpv 1) (A0 (L6 rfl (E7 (N' := ["_law_start", "_law_time_here"]) (cap := [none, none]) rfl rfl rfl rfl (by decide +kernel) rfl rfl) (F2 (K := K) rfl (qpv 2)) (fun _ _ _ => (C9 (K := K) (n := 2) rfl rfl (B2 (A9 (i := 0) (show (["_law_start", "_law_time_here"] : List Str).Nodup from by decide +kernel) rfl (Or.inl rfl) (Or.inr rfl)) (B2 (A9 (i := 1) (show (["_law_start", "_law_time_here"] : List Str).Nodup from by decide +kernel) rfl (Or.inl rfl) (Or.inr rfl)) C8)) rfl rfl)) (fun _ _ _ => G4) (fun _ _ _ => (qpv 1))) (A0 (qpv 5) A1)))))
   (A2 (D0 (QW.pt (M1 (B7 (K1 (K := K) rfl hr.units) (A8 (A5 (K := K) rfl) (qpv 8) A3 (fun _ _ => rfl)) C6 (C4 _)) (M3 (B7 (K1 (K := K) rfl hr.units) (qpv 6) (D3 (A0 (qpv 1) (A0 (qpv 2) A1))) (C4 _)))))
    (A7 (C0 K7))
    C3)
   (A2 (D0 (O2 (F8 (B08 (A6 (A0r (K := K) T) hr.mo rfl T.m_Lright T.F_Lright.kp (A3y T) .nil B5 (A0 (qpv 1) (A0 (qpv 2) (A0 (qpv 5) (A0 (qpv 7) (A0 (A8 (A5 (K := K) rfl) (qpv 8) A3 (fun _ _ => rfl)) A1)))))))))
    (A7 (C0 K7))
    C3)
   (A2 (E6 G7 (K0 (qpv 7) A3 G0))
   (A2 (D9 (F5 (K := K) rfl PySem.F.plainAttrs_list PySem.F.slot_list_append PySem.F.type_list_append D5 (qpv 7) (A0 G7 A1)))
   (A7 (C0 (B08 (A6 (A0r (K := K) T) hr.mo rfl T.m_Lright T.F_Lright.kp (A3y T) .nil B5 (A0 (qpv 1) (A0 (qpv 2) (A0 (qpv 5) (A0 (A6 (V6 (K := K) T) hr.mo rfl T.m_slipsof T.F_slipsof.kp (A1i T) .nil B5 (A0 (qpv 1) (A0 (qpv 2) (A0 (qpv 5) A1)))) (A0 (A8 (A5 (K := K) rfl) (qpv 8) A3 (fun _ _ => rfl)) A1))))))))))))))))))))), ?_⟩
 haveI := T.c2_NOUGHT
 haveI := T.c2_ONE
 refine Pu.G3 h ?_
 rintro as Qp ⟨ns, rfl, hns, k⟩
 refine hd fun R hR => ?_
 trivial
 refine ⟨ns, ["straight", "straight", "steps"], rfl, hns, by decide, by decide, kz3, fun n xs vs us pa ps ws hs gs ok h1 h2 h4 h5 h6 h7 hg => ?_⟩
 have d := B86 ok h1 h2 h4 h5 h6 h7
 clear h2 h4 h5 h6 h7
 have p10 := d.sz.ln
 have sL : ∀ {a : Nat} {q : Rat}, On (LL * 4) (2 ^ a) q -> a <= 1000 -> SmQ 3900 q := fun h g => onB h (by decide) (W6 B5i (by decide)) g
 have hhk : ∀ h ∈ hs, Hk h.1 := fun h hh => (d.sz.h h hh).1
 have hnet : okA 8 (netD xs ws hs gs) := A9z (B4f (fun x hx => ⟨ok.nm x hx, (ok.of x hx).1, by have := (ok.of x hx).2.1.ok.le; omega⟩) (by have := ok.ln; have := ok.n1; omega) (by have := d.sz.wl; omega) (by have := d.sz.hl; omega) hhk) hg
 trivial
 subst hR
 refine hd fun R hR => ?_
 trivial
 refine ⟨ns, _, rfl, by decide, by decide, ?_⟩
 trivial
 subst hR
 refine hd fun R hR => ?_
 trivial
 refine ⟨ps, LL * 4, rfl, by decide, W6 B5i (by decide), fun p hp => ⟨(d.s50 p hp).1.p2 (by decide), (d.s50 p hp).2.p2 (by decide)⟩, fun m m0 hm hc => ?_⟩
 have om : On (LL * 4) (2 ^ 51) m := by
  rcases hc with rfl | ⟨p, hp, rfl⟩
  ·exact On.zero.mono (Nat.zero_le _)
  ·exact (d.s50 p hp).1.add2 (by decide) (d.s50 p hp).2 (by decide)
 trivial
 subst hR
 refine Q1 (fun e => ∃ W : Rat, e = [some (.bor (ns.map .int)), some (.d (netD xs ws hs gs)), some (.d (.list (ps.map dcn))), some (.d (.list (pa.map paD))), some .st, some (.d (dq W)), none, none, none] /\ (∀ p ∈ ps, enD p <= W) /\ On (LL * 4) (2 ^ 52) W) (fun R hR => ?_) ?_
 ·trivial
  refine ⟨3, rfl, by decide, sm4 3, fun dd d0 d1 => ?_⟩
  trivial
  refine ite2 (fun z => ?_) (fun z => hR _ ⟨m, rfl, hm, om.p2 (by decide)⟩)
  refine ⟨false, 1, rfl, .inr rfl, fun q q0 q1 sq _ => ?_⟩
  trivial
  have oq : On (LL * 4) (2 ^ 51) q := ((N3 sq).up (by decide)).p2 (by decide)
  refine ⟨m, q, rfl, sL om (by decide), sL oq (by decide), ?_⟩
  trivial
  exact hR _ ⟨m + q, rfl, fun p hp => by have := hm p hp; grind, om.add2 (by decide) oq (by decide)⟩
 rintro e ⟨W, rfl, hW, oW⟩
 clear hm om hc
 have W4 : O4 W := oW.p2 (by decide)
 have fo := d.fo W4 hW
 have K := d.kp (some W) fun V e => by cases e; exact hW
 have ll := Y6 fo
 rw [List.length_map] at ll
 have hP : Pot (L5 (ps.map (·.2)) ws hs (some W)) ps.length (pvS ps) := d.pot hW
 have d7 := d.sz.more (b := 70) (by decide) (by decide)
 have hal : ∀ i, i < ps.length -> 0 <= alo ws hs ps W i /\ alo ws hs ps W i <= rat (latS (ps.map (·.2)) ws hs W) (i : Int) - (sat ps (i : Int)).1 := fun i hi => by
  refine ⟨B2o K hi, ?_⟩
  have ks := K.shf d.ix hi (B2o K hi) Rat.le_refl
  have := B4t (B22 hi) ks hhk fo i ((sat ps (i : Int)).1 + alo ws hs ps W i) (rat (latS (ps.map (·.2)) ws hs W) (i : Int)) (by
   rw [List.getElem?_map, A48 (ps := shf ps i (alo ws hs ps W i)) (by rw [B23]; exact hi), X0 hi (by omega), if_pos rfl]; rfl) (by
   unfold rat
   rw [List.getD_eq_getElem?_getD, Int.toNat_natCast, List.getElem?_eq_getElem (by rw [ll]; exact hi)]; rfl)
  grind
 refine hd fun R hR => ?_
 trivial
 refine ⟨_, rfl, hnet, fun t ht => ?_⟩
 have hdat := ht.dat
 obtain ⟨a0, a1, k1, a2, a3, a4, k4, rfl⟩ := B48 ht
 trivial
 refine A6u fun b0 _ _ => ⟨Nat.le_of_ble_eq_true rfl, fun a5 _ => ?_⟩
 subst hR
 refine hd fun R hR => ?_
 trivial
 refine ⟨_, rfl, _, rfl, B8s ?_⟩
 trivial
 refine ⟨_, ws, hs, ps, W, LL * 4, 58, rfl, ⟨_, _, rfl, S8, rfl, S8⟩, d.sz, W4, d.nk, W4, ⟨_, hP⟩, ?_⟩
 trivial
 subst hR
 refine hd fun R hR => ?_
 trivial
 refine ⟨by omega, K3 (f := dcn) (xs := ps) (fun i e ys => ∃ o1 o2 : Option SV, e = [o1, o2] /\ ys = ((ps.map (·.2)).take i).map dq) ⟨_, _, rfl, rfl⟩ ?_ ?_⟩
 ·rintro i x e ys hi ⟨o1, o2, rfl, rfl⟩
  trivial
  refine ⟨_, _, rfl, ?_⟩
  rw [List.take_add_one, List.getElem?_map, hi, List.map_append]
  rfl
 rintro e ys ⟨o1, o2, rfl, rfl⟩
 rw [show (ps.map (·.2)).take ps.length = ps.map (·.2) from List.take_of_length_le (by rw [List.length_map]; exact Nat.le_refl _)]
 trivial
 refine ⟨_, ps.map (·.2), ws, hs, W, rfl, NetB.leaf, d.nk, W4, ⟨_, by rw [List.length_map]; exact hP⟩, ?_⟩
 trivial
 subst hR
 refine hd fun R hR => ?_
 trivial
 have hly := T7 8 hnet
 have hll : (PyData.list [netD xs ws hs gs, .list (ps.map dcn)]).canLay0 = true := Y5 fun x hx => by
  simp only [List.mem_cons, List.not_mem_nil, or_false] at hx
  rcases hx with rfl | rfl
  ·exact hly.1
  ·exact B7n _
 refine ⟨by decide +kernel, by decide +kernel, _, B7z hdat, hll, hll, ?_, ?_⟩
 ·refine Nat.le_trans (Nat.succ_le_succ (Z0 (n := 59) fun x hx => ?_)) (Nat.le_refl _)
  simp only [List.mem_cons, List.not_mem_nil, or_false] at hx
  rcases hx with rfl | rfl
  ·exact Nat.le_trans hly.2 (by decide)
  ·exact Nat.le_trans (Nat.succ_le_succ (A01 _)) (by decide)
 rw [PySem.SeqAt.eqv_refl _ hll]
 refine ite2 (fun z => nomatch z) fun _ => ?_
 subst hR
 refine hd fun R hR => ?_
 trivial
 refine ⟨xs, ws, hs, gs, ps, W, LL * 4, 70, rfl, d7, W4.p2 (by decide), ll, A15 fo, hal, true, rfl, ?_⟩
 refine ite2 (fun z => nomatch z) fun _ => ?_
 subst hR
 have n0 := d.n0
 have lnn := d.ln
 refine hd fun R hR => ?_
 trivial
 refine ⟨0, N5 (o := 0) (by decide) (by rw [A1q]; omega), ?_⟩
 subst hR
 refine hd fun R hR => ?_
 trivial
 refine ⟨by rw [List.length_set, List.length_map, A1q]; omega, ?_⟩
 subst hR
 trivial
 refine ⟨_, ws, hs, ps, W, LL * 4, 58, rfl, NetB.leaf, d.sz, W4, d.nk, W4, ⟨_, hP⟩, ?_⟩
 trivial
 refine ⟨xs, ws, hs, gs, ps, W, LL * 4, 70, rfl, d7, W4.p2 (by decide), ll, A15 fo, hal, true, rfl, ?_⟩
 exact k
end
theorem all_mk {l : PySem.W.OpenLaw} {w : World} {K : PySem.W.Frag} {h : Heap} {mg : Str -> Option Value} {fa : Addr} (X : K.In h) (G : h.Ns mainGlobals mg) (hfa : mg "law" = some (.ref fa))
  {od_commonpart an_commonpart : Option Addr} {sl_commonpart : Array (Option Value)} {oc_commonpart kV_commonpart dc_commonpart pm_commonpart cd_commonpart ct_commonpart : Value} {a_commonpart : Addr}
  {od_plus an_plus : Option Addr} {sl_plus : Array (Option Value)} {oc_plus kV_plus dc_plus pm_plus cd_plus ct_plus : Value} {a_plus : Addr}
  {od_minus an_minus : Option Addr} {sl_minus : Array (Option Value)} {oc_minus kV_minus dc_minus pm_minus cd_minus ct_minus : Value} {a_minus : Addr}
  {od_isless an_isless : Option Addr} {sl_isless : Array (Option Value)} {oc_isless kV_isless dc_isless pm_isless cd_isless ct_isless : Value} {a_isless : Addr}
  {od_smaller an_smaller : Option Addr} {sl_smaller : Array (Option Value)} {oc_smaller kV_smaller dc_smaller pm_smaller cd_smaller ct_smaller : Value} {a_smaller : Addr}
  {od_endof an_endof : Option Addr} {sl_endof : Array (Option Value)} {oc_endof kV_endof dc_endof pm_endof cd_endof ct_endof : Value} {a_endof : Addr}
  {od_waitslack an_waitslack : Option Addr} {sl_waitslack : Array (Option Value)} {oc_waitslack kV_waitslack dc_waitslack pm_waitslack cd_waitslack ct_waitslack : Value} {a_waitslack : Addr}
  {od_holdslack an_holdslack : Option Addr} {sl_holdslack : Array (Option Value)} {oc_holdslack kV_holdslack dc_holdslack pm_holdslack cd_holdslack ct_holdslack : Value} {a_holdslack : Addr}
  {od_holdway an_holdway : Option Addr} {sl_holdway : Array (Option Value)} {oc_holdway kV_holdway dc_holdway pm_holdway cd_holdway ct_holdway : Value} {a_holdway : Addr}
  {od_waysof an_waysof : Option Addr} {sl_waysof : Array (Option Value)} {oc_waysof kV_waysof dc_waysof pm_waysof cd_waysof ct_waysof : Value} {a_waysof : Addr}
  {od_stretch an_stretch : Option Addr} {sl_stretch : Array (Option Value)} {oc_stretch kV_stretch dc_stretch pm_stretch cd_stretch ct_stretch : Value} {a_stretch : Addr}
  {od_ringpaper an_ringpaper : Option Addr} {sl_ringpaper : Array (Option Value)} {oc_ringpaper kV_ringpaper dc_ringpaper pm_ringpaper cd_ringpaper ct_ringpaper : Value} {a_ringpaper : Addr}
  {od_farthest an_farthest : Option Addr} {sl_farthest : Array (Option Value)} {oc_farthest kV_farthest dc_farthest pm_farthest cd_farthest ct_farthest : Value} {a_farthest : Addr}
  {od_earliest an_earliest : Option Addr} {sl_earliest : Array (Option Value)} {oc_earliest kV_earliest dc_earliest pm_earliest cd_earliest ct_earliest : Value} {a_earliest : Addr}
  {od_latest an_latest : Option Addr} {sl_latest : Array (Option Value)} {oc_latest kV_latest dc_latest pm_latest cd_latest ct_latest : Value} {a_latest : Addr}
  {od_slipalone an_slipalone : Option Addr} {sl_slipalone : Array (Option Value)} {oc_slipalone kV_slipalone dc_slipalone pm_slipalone cd_slipalone ct_slipalone : Value} {a_slipalone : Addr}
  {od_slipsof an_slipsof : Option Addr} {sl_slipsof : Array (Option Value)} {oc_slipsof kV_slipsof dc_slipsof pm_slipsof cd_slipsof ct_slipsof : Value} {a_slipsof : Addr}
  {od_Lbegun an_Lbegun : Option Addr} {sl_Lbegun : Array (Option Value)} {oc_Lbegun kV_Lbegun dc_Lbegun pm_Lbegun cd_Lbegun ct_Lbegun : Value} {a_Lbegun : Addr}
  {od_Ltake an_Ltake : Option Addr} {sl_Ltake : Array (Option Value)} {oc_Ltake kV_Ltake dc_Ltake pm_Ltake cd_Ltake ct_Ltake : Value} {a_Ltake : Addr}
  {od_Llow an_Llow : Option Addr} {sl_Llow : Array (Option Value)} {oc_Llow kV_Llow dc_Llow pm_Llow cd_Llow ct_Llow : Value} {a_Llow : Addr}
  {od_Lplus an_Lplus : Option Addr} {sl_Lplus : Array (Option Value)} {oc_Lplus kV_Lplus dc_Lplus pm_Lplus cd_Lplus ct_Lplus : Value} {a_Lplus : Addr}
  {od_Lminus an_Lminus : Option Addr} {sl_Lminus : Array (Option Value)} {oc_Lminus kV_Lminus dc_Lminus pm_Lminus cd_Lminus ct_Lminus : Value} {a_Lminus : Addr}
  {od_Ltimes an_Ltimes : Option Addr} {sl_Ltimes : Array (Option Value)} {oc_Ltimes kV_Ltimes dc_Ltimes pm_Ltimes cd_Ltimes ct_Ltimes : Value} {a_Ltimes : Addr}
  {od_Lunder an_Lunder : Option Addr} {sl_Lunder : Array (Option Value)} {oc_Lunder kV_Lunder dc_Lunder pm_Lunder cd_Lunder ct_Lunder : Value} {a_Lunder : Addr}
  {od_Lamount an_Lamount : Option Addr} {sl_Lamount : Array (Option Value)} {oc_Lamount kV_Lamount dc_Lamount pm_Lamount cd_Lamount ct_Lamount : Value} {a_Lamount : Addr}
  {od_Loffer an_Loffer : Option Addr} {sl_Loffer : Array (Option Value)} {oc_Loffer kV_Loffer dc_Loffer pm_Loffer cd_Loffer ct_Loffer : Value} {a_Loffer : Addr}
  {od_Lshape an_Lshape : Option Addr} {sl_Lshape : Array (Option Value)} {oc_Lshape kV_Lshape dc_Lshape pm_Lshape cd_Lshape ct_Lshape : Value} {a_Lshape : Addr}
  {od_Lwalk an_Lwalk : Option Addr} {sl_Lwalk : Array (Option Value)} {oc_Lwalk kV_Lwalk dc_Lwalk pm_Lwalk cd_Lwalk ct_Lwalk : Value} {a_Lwalk : Addr}
  {od_Lrate an_Lrate : Option Addr} {sl_Lrate : Array (Option Value)} {oc_Lrate kV_Lrate dc_Lrate pm_Lrate cd_Lrate ct_Lrate : Value} {a_Lrate : Addr}
  {od_Lpaper an_Lpaper : Option Addr} {sl_Lpaper : Array (Option Value)} {oc_Lpaper kV_Lpaper dc_Lpaper pm_Lpaper cd_Lpaper ct_Lpaper : Value} {a_Lpaper : Addr}
  {od_Lflows an_Lflows : Option Addr} {sl_Lflows : Array (Option Value)} {oc_Lflows kV_Lflows dc_Lflows pm_Lflows cd_Lflows ct_Lflows : Value} {a_Lflows : Addr}
  {od_Lleast an_Lleast : Option Addr} {sl_Lleast : Array (Option Value)} {oc_Lleast kV_Lleast dc_Lleast pm_Lleast cd_Lleast ct_Lleast : Value} {a_Lleast : Addr}
  {od_Ltime an_Ltime : Option Addr} {sl_Ltime : Array (Option Value)} {oc_Ltime kV_Ltime dc_Ltime pm_Ltime cd_Ltime ct_Ltime : Value} {a_Ltime : Addr}
  {od_Lplanned an_Lplanned : Option Addr} {sl_Lplanned : Array (Option Value)} {oc_Lplanned kV_Lplanned dc_Lplanned pm_Lplanned cd_Lplanned ct_Lplanned : Value} {a_Lplanned : Addr}
  {od_Lslack an_Lslack : Option Addr} {sl_Lslack : Array (Option Value)} {oc_Lslack kV_Lslack dc_Lslack pm_Lslack cd_Lslack ct_Lslack : Value} {a_Lslack : Addr}
  {od_Llatestend an_Llatestend : Option Addr} {sl_Llatestend : Array (Option Value)} {oc_Llatestend kV_Llatestend dc_Llatestend pm_Llatestend cd_Llatestend ct_Llatestend : Value} {a_Llatestend : Addr}
  {od_Lfraction an_Lfraction : Option Addr} {sl_Lfraction : Array (Option Value)} {oc_Lfraction kV_Lfraction dc_Lfraction pm_Lfraction cd_Lfraction ct_Lfraction : Value} {a_Lfraction : Addr}
  {od_Lcopy an_Lcopy : Option Addr} {sl_Lcopy : Array (Option Value)} {oc_Lcopy kV_Lcopy dc_Lcopy pm_Lcopy cd_Lcopy ct_Lcopy : Value} {a_Lcopy : Addr}
  {od_Ldrawn an_Ldrawn : Option Addr} {sl_Ldrawn : Array (Option Value)} {oc_Ldrawn kV_Ldrawn dc_Ldrawn pm_Ldrawn cd_Ldrawn ct_Ldrawn : Value} {a_Ldrawn : Addr}
  {od_Lalone an_Lalone : Option Addr} {sl_Lalone : Array (Option Value)} {oc_Lalone kV_Lalone dc_Lalone pm_Lalone cd_Lalone ct_Lalone : Value} {a_Lalone : Addr}
  {od_Lright an_Lright : Option Addr} {sl_Lright : Array (Option Value)} {oc_Lright kV_Lright dc_Lright pm_Lright cd_Lright ct_Lright : Value} {a_Lright : Addr}
  {od_law an_law : Option Addr} {sl_law : Array (Option Value)} {oc_law kV_law dc_law pm_law cd_law ct_law : Value} {a_law : Addr}
  {q_NOUGHT : Addr}
  {q_ONE : Addr}
  {od_NOUGHT : Option Addr} {its_NOUGHT : Array Value} {n_NOUGHT : Nat} {sl_NOUGHT : Array (Option Value)} {t0_NOUGHT t1_NOUGHT : Tok}
  {od_ONE : Option Addr} {its_ONE : Array Value} {n_ONE : Nat} {sl_ONE : Array (Option Value)} {t0_ONE t1_ONE : Tok}
  (g_commonpart : PySem.W.nsIn K mainGlobals "common_part" = some (some (.ref a_commonpart)))
  (l_commonpart : K.lookup a_commonpart = some ⟨oc_commonpart, od_commonpart, .func (PySem.W.fnOf "common_part" "common_part" (B1 s_commonpart) (B0 s_commonpart) (A4 s_commonpart) .none kV_commonpart dc_commonpart pm_commonpart an_commonpart cd_commonpart ct_commonpart), sl_commonpart⟩)
  (c_commonpart : PySem.W.codeIn K cd_commonpart "common_part" = true)
  (k_commonpart : PySem.W.keepIn K (.ref a_commonpart) = true)
  (g_plus : PySem.W.nsIn K mainGlobals "plus" = some (some (.ref a_plus)))
  (l_plus : K.lookup a_plus = some ⟨oc_plus, od_plus, .func (PySem.W.fnOf "plus" "plus" (B1 s_plus) (B0 s_plus) (A4 s_plus) .none kV_plus dc_plus pm_plus an_plus cd_plus ct_plus), sl_plus⟩)
  (c_plus : PySem.W.codeIn K cd_plus "plus" = true)
  (k_plus : PySem.W.keepIn K (.ref a_plus) = true)
  (g_minus : PySem.W.nsIn K mainGlobals "minus" = some (some (.ref a_minus)))
  (l_minus : K.lookup a_minus = some ⟨oc_minus, od_minus, .func (PySem.W.fnOf "minus" "minus" (B1 s_minus) (B0 s_minus) (A4 s_minus) .none kV_minus dc_minus pm_minus an_minus cd_minus ct_minus), sl_minus⟩)
  (c_minus : PySem.W.codeIn K cd_minus "minus" = true)
  (k_minus : PySem.W.keepIn K (.ref a_minus) = true)
  (g_isless : PySem.W.nsIn K mainGlobals "is_less" = some (some (.ref a_isless)))
  (l_isless : K.lookup a_isless = some ⟨oc_isless, od_isless, .func (PySem.W.fnOf "is_less" "is_less" (B1 s_isless) (B0 s_isless) (A4 s_isless) .none kV_isless dc_isless pm_isless an_isless cd_isless ct_isless), sl_isless⟩)
  (c_isless : PySem.W.codeIn K cd_isless "is_less" = true)
  (k_isless : PySem.W.keepIn K (.ref a_isless) = true)
  (g_smaller : PySem.W.nsIn K mainGlobals "smaller" = some (some (.ref a_smaller)))
  (l_smaller : K.lookup a_smaller = some ⟨oc_smaller, od_smaller, .func (PySem.W.fnOf "smaller" "smaller" (B1 s_smaller) (B0 s_smaller) (A4 s_smaller) .none kV_smaller dc_smaller pm_smaller an_smaller cd_smaller ct_smaller), sl_smaller⟩)
  (c_smaller : PySem.W.codeIn K cd_smaller "smaller" = true)
  (k_smaller : PySem.W.keepIn K (.ref a_smaller) = true)
  (g_endof : PySem.W.nsIn K mainGlobals "end_of" = some (some (.ref a_endof)))
  (l_endof : K.lookup a_endof = some ⟨oc_endof, od_endof, .func (PySem.W.fnOf "end_of" "end_of" (B1 s_endof) (B0 s_endof) (A4 s_endof) .none kV_endof dc_endof pm_endof an_endof cd_endof ct_endof), sl_endof⟩)
  (c_endof : PySem.W.codeIn K cd_endof "end_of" = true)
  (k_endof : PySem.W.keepIn K (.ref a_endof) = true)
  (g_waitslack : PySem.W.nsIn K mainGlobals "wait_slack" = some (some (.ref a_waitslack)))
  (l_waitslack : K.lookup a_waitslack = some ⟨oc_waitslack, od_waitslack, .func (PySem.W.fnOf "wait_slack" "wait_slack" (B1 s_waitslack) (B0 s_waitslack) (A4 s_waitslack) .none kV_waitslack dc_waitslack pm_waitslack an_waitslack cd_waitslack ct_waitslack), sl_waitslack⟩)
  (c_waitslack : PySem.W.codeIn K cd_waitslack "wait_slack" = true)
  (k_waitslack : PySem.W.keepIn K (.ref a_waitslack) = true)
  (g_holdslack : PySem.W.nsIn K mainGlobals "hold_slack" = some (some (.ref a_holdslack)))
  (l_holdslack : K.lookup a_holdslack = some ⟨oc_holdslack, od_holdslack, .func (PySem.W.fnOf "hold_slack" "hold_slack" (B1 s_holdslack) (B0 s_holdslack) (A4 s_holdslack) .none kV_holdslack dc_holdslack pm_holdslack an_holdslack cd_holdslack ct_holdslack), sl_holdslack⟩)
  (c_holdslack : PySem.W.codeIn K cd_holdslack "hold_slack" = true)
  (k_holdslack : PySem.W.keepIn K (.ref a_holdslack) = true)
  (g_holdway : PySem.W.nsIn K mainGlobals "hold_way" = some (some (.ref a_holdway)))
  (l_holdway : K.lookup a_holdway = some ⟨oc_holdway, od_holdway, .func (PySem.W.fnOf "hold_way" "hold_way" (B1 s_holdway) (B0 s_holdway) (A4 s_holdway) .none kV_holdway dc_holdway pm_holdway an_holdway cd_holdway ct_holdway), sl_holdway⟩)
  (c_holdway : PySem.W.codeIn K cd_holdway "hold_way" = true)
  (k_holdway : PySem.W.keepIn K (.ref a_holdway) = true)
  (g_waysof : PySem.W.nsIn K mainGlobals "ways_of" = some (some (.ref a_waysof)))
  (l_waysof : K.lookup a_waysof = some ⟨oc_waysof, od_waysof, .func (PySem.W.fnOf "ways_of" "ways_of" (B1 s_waysof) (B0 s_waysof) (A4 s_waysof) .none kV_waysof dc_waysof pm_waysof an_waysof cd_waysof ct_waysof), sl_waysof⟩)
  (c_waysof : PySem.W.codeIn K cd_waysof "ways_of" = true)
  (k_waysof : PySem.W.keepIn K (.ref a_waysof) = true)
  (g_stretch : PySem.W.nsIn K mainGlobals "stretch" = some (some (.ref a_stretch)))
  (l_stretch : K.lookup a_stretch = some ⟨oc_stretch, od_stretch, .func (PySem.W.fnOf "stretch" "stretch" (B1 s_stretch) (B0 s_stretch) (A4 s_stretch) .none kV_stretch dc_stretch pm_stretch an_stretch cd_stretch ct_stretch), sl_stretch⟩)
  (c_stretch : PySem.W.codeIn K cd_stretch "stretch" = true)
  (k_stretch : PySem.W.keepIn K (.ref a_stretch) = true)
  (g_ringpaper : PySem.W.nsIn K mainGlobals "ring_paper" = some (some (.ref a_ringpaper)))
  (l_ringpaper : K.lookup a_ringpaper = some ⟨oc_ringpaper, od_ringpaper, .func (PySem.W.fnOf "ring_paper" "ring_paper" (B1 s_ringpaper) (B0 s_ringpaper) (A4 s_ringpaper) .none kV_ringpaper dc_ringpaper pm_ringpaper an_ringpaper cd_ringpaper ct_ringpaper), sl_ringpaper⟩)
  (c_ringpaper : PySem.W.codeIn K cd_ringpaper "ring_paper" = true)
  (k_ringpaper : PySem.W.keepIn K (.ref a_ringpaper) = true)
  (g_farthest : PySem.W.nsIn K mainGlobals "farthest" = some (some (.ref a_farthest)))
  (l_farthest : K.lookup a_farthest = some ⟨oc_farthest, od_farthest, .func (PySem.W.fnOf "farthest" "farthest" (B1 s_farthest) (B0 s_farthest) (A4 s_farthest) .none kV_farthest dc_farthest pm_farthest an_farthest cd_farthest ct_farthest), sl_farthest⟩)
  (c_farthest : PySem.W.codeIn K cd_farthest "farthest" = true)
  (k_farthest : PySem.W.keepIn K (.ref a_farthest) = true)
  (g_earliest : PySem.W.nsIn K mainGlobals "earliest" = some (some (.ref a_earliest)))
  (l_earliest : K.lookup a_earliest = some ⟨oc_earliest, od_earliest, .func (PySem.W.fnOf "earliest" "earliest" (B1 s_earliest) (B0 s_earliest) (A4 s_earliest) .none kV_earliest dc_earliest pm_earliest an_earliest cd_earliest ct_earliest), sl_earliest⟩)
  (c_earliest : PySem.W.codeIn K cd_earliest "earliest" = true)
  (k_earliest : PySem.W.keepIn K (.ref a_earliest) = true)
  (g_latest : PySem.W.nsIn K mainGlobals "latest" = some (some (.ref a_latest)))
  (l_latest : K.lookup a_latest = some ⟨oc_latest, od_latest, .func (PySem.W.fnOf "latest" "latest" (B1 s_latest) (B0 s_latest) (A4 s_latest) .none kV_latest dc_latest pm_latest an_latest cd_latest ct_latest), sl_latest⟩)
  (c_latest : PySem.W.codeIn K cd_latest "latest" = true)
  (k_latest : PySem.W.keepIn K (.ref a_latest) = true)
  (g_slipalone : PySem.W.nsIn K mainGlobals "slip_alone" = some (some (.ref a_slipalone)))
  (l_slipalone : K.lookup a_slipalone = some ⟨oc_slipalone, od_slipalone, .func (PySem.W.fnOf "slip_alone" "slip_alone" (B1 s_slipalone) (B0 s_slipalone) (A4 s_slipalone) .none kV_slipalone dc_slipalone pm_slipalone an_slipalone cd_slipalone ct_slipalone), sl_slipalone⟩)
  (c_slipalone : PySem.W.codeIn K cd_slipalone "slip_alone" = true)
  (k_slipalone : PySem.W.keepIn K (.ref a_slipalone) = true)
  (g_slipsof : PySem.W.nsIn K mainGlobals "slips_of" = some (some (.ref a_slipsof)))
  (l_slipsof : K.lookup a_slipsof = some ⟨oc_slipsof, od_slipsof, .func (PySem.W.fnOf "slips_of" "slips_of" (B1 s_slipsof) (B0 s_slipsof) (A4 s_slipsof) .none kV_slipsof dc_slipsof pm_slipsof an_slipsof cd_slipsof ct_slipsof), sl_slipsof⟩)
  (c_slipsof : PySem.W.codeIn K cd_slipsof "slips_of" = true)
  (k_slipsof : PySem.W.keepIn K (.ref a_slipsof) = true)
  (g_Lbegun : PySem.W.nsIn K mainGlobals "_law_begun" = some (some (.ref a_Lbegun)))
  (l_Lbegun : K.lookup a_Lbegun = some ⟨oc_Lbegun, od_Lbegun, .func (PySem.W.fnOf "_law_begun" "_law_begun" (B1 s_Lbegun) (B0 s_Lbegun) (A4 s_Lbegun) .none kV_Lbegun dc_Lbegun pm_Lbegun an_Lbegun cd_Lbegun ct_Lbegun), sl_Lbegun⟩)
  (c_Lbegun : PySem.W.codeIn K cd_Lbegun "_law_begun" = true)
  (k_Lbegun : PySem.W.keepIn K (.ref a_Lbegun) = true)
  (g_Ltake : PySem.W.nsIn K mainGlobals "_law_take" = some (some (.ref a_Ltake)))
  (l_Ltake : K.lookup a_Ltake = some ⟨oc_Ltake, od_Ltake, .func (PySem.W.fnOf "_law_take" "_law_take" (B1 s_Ltake) (B0 s_Ltake) (A4 s_Ltake) .none kV_Ltake dc_Ltake pm_Ltake an_Ltake cd_Ltake ct_Ltake), sl_Ltake⟩)
  (c_Ltake : PySem.W.codeIn K cd_Ltake "_law_take" = true)
  (k_Ltake : PySem.W.keepIn K (.ref a_Ltake) = true)
  (g_Llow : PySem.W.nsIn K mainGlobals "_law_low" = some (some (.ref a_Llow)))
  (l_Llow : K.lookup a_Llow = some ⟨oc_Llow, od_Llow, .func (PySem.W.fnOf "_law_low" "_law_low" (B1 s_Llow) (B0 s_Llow) (A4 s_Llow) .none kV_Llow dc_Llow pm_Llow an_Llow cd_Llow ct_Llow), sl_Llow⟩)
  (c_Llow : PySem.W.codeIn K cd_Llow "_law_low" = true)
  (k_Llow : PySem.W.keepIn K (.ref a_Llow) = true)
  (g_Lplus : PySem.W.nsIn K mainGlobals "_law_plus" = some (some (.ref a_Lplus)))
  (l_Lplus : K.lookup a_Lplus = some ⟨oc_Lplus, od_Lplus, .func (PySem.W.fnOf "_law_plus" "_law_plus" (B1 s_Lplus) (B0 s_Lplus) (A4 s_Lplus) .none kV_Lplus dc_Lplus pm_Lplus an_Lplus cd_Lplus ct_Lplus), sl_Lplus⟩)
  (c_Lplus : PySem.W.codeIn K cd_Lplus "_law_plus" = true)
  (k_Lplus : PySem.W.keepIn K (.ref a_Lplus) = true)
  (g_Lminus : PySem.W.nsIn K mainGlobals "_law_minus" = some (some (.ref a_Lminus)))
  (l_Lminus : K.lookup a_Lminus = some ⟨oc_Lminus, od_Lminus, .func (PySem.W.fnOf "_law_minus" "_law_minus" (B1 s_Lminus) (B0 s_Lminus) (A4 s_Lminus) .none kV_Lminus dc_Lminus pm_Lminus an_Lminus cd_Lminus ct_Lminus), sl_Lminus⟩)
  (c_Lminus : PySem.W.codeIn K cd_Lminus "_law_minus" = true)
  (k_Lminus : PySem.W.keepIn K (.ref a_Lminus) = true)
  (g_Ltimes : PySem.W.nsIn K mainGlobals "_law_times" = some (some (.ref a_Ltimes)))
  (l_Ltimes : K.lookup a_Ltimes = some ⟨oc_Ltimes, od_Ltimes, .func (PySem.W.fnOf "_law_times" "_law_times" (B1 s_Ltimes) (B0 s_Ltimes) (A4 s_Ltimes) .none kV_Ltimes dc_Ltimes pm_Ltimes an_Ltimes cd_Ltimes ct_Ltimes), sl_Ltimes⟩)
  (c_Ltimes : PySem.W.codeIn K cd_Ltimes "_law_times" = true)
  (k_Ltimes : PySem.W.keepIn K (.ref a_Ltimes) = true)
  (g_Lunder : PySem.W.nsIn K mainGlobals "_law_under" = some (some (.ref a_Lunder)))
  (l_Lunder : K.lookup a_Lunder = some ⟨oc_Lunder, od_Lunder, .func (PySem.W.fnOf "_law_under" "_law_under" (B1 s_Lunder) (B0 s_Lunder) (A4 s_Lunder) .none kV_Lunder dc_Lunder pm_Lunder an_Lunder cd_Lunder ct_Lunder), sl_Lunder⟩)
  (c_Lunder : PySem.W.codeIn K cd_Lunder "_law_under" = true)
  (k_Lunder : PySem.W.keepIn K (.ref a_Lunder) = true)
  (g_Lamount : PySem.W.nsIn K mainGlobals "_law_amount" = some (some (.ref a_Lamount)))
  (l_Lamount : K.lookup a_Lamount = some ⟨oc_Lamount, od_Lamount, .func (PySem.W.fnOf "_law_amount" "_law_amount" (B1 s_Lamount) (B0 s_Lamount) (A4 s_Lamount) .none kV_Lamount dc_Lamount pm_Lamount an_Lamount cd_Lamount ct_Lamount), sl_Lamount⟩)
  (c_Lamount : PySem.W.codeIn K cd_Lamount "_law_amount" = true)
  (k_Lamount : PySem.W.keepIn K (.ref a_Lamount) = true)
  (g_Loffer : PySem.W.nsIn K mainGlobals "_law_offer" = some (some (.ref a_Loffer)))
  (l_Loffer : K.lookup a_Loffer = some ⟨oc_Loffer, od_Loffer, .func (PySem.W.fnOf "_law_offer" "_law_offer" (B1 s_Loffer) (B0 s_Loffer) (A4 s_Loffer) .none kV_Loffer dc_Loffer pm_Loffer an_Loffer cd_Loffer ct_Loffer), sl_Loffer⟩)
  (c_Loffer : PySem.W.codeIn K cd_Loffer "_law_offer" = true)
  (k_Loffer : PySem.W.keepIn K (.ref a_Loffer) = true)
  (g_Lshape : PySem.W.nsIn K mainGlobals "_law_shape" = some (some (.ref a_Lshape)))
  (l_Lshape : K.lookup a_Lshape = some ⟨oc_Lshape, od_Lshape, .func (PySem.W.fnOf "_law_shape" "_law_shape" (B1 s_Lshape) (B0 s_Lshape) (A4 s_Lshape) .none kV_Lshape dc_Lshape pm_Lshape an_Lshape cd_Lshape ct_Lshape), sl_Lshape⟩)
  (c_Lshape : PySem.W.codeIn K cd_Lshape "_law_shape" = true)
  (k_Lshape : PySem.W.keepIn K (.ref a_Lshape) = true)
  (g_Lwalk : PySem.W.nsIn K mainGlobals "_law_walk" = some (some (.ref a_Lwalk)))
  (l_Lwalk : K.lookup a_Lwalk = some ⟨oc_Lwalk, od_Lwalk, .func (PySem.W.fnOf "_law_walk" "_law_walk" (B1 s_Lwalk) (B0 s_Lwalk) (A4 s_Lwalk) .none kV_Lwalk dc_Lwalk pm_Lwalk an_Lwalk cd_Lwalk ct_Lwalk), sl_Lwalk⟩)
  (c_Lwalk : PySem.W.codeIn K cd_Lwalk "_law_walk" = true)
  (k_Lwalk : PySem.W.keepIn K (.ref a_Lwalk) = true)
  (g_Lrate : PySem.W.nsIn K mainGlobals "_law_rate" = some (some (.ref a_Lrate)))
  (l_Lrate : K.lookup a_Lrate = some ⟨oc_Lrate, od_Lrate, .func (PySem.W.fnOf "_law_rate" "_law_rate" (B1 s_Lrate) (B0 s_Lrate) (A4 s_Lrate) .none kV_Lrate dc_Lrate pm_Lrate an_Lrate cd_Lrate ct_Lrate), sl_Lrate⟩)
  (c_Lrate : PySem.W.codeIn K cd_Lrate "_law_rate" = true)
  (k_Lrate : PySem.W.keepIn K (.ref a_Lrate) = true)
  (g_Lpaper : PySem.W.nsIn K mainGlobals "_law_paper" = some (some (.ref a_Lpaper)))
  (l_Lpaper : K.lookup a_Lpaper = some ⟨oc_Lpaper, od_Lpaper, .func (PySem.W.fnOf "_law_paper" "_law_paper" (B1 s_Lpaper) (B0 s_Lpaper) (A4 s_Lpaper) .none kV_Lpaper dc_Lpaper pm_Lpaper an_Lpaper cd_Lpaper ct_Lpaper), sl_Lpaper⟩)
  (c_Lpaper : PySem.W.codeIn K cd_Lpaper "_law_paper" = true)
  (k_Lpaper : PySem.W.keepIn K (.ref a_Lpaper) = true)
  (g_Lflows : PySem.W.nsIn K mainGlobals "_law_flows" = some (some (.ref a_Lflows)))
  (l_Lflows : K.lookup a_Lflows = some ⟨oc_Lflows, od_Lflows, .func (PySem.W.fnOf "_law_flows" "_law_flows" (B1 s_Lflows) (B0 s_Lflows) (A4 s_Lflows) .none kV_Lflows dc_Lflows pm_Lflows an_Lflows cd_Lflows ct_Lflows), sl_Lflows⟩)
  (c_Lflows : PySem.W.codeIn K cd_Lflows "_law_flows" = true)
  (k_Lflows : PySem.W.keepIn K (.ref a_Lflows) = true)
  (g_Lleast : PySem.W.nsIn K mainGlobals "_law_least" = some (some (.ref a_Lleast)))
  (l_Lleast : K.lookup a_Lleast = some ⟨oc_Lleast, od_Lleast, .func (PySem.W.fnOf "_law_least" "_law_least" (B1 s_Lleast) (B0 s_Lleast) (A4 s_Lleast) .none kV_Lleast dc_Lleast pm_Lleast an_Lleast cd_Lleast ct_Lleast), sl_Lleast⟩)
  (c_Lleast : PySem.W.codeIn K cd_Lleast "_law_least" = true)
  (k_Lleast : PySem.W.keepIn K (.ref a_Lleast) = true)
  (g_Ltime : PySem.W.nsIn K mainGlobals "_law_time" = some (some (.ref a_Ltime)))
  (l_Ltime : K.lookup a_Ltime = some ⟨oc_Ltime, od_Ltime, .func (PySem.W.fnOf "_law_time" "_law_time" (B1 s_Ltime) (B0 s_Ltime) (A4 s_Ltime) .none kV_Ltime dc_Ltime pm_Ltime an_Ltime cd_Ltime ct_Ltime), sl_Ltime⟩)
  (c_Ltime : PySem.W.codeIn K cd_Ltime "_law_time" = true)
  (k_Ltime : PySem.W.keepIn K (.ref a_Ltime) = true)
  (g_Lplanned : PySem.W.nsIn K mainGlobals "_law_planned" = some (some (.ref a_Lplanned)))
  (l_Lplanned : K.lookup a_Lplanned = some ⟨oc_Lplanned, od_Lplanned, .func (PySem.W.fnOf "_law_planned" "_law_planned" (B1 s_Lplanned) (B0 s_Lplanned) (A4 s_Lplanned) .none kV_Lplanned dc_Lplanned pm_Lplanned an_Lplanned cd_Lplanned ct_Lplanned), sl_Lplanned⟩)
  (c_Lplanned : PySem.W.codeIn K cd_Lplanned "_law_planned" = true)
  (k_Lplanned : PySem.W.keepIn K (.ref a_Lplanned) = true)
  (g_Lslack : PySem.W.nsIn K mainGlobals "_law_slack" = some (some (.ref a_Lslack)))
  (l_Lslack : K.lookup a_Lslack = some ⟨oc_Lslack, od_Lslack, .func (PySem.W.fnOf "_law_slack" "_law_slack" (B1 s_Lslack) (B0 s_Lslack) (A4 s_Lslack) .none kV_Lslack dc_Lslack pm_Lslack an_Lslack cd_Lslack ct_Lslack), sl_Lslack⟩)
  (c_Lslack : PySem.W.codeIn K cd_Lslack "_law_slack" = true)
  (k_Lslack : PySem.W.keepIn K (.ref a_Lslack) = true)
  (g_Llatestend : PySem.W.nsIn K mainGlobals "_law_latest_end" = some (some (.ref a_Llatestend)))
  (l_Llatestend : K.lookup a_Llatestend = some ⟨oc_Llatestend, od_Llatestend, .func (PySem.W.fnOf "_law_latest_end" "_law_latest_end" (B1 s_Llatestend) (B0 s_Llatestend) (A4 s_Llatestend) .none kV_Llatestend dc_Llatestend pm_Llatestend an_Llatestend cd_Llatestend ct_Llatestend), sl_Llatestend⟩)
  (c_Llatestend : PySem.W.codeIn K cd_Llatestend "_law_latest_end" = true)
  (k_Llatestend : PySem.W.keepIn K (.ref a_Llatestend) = true)
  (g_Lfraction : PySem.W.nsIn K mainGlobals "_law_fraction" = some (some (.ref a_Lfraction)))
  (l_Lfraction : K.lookup a_Lfraction = some ⟨oc_Lfraction, od_Lfraction, .func (PySem.W.fnOf "_law_fraction" "_law_fraction" (B1 s_Lfraction) (B0 s_Lfraction) (A4 s_Lfraction) .none kV_Lfraction dc_Lfraction pm_Lfraction an_Lfraction cd_Lfraction ct_Lfraction), sl_Lfraction⟩)
  (c_Lfraction : PySem.W.codeIn K cd_Lfraction "_law_fraction" = true)
  (k_Lfraction : PySem.W.keepIn K (.ref a_Lfraction) = true)
  (g_Lcopy : PySem.W.nsIn K mainGlobals "_law_copy" = some (some (.ref a_Lcopy)))
  (l_Lcopy : K.lookup a_Lcopy = some ⟨oc_Lcopy, od_Lcopy, .func (PySem.W.fnOf "_law_copy" "_law_copy" (B1 s_Lcopy) (B0 s_Lcopy) (A4 s_Lcopy) .none kV_Lcopy dc_Lcopy pm_Lcopy an_Lcopy cd_Lcopy ct_Lcopy), sl_Lcopy⟩)
  (c_Lcopy : PySem.W.codeIn K cd_Lcopy "_law_copy" = true)
  (k_Lcopy : PySem.W.keepIn K (.ref a_Lcopy) = true)
  (g_Ldrawn : PySem.W.nsIn K mainGlobals "_law_drawn" = some (some (.ref a_Ldrawn)))
  (l_Ldrawn : K.lookup a_Ldrawn = some ⟨oc_Ldrawn, od_Ldrawn, .func (PySem.W.fnOf "_law_drawn" "_law_drawn" (B1 s_Ldrawn) (B0 s_Ldrawn) (A4 s_Ldrawn) .none kV_Ldrawn dc_Ldrawn pm_Ldrawn an_Ldrawn cd_Ldrawn ct_Ldrawn), sl_Ldrawn⟩)
  (c_Ldrawn : PySem.W.codeIn K cd_Ldrawn "_law_drawn" = true)
  (k_Ldrawn : PySem.W.keepIn K (.ref a_Ldrawn) = true)
  (g_Lalone : PySem.W.nsIn K mainGlobals "_law_alone" = some (some (.ref a_Lalone)))
  (l_Lalone : K.lookup a_Lalone = some ⟨oc_Lalone, od_Lalone, .func (PySem.W.fnOf "_law_alone" "_law_alone" (B1 s_Lalone) (B0 s_Lalone) (A4 s_Lalone) .none kV_Lalone dc_Lalone pm_Lalone an_Lalone cd_Lalone ct_Lalone), sl_Lalone⟩)
  (c_Lalone : PySem.W.codeIn K cd_Lalone "_law_alone" = true)
  (k_Lalone : PySem.W.keepIn K (.ref a_Lalone) = true)
  (g_Lright : PySem.W.nsIn K mainGlobals "_law_right" = some (some (.ref a_Lright)))
  (l_Lright : K.lookup a_Lright = some ⟨oc_Lright, od_Lright, .func (PySem.W.fnOf "_law_right" "_law_right" (B1 s_Lright) (B0 s_Lright) (A4 s_Lright) .none kV_Lright dc_Lright pm_Lright an_Lright cd_Lright ct_Lright), sl_Lright⟩)
  (c_Lright : PySem.W.codeIn K cd_Lright "_law_right" = true)
  (k_Lright : PySem.W.keepIn K (.ref a_Lright) = true)
  (g_law : PySem.W.nsIn K mainGlobals "law" = some (some (.ref a_law)))
  (l_law : K.lookup a_law = some ⟨oc_law, od_law, .func (PySem.W.fnOf "law" "law" (B1 s_law) (B0 s_law) (A4 s_law) .none kV_law dc_law pm_law an_law cd_law ct_law), sl_law⟩)
  (c_law : PySem.W.codeIn K cd_law "law" = true)
  (k_law : PySem.W.keepIn K (.ref a_law) = true)
  (gc_NOUGHT : PySem.W.nsIn K mainGlobals "NOUGHT" = some (some (.ref q_NOUGHT)))
  (gc_ONE : PySem.W.nsIn K mainGlobals "ONE" = some (some (.ref q_ONE)))
  (z_abs : PySem.W.nsIn K mainGlobals "abs" = some none)
  (z_bool : PySem.W.nsIn K mainGlobals "bool" = some none)
  (z_enumerate : PySem.W.nsIn K mainGlobals "enumerate" = some none)
  (z_int : PySem.W.nsIn K mainGlobals "int" = some none)
  (z_isinstance : PySem.W.nsIn K mainGlobals "isinstance" = some none)
  (z_len : PySem.W.nsIn K mainGlobals "len" = some none)
  (z_list : PySem.W.nsIn K mainGlobals "list" = some none)
  (z_max : PySem.W.nsIn K mainGlobals "max" = some none)
  (z_min : PySem.W.nsIn K mainGlobals "min" = some none)
  (z_range : PySem.W.nsIn K mainGlobals "range" = some none)
  (z_tuple : PySem.W.nsIn K mainGlobals "tuple" = some none)
  (lq_NOUGHT : K.lookup q_NOUGHT = some ⟨.type "tuple", od_NOUGHT, .seq its_NOUGHT n_NOUGHT, sl_NOUGHT⟩)
  (vq_NOUGHT : its_NOUGHT = #[Value.int 0 t0_NOUGHT, Value.int 1 t1_NOUGHT])
  (lq_ONE : K.lookup q_ONE = some ⟨.type "tuple", od_ONE, .seq its_ONE n_ONE, sl_ONE⟩)
  (vq_ONE : its_ONE = #[Value.int 1 t0_ONE, Value.int 1 t1_ONE])
  : ∃ fd : FuncData, (∀ (s : Shared) (v : Value), BindsTo s fd ⟨[v], []⟩ [("_law_script", v)]) /\ ∀ base : Heap, K.In base -> base.Ns mainGlobals mg -> FnOk l.prog w K mg base CX0 10 fa fd ["_law_script"] (sp_law K) := by
 have e := hfa.symm.trans (PySem.W.mg_of X G g_law)
 cases e
 have T : Txt K mg ⟨a_commonpart, PySem.W.fnOf "common_part" "common_part" (B1 s_commonpart) (B0 s_commonpart) (A4 s_commonpart) .none kV_commonpart dc_commonpart pm_commonpart an_commonpart cd_commonpart ct_commonpart, a_plus, PySem.W.fnOf "plus" "plus" (B1 s_plus) (B0 s_plus) (A4 s_plus) .none kV_plus dc_plus pm_plus an_plus cd_plus ct_plus, a_minus, PySem.W.fnOf "minus" "minus" (B1 s_minus) (B0 s_minus) (A4 s_minus) .none kV_minus dc_minus pm_minus an_minus cd_minus ct_minus, a_isless, PySem.W.fnOf "is_less" "is_less" (B1 s_isless) (B0 s_isless) (A4 s_isless) .none kV_isless dc_isless pm_isless an_isless cd_isless ct_isless, a_smaller, PySem.W.fnOf "smaller" "smaller" (B1 s_smaller) (B0 s_smaller) (A4 s_smaller) .none kV_smaller dc_smaller pm_smaller an_smaller cd_smaller ct_smaller, a_endof, PySem.W.fnOf "end_of" "end_of" (B1 s_endof) (B0 s_endof) (A4 s_endof) .none kV_endof dc_endof pm_endof an_endof cd_endof ct_endof, a_waitslack, PySem.W.fnOf "wait_slack" "wait_slack" (B1 s_waitslack) (B0 s_waitslack) (A4 s_waitslack) .none kV_waitslack dc_waitslack pm_waitslack an_waitslack cd_waitslack ct_waitslack, a_holdslack, PySem.W.fnOf "hold_slack" "hold_slack" (B1 s_holdslack) (B0 s_holdslack) (A4 s_holdslack) .none kV_holdslack dc_holdslack pm_holdslack an_holdslack cd_holdslack ct_holdslack, a_holdway, PySem.W.fnOf "hold_way" "hold_way" (B1 s_holdway) (B0 s_holdway) (A4 s_holdway) .none kV_holdway dc_holdway pm_holdway an_holdway cd_holdway ct_holdway, a_waysof, PySem.W.fnOf "ways_of" "ways_of" (B1 s_waysof) (B0 s_waysof) (A4 s_waysof) .none kV_waysof dc_waysof pm_waysof an_waysof cd_waysof ct_waysof, a_stretch, PySem.W.fnOf "stretch" "stretch" (B1 s_stretch) (B0 s_stretch) (A4 s_stretch) .none kV_stretch dc_stretch pm_stretch an_stretch cd_stretch ct_stretch, a_ringpaper, PySem.W.fnOf "ring_paper" "ring_paper" (B1 s_ringpaper) (B0 s_ringpaper) (A4 s_ringpaper) .none kV_ringpaper dc_ringpaper pm_ringpaper an_ringpaper cd_ringpaper ct_ringpaper, a_farthest, PySem.W.fnOf "farthest" "farthest" (B1 s_farthest) (B0 s_farthest) (A4 s_farthest) .none kV_farthest dc_farthest pm_farthest an_farthest cd_farthest ct_farthest, a_earliest, PySem.W.fnOf "earliest" "earliest" (B1 s_earliest) (B0 s_earliest) (A4 s_earliest) .none kV_earliest dc_earliest pm_earliest an_earliest cd_earliest ct_earliest, a_latest, PySem.W.fnOf "latest" "latest" (B1 s_latest) (B0 s_latest) (A4 s_latest) .none kV_latest dc_latest pm_latest an_latest cd_latest ct_latest, a_slipalone, PySem.W.fnOf "slip_alone" "slip_alone" (B1 s_slipalone) (B0 s_slipalone) (A4 s_slipalone) .none kV_slipalone dc_slipalone pm_slipalone an_slipalone cd_slipalone ct_slipalone, a_slipsof, PySem.W.fnOf "slips_of" "slips_of" (B1 s_slipsof) (B0 s_slipsof) (A4 s_slipsof) .none kV_slipsof dc_slipsof pm_slipsof an_slipsof cd_slipsof ct_slipsof, a_Lbegun, PySem.W.fnOf "_law_begun" "_law_begun" (B1 s_Lbegun) (B0 s_Lbegun) (A4 s_Lbegun) .none kV_Lbegun dc_Lbegun pm_Lbegun an_Lbegun cd_Lbegun ct_Lbegun, a_Ltake, PySem.W.fnOf "_law_take" "_law_take" (B1 s_Ltake) (B0 s_Ltake) (A4 s_Ltake) .none kV_Ltake dc_Ltake pm_Ltake an_Ltake cd_Ltake ct_Ltake, a_Llow, PySem.W.fnOf "_law_low" "_law_low" (B1 s_Llow) (B0 s_Llow) (A4 s_Llow) .none kV_Llow dc_Llow pm_Llow an_Llow cd_Llow ct_Llow, a_Lplus, PySem.W.fnOf "_law_plus" "_law_plus" (B1 s_Lplus) (B0 s_Lplus) (A4 s_Lplus) .none kV_Lplus dc_Lplus pm_Lplus an_Lplus cd_Lplus ct_Lplus, a_Lminus, PySem.W.fnOf "_law_minus" "_law_minus" (B1 s_Lminus) (B0 s_Lminus) (A4 s_Lminus) .none kV_Lminus dc_Lminus pm_Lminus an_Lminus cd_Lminus ct_Lminus, a_Ltimes, PySem.W.fnOf "_law_times" "_law_times" (B1 s_Ltimes) (B0 s_Ltimes) (A4 s_Ltimes) .none kV_Ltimes dc_Ltimes pm_Ltimes an_Ltimes cd_Ltimes ct_Ltimes, a_Lunder, PySem.W.fnOf "_law_under" "_law_under" (B1 s_Lunder) (B0 s_Lunder) (A4 s_Lunder) .none kV_Lunder dc_Lunder pm_Lunder an_Lunder cd_Lunder ct_Lunder, a_Lamount, PySem.W.fnOf "_law_amount" "_law_amount" (B1 s_Lamount) (B0 s_Lamount) (A4 s_Lamount) .none kV_Lamount dc_Lamount pm_Lamount an_Lamount cd_Lamount ct_Lamount, a_Loffer, PySem.W.fnOf "_law_offer" "_law_offer" (B1 s_Loffer) (B0 s_Loffer) (A4 s_Loffer) .none kV_Loffer dc_Loffer pm_Loffer an_Loffer cd_Loffer ct_Loffer, a_Lshape, PySem.W.fnOf "_law_shape" "_law_shape" (B1 s_Lshape) (B0 s_Lshape) (A4 s_Lshape) .none kV_Lshape dc_Lshape pm_Lshape an_Lshape cd_Lshape ct_Lshape, a_Lwalk, PySem.W.fnOf "_law_walk" "_law_walk" (B1 s_Lwalk) (B0 s_Lwalk) (A4 s_Lwalk) .none kV_Lwalk dc_Lwalk pm_Lwalk an_Lwalk cd_Lwalk ct_Lwalk, a_Lrate, PySem.W.fnOf "_law_rate" "_law_rate" (B1 s_Lrate) (B0 s_Lrate) (A4 s_Lrate) .none kV_Lrate dc_Lrate pm_Lrate an_Lrate cd_Lrate ct_Lrate, a_Lpaper, PySem.W.fnOf "_law_paper" "_law_paper" (B1 s_Lpaper) (B0 s_Lpaper) (A4 s_Lpaper) .none kV_Lpaper dc_Lpaper pm_Lpaper an_Lpaper cd_Lpaper ct_Lpaper, a_Lflows, PySem.W.fnOf "_law_flows" "_law_flows" (B1 s_Lflows) (B0 s_Lflows) (A4 s_Lflows) .none kV_Lflows dc_Lflows pm_Lflows an_Lflows cd_Lflows ct_Lflows, a_Lleast, PySem.W.fnOf "_law_least" "_law_least" (B1 s_Lleast) (B0 s_Lleast) (A4 s_Lleast) .none kV_Lleast dc_Lleast pm_Lleast an_Lleast cd_Lleast ct_Lleast, a_Ltime, PySem.W.fnOf "_law_time" "_law_time" (B1 s_Ltime) (B0 s_Ltime) (A4 s_Ltime) .none kV_Ltime dc_Ltime pm_Ltime an_Ltime cd_Ltime ct_Ltime, a_Lplanned, PySem.W.fnOf "_law_planned" "_law_planned" (B1 s_Lplanned) (B0 s_Lplanned) (A4 s_Lplanned) .none kV_Lplanned dc_Lplanned pm_Lplanned an_Lplanned cd_Lplanned ct_Lplanned, a_Lslack, PySem.W.fnOf "_law_slack" "_law_slack" (B1 s_Lslack) (B0 s_Lslack) (A4 s_Lslack) .none kV_Lslack dc_Lslack pm_Lslack an_Lslack cd_Lslack ct_Lslack, a_Llatestend, PySem.W.fnOf "_law_latest_end" "_law_latest_end" (B1 s_Llatestend) (B0 s_Llatestend) (A4 s_Llatestend) .none kV_Llatestend dc_Llatestend pm_Llatestend an_Llatestend cd_Llatestend ct_Llatestend, a_Lfraction, PySem.W.fnOf "_law_fraction" "_law_fraction" (B1 s_Lfraction) (B0 s_Lfraction) (A4 s_Lfraction) .none kV_Lfraction dc_Lfraction pm_Lfraction an_Lfraction cd_Lfraction ct_Lfraction, a_Lcopy, PySem.W.fnOf "_law_copy" "_law_copy" (B1 s_Lcopy) (B0 s_Lcopy) (A4 s_Lcopy) .none kV_Lcopy dc_Lcopy pm_Lcopy an_Lcopy cd_Lcopy ct_Lcopy, a_Ldrawn, PySem.W.fnOf "_law_drawn" "_law_drawn" (B1 s_Ldrawn) (B0 s_Ldrawn) (A4 s_Ldrawn) .none kV_Ldrawn dc_Ldrawn pm_Ldrawn an_Ldrawn cd_Ldrawn ct_Ldrawn, a_Lalone, PySem.W.fnOf "_law_alone" "_law_alone" (B1 s_Lalone) (B0 s_Lalone) (A4 s_Lalone) .none kV_Lalone dc_Lalone pm_Lalone an_Lalone cd_Lalone ct_Lalone, a_Lright, PySem.W.fnOf "_law_right" "_law_right" (B1 s_Lright) (B0 s_Lright) (A4 s_Lright) .none kV_Lright dc_Lright pm_Lright an_Lright cd_Lright ct_Lright, fa, PySem.W.fnOf "law" "law" (B1 s_law) (B0 s_law) (A4 s_law) .none kV_law dc_law pm_law an_law cd_law ct_law, q_NOUGHT, q_ONE⟩ := ⟨D7 (st := s_commonpart) l_commonpart c_commonpart k_commonpart, PySem.W.mg_of X G g_commonpart, D7 (st := s_plus) l_plus c_plus k_plus, PySem.W.mg_of X G g_plus, D7 (st := s_minus) l_minus c_minus k_minus, PySem.W.mg_of X G g_minus, D7 (st := s_isless) l_isless c_isless k_isless, PySem.W.mg_of X G g_isless, D7 (st := s_smaller) l_smaller c_smaller k_smaller, PySem.W.mg_of X G g_smaller, D7 (st := s_endof) l_endof c_endof k_endof, PySem.W.mg_of X G g_endof, D7 (st := s_waitslack) l_waitslack c_waitslack k_waitslack, PySem.W.mg_of X G g_waitslack, D7 (st := s_holdslack) l_holdslack c_holdslack k_holdslack, PySem.W.mg_of X G g_holdslack, D7 (st := s_holdway) l_holdway c_holdway k_holdway, PySem.W.mg_of X G g_holdway, D7 (st := s_waysof) l_waysof c_waysof k_waysof, PySem.W.mg_of X G g_waysof, D7 (st := s_stretch) l_stretch c_stretch k_stretch, PySem.W.mg_of X G g_stretch, D7 (st := s_ringpaper) l_ringpaper c_ringpaper k_ringpaper, PySem.W.mg_of X G g_ringpaper, D7 (st := s_farthest) l_farthest c_farthest k_farthest, PySem.W.mg_of X G g_farthest, D7 (st := s_earliest) l_earliest c_earliest k_earliest, PySem.W.mg_of X G g_earliest, D7 (st := s_latest) l_latest c_latest k_latest, PySem.W.mg_of X G g_latest, D7 (st := s_slipalone) l_slipalone c_slipalone k_slipalone, PySem.W.mg_of X G g_slipalone, D7 (st := s_slipsof) l_slipsof c_slipsof k_slipsof, PySem.W.mg_of X G g_slipsof, D7 (st := s_Lbegun) l_Lbegun c_Lbegun k_Lbegun, PySem.W.mg_of X G g_Lbegun, D7 (st := s_Ltake) l_Ltake c_Ltake k_Ltake, PySem.W.mg_of X G g_Ltake, D7 (st := s_Llow) l_Llow c_Llow k_Llow, PySem.W.mg_of X G g_Llow, D7 (st := s_Lplus) l_Lplus c_Lplus k_Lplus, PySem.W.mg_of X G g_Lplus, D7 (st := s_Lminus) l_Lminus c_Lminus k_Lminus, PySem.W.mg_of X G g_Lminus, D7 (st := s_Ltimes) l_Ltimes c_Ltimes k_Ltimes, PySem.W.mg_of X G g_Ltimes, D7 (st := s_Lunder) l_Lunder c_Lunder k_Lunder, PySem.W.mg_of X G g_Lunder, D7 (st := s_Lamount) l_Lamount c_Lamount k_Lamount, PySem.W.mg_of X G g_Lamount, D7 (st := s_Loffer) l_Loffer c_Loffer k_Loffer, PySem.W.mg_of X G g_Loffer, D7 (st := s_Lshape) l_Lshape c_Lshape k_Lshape, PySem.W.mg_of X G g_Lshape, D7 (st := s_Lwalk) l_Lwalk c_Lwalk k_Lwalk, PySem.W.mg_of X G g_Lwalk, D7 (st := s_Lrate) l_Lrate c_Lrate k_Lrate, PySem.W.mg_of X G g_Lrate, D7 (st := s_Lpaper) l_Lpaper c_Lpaper k_Lpaper, PySem.W.mg_of X G g_Lpaper, D7 (st := s_Lflows) l_Lflows c_Lflows k_Lflows, PySem.W.mg_of X G g_Lflows, D7 (st := s_Lleast) l_Lleast c_Lleast k_Lleast, PySem.W.mg_of X G g_Lleast, D7 (st := s_Ltime) l_Ltime c_Ltime k_Ltime, PySem.W.mg_of X G g_Ltime, D7 (st := s_Lplanned) l_Lplanned c_Lplanned k_Lplanned, PySem.W.mg_of X G g_Lplanned, D7 (st := s_Lslack) l_Lslack c_Lslack k_Lslack, PySem.W.mg_of X G g_Lslack, D7 (st := s_Llatestend) l_Llatestend c_Llatestend k_Llatestend, PySem.W.mg_of X G g_Llatestend, D7 (st := s_Lfraction) l_Lfraction c_Lfraction k_Lfraction, PySem.W.mg_of X G g_Lfraction, D7 (st := s_Lcopy) l_Lcopy c_Lcopy k_Lcopy, PySem.W.mg_of X G g_Lcopy, D7 (st := s_Ldrawn) l_Ldrawn c_Ldrawn k_Ldrawn, PySem.W.mg_of X G g_Ldrawn, D7 (st := s_Lalone) l_Lalone c_Lalone k_Lalone, PySem.W.mg_of X G g_Lalone, D7 (st := s_Lright) l_Lright c_Lright k_Lright, PySem.W.mg_of X G g_Lright, D7 (st := s_law) l_law c_law k_law, PySem.W.mg_of X G g_law, PySem.W.mg_of X G gc_NOUGHT, PySem.W.mg_of X G gc_ONE, PySem.W.mg_none_of X G z_abs, PySem.W.mg_none_of X G z_bool, PySem.W.mg_none_of X G z_enumerate, PySem.W.mg_none_of X G z_int, PySem.W.mg_none_of X G z_isinstance, PySem.W.mg_none_of X G z_len, PySem.W.mg_none_of X G z_list, PySem.W.mg_none_of X G z_max, PySem.W.mg_none_of X G z_min, PySem.W.mg_none_of X G z_range, PySem.W.mg_none_of X G z_tuple, ⟨fun H => .tup (.inr ⟨_, its_NOUGHT, n_NOUGHT, lq_NOUGHT, rfl, rfl, by rw [vq_NOUGHT]; show 2 <= sizeLine; decide, by rw [vq_NOUGHT]; exact .cons ⟨_, rfl⟩ (.cons ⟨_, rfl⟩ .nil)⟩) (.cons (.int _) (.cons (.int _) .nil))⟩, ⟨fun H => .tup (.inr ⟨_, its_ONE, n_ONE, lq_ONE, rfl, rfl, by rw [vq_ONE]; show 2 <= sizeLine; decide, by rw [vq_ONE]; exact .cons ⟨_, rfl⟩ (.cons ⟨_, rfl⟩ .nil)⟩) (.cons (.int _) (.cons (.int _) .nil))⟩⟩
 exact ⟨PySem.W.fnOf "law" "law" (B1 s_law) (B0 s_law) (A4 s_law) .none kV_law dc_law pm_law an_law cd_law ct_law, fun s v => .of_eq rfl, fun base _ _ => B62 T⟩
theorem walk {l : PySem.W.OpenLaw} {q : Program} {loose : List Str} {XP : (Str -> Option Value) -> Heap -> Prop} {YP : World -> Heap -> Prop} {d : DefRec} {K : Params -> PySem.W.Frag} (hn : l.most = some 63) (hdf : d.params.defaults = [])
  (hY : ∀ (w : World) (h : Heap), YP w h -> (K w.params).In h)
  (F : ∀ (w : World) (mg : Str -> Option Value) (fa : Addr) (h : Heap), (K w.params).In h -> h.Ns mainGlobals mg -> mg d.name = some (.ref fa) ->
   ∃ fd : FuncData, (∀ (s : Shared) (u : Value), BindsTo s fd ⟨[u], []⟩ [("_law_script", u)]) /\ ∀ base : Heap, (K w.params).In base -> base.Ns mainGlobals mg -> FnOk l.prog w (K w.params) mg base CX0 10 fa fd ["_law_script"] (sp_law (K w.params))) :
  PySem.W.WalkO q loose XP YP l.row.toRowW d [] (fun f vs => PySem.call f vs) :=
 L2.B2p (n := 63) (k := 10) (x := "_law_script") (CX := fun _ => CX0) (sp := fun w => sp_law (K w.params)) hn (by decide) hdf ⟨rfl, rfl, by decide, by decide⟩ hY F (fun _ _ a ns hl _ hS => ⟨a, ns, rfl, hS, hl, fun _ => rfl⟩) fun _ _ _ _ _ z => z
end Prf
open PySem PySem.W PyProof.Rows
set_option maxRecDepth 100000 in
set_option maxHeartbeats 0 in
theorem PySem.Challenge.cw_hurryprice_k28_slips_told_holds : PySem.Challenge.rw_hurryprice_k28_slips_told.Holds := by
 refine holds_law Prf.said fun ws => ?_
 refine holds_open (q := Prf.qq) (loose := []) (Xt := Prf.xt) (XP := XL Prf.qq []) (Yf := Prf.hh.obs)
  (Ya := Prf.hh.val) (YP := Prf.hh.says) (N := 2904) Prf.left Prf.hh.of Prf.hh.keeps
  (fun s e => xl_of s (Bool.and_eq_true_iff.mp e).1) XL.keeps
  (by rfl) (by rfl) (by rfl) (fun s e => recFacts_of (Bool.and_eq_true_iff.mp e).2)
  (by rfl) ws (by decide +kernel)
  ⟨rfl, rfl, rfl, rfl, rfl, by decide +kernel⟩ ?hw ?hc
 case hw => w_witness2
 refine Prf.walk (l := PySem.Challenge.rw_hurryprice_k28_slips_told) (K := Prf.kk) rfl rfl (fun w h Y => PySem.W.kIn_of Y) ?F
 case F =>
  intro w mg fa h KX G hmg
  k_fill
  refine' Prf.all_mk KX G hmg ?g_commonpart ?l_commonpart ?c_commonpart ?k_commonpart ?g_plus ?l_plus ?c_plus ?k_plus ?g_minus ?l_minus ?c_minus ?k_minus ?g_isless ?l_isless ?c_isless ?k_isless ?g_smaller ?l_smaller ?c_smaller ?k_smaller ?g_endof ?l_endof ?c_endof ?k_endof ?g_waitslack ?l_waitslack ?c_waitslack ?k_waitslack ?g_holdslack ?l_holdslack ?c_holdslack ?k_holdslack ?g_holdway ?l_holdway ?c_holdway ?k_holdway ?g_waysof ?l_waysof ?c_waysof ?k_waysof ?g_stretch ?l_stretch ?c_stretch ?k_stretch ?g_ringpaper ?l_ringpaper ?c_ringpaper ?k_ringpaper ?g_farthest ?l_farthest ?c_farthest ?k_farthest ?g_earliest ?l_earliest ?c_earliest ?k_earliest ?g_latest ?l_latest ?c_latest ?k_latest ?g_slipalone ?l_slipalone ?c_slipalone ?k_slipalone ?g_slipsof ?l_slipsof ?c_slipsof ?k_slipsof ?g_Lbegun ?l_Lbegun ?c_Lbegun ?k_Lbegun ?g_Ltake ?l_Ltake ?c_Ltake ?k_Ltake ?g_Llow ?l_Llow ?c_Llow ?k_Llow ?g_Lplus ?l_Lplus ?c_Lplus ?k_Lplus ?g_Lminus ?l_Lminus ?c_Lminus ?k_Lminus ?g_Ltimes ?l_Ltimes ?c_Ltimes ?k_Ltimes ?g_Lunder ?l_Lunder ?c_Lunder ?k_Lunder ?g_Lamount ?l_Lamount ?c_Lamount ?k_Lamount ?g_Loffer ?l_Loffer ?c_Loffer ?k_Loffer ?g_Lshape ?l_Lshape ?c_Lshape ?k_Lshape ?g_Lwalk ?l_Lwalk ?c_Lwalk ?k_Lwalk ?g_Lrate ?l_Lrate ?c_Lrate ?k_Lrate ?g_Lpaper ?l_Lpaper ?c_Lpaper ?k_Lpaper ?g_Lflows ?l_Lflows ?c_Lflows ?k_Lflows ?g_Lleast ?l_Lleast ?c_Lleast ?k_Lleast ?g_Ltime ?l_Ltime ?c_Ltime ?k_Ltime ?g_Lplanned ?l_Lplanned ?c_Lplanned ?k_Lplanned ?g_Lslack ?l_Lslack ?c_Lslack ?k_Lslack ?g_Llatestend ?l_Llatestend ?c_Llatestend ?k_Llatestend ?g_Lfraction ?l_Lfraction ?c_Lfraction ?k_Lfraction ?g_Lcopy ?l_Lcopy ?c_Lcopy ?k_Lcopy ?g_Ldrawn ?l_Ldrawn ?c_Ldrawn ?k_Ldrawn ?g_Lalone ?l_Lalone ?c_Lalone ?k_Lalone ?g_Lright ?l_Lright ?c_Lright ?k_Lright ?g_law ?l_law ?c_law ?k_law ?gc_NOUGHT ?gc_ONE ?z_abs ?z_bool ?z_enumerate ?z_int ?z_isinstance ?z_len ?z_list ?z_max ?z_min ?z_range ?z_tuple ?lq_NOUGHT ?vq_NOUGHT ?lq_ONE ?vq_ONE
  (case g_commonpart => k_is)
  (case l_commonpart => k_is)
  (case c_commonpart => k_is)
  (case k_commonpart => k_is)
  (case g_plus => k_is)
  (case l_plus => k_is)
  (case c_plus => k_is)
  (case k_plus => k_is)
  (case g_minus => k_is)
  (case l_minus => k_is)
  (case c_minus => k_is)
  (case k_minus => k_is)
  (case g_isless => k_is)
  (case l_isless => k_is)
  (case c_isless => k_is)
  (case k_isless => k_is)
  (case g_smaller => k_is)
  (case l_smaller => k_is)
  (case c_smaller => k_is)
  (case k_smaller => k_is)
  (case g_endof => k_is)
  (case l_endof => k_is)
  (case c_endof => k_is)
  (case k_endof => k_is)
  (case g_waitslack => k_is)
  (case l_waitslack => k_is)
  (case c_waitslack => k_is)
  (case k_waitslack => k_is)
  (case g_holdslack => k_is)
  (case l_holdslack => k_is)
  (case c_holdslack => k_is)
  (case k_holdslack => k_is)
  (case g_holdway => k_is)
  (case l_holdway => k_is)
  (case c_holdway => k_is)
  (case k_holdway => k_is)
  (case g_waysof => k_is)
  (case l_waysof => k_is)
  (case c_waysof => k_is)
  (case k_waysof => k_is)
  (case g_stretch => k_is)
  (case l_stretch => k_is)
  (case c_stretch => k_is)
  (case k_stretch => k_is)
  (case g_ringpaper => k_is)
  (case l_ringpaper => k_is)
  (case c_ringpaper => k_is)
  (case k_ringpaper => k_is)
  (case g_farthest => k_is)
  (case l_farthest => k_is)
  (case c_farthest => k_is)
  (case k_farthest => k_is)
  (case g_earliest => k_is)
  (case l_earliest => k_is)
  (case c_earliest => k_is)
  (case k_earliest => k_is)
  (case g_latest => k_is)
  (case l_latest => k_is)
  (case c_latest => k_is)
  (case k_latest => k_is)
  (case g_slipalone => k_is)
  (case l_slipalone => k_is)
  (case c_slipalone => k_is)
  (case k_slipalone => k_is)
  (case g_slipsof => k_is)
  (case l_slipsof => k_is)
  (case c_slipsof => k_is)
  (case k_slipsof => k_is)
  (case g_Lbegun => k_is)
  (case l_Lbegun => k_is)
  (case c_Lbegun => k_is)
  (case k_Lbegun => k_is)
  (case g_Ltake => k_is)
  (case l_Ltake => k_is)
  (case c_Ltake => k_is)
  (case k_Ltake => k_is)
  (case g_Llow => k_is)
  (case l_Llow => k_is)
  (case c_Llow => k_is)
  (case k_Llow => k_is)
  (case g_Lplus => k_is)
  (case l_Lplus => k_is)
  (case c_Lplus => k_is)
  (case k_Lplus => k_is)
  (case g_Lminus => k_is)
  (case l_Lminus => k_is)
  (case c_Lminus => k_is)
  (case k_Lminus => k_is)
  (case g_Ltimes => k_is)
  (case l_Ltimes => k_is)
  (case c_Ltimes => k_is)
  (case k_Ltimes => k_is)
  (case g_Lunder => k_is)
  (case l_Lunder => k_is)
  (case c_Lunder => k_is)
  (case k_Lunder => k_is)
  (case g_Lamount => k_is)
  (case l_Lamount => k_is)
  (case c_Lamount => k_is)
  (case k_Lamount => k_is)
  (case g_Loffer => k_is)
  (case l_Loffer => k_is)
  (case c_Loffer => k_is)
  (case k_Loffer => k_is)
  (case g_Lshape => k_is)
  (case l_Lshape => k_is)
  (case c_Lshape => k_is)
  (case k_Lshape => k_is)
  (case g_Lwalk => k_is)
  (case l_Lwalk => k_is)
  (case c_Lwalk => k_is)
  (case k_Lwalk => k_is)
  (case g_Lrate => k_is)
  (case l_Lrate => k_is)
  (case c_Lrate => k_is)
  (case k_Lrate => k_is)
  (case g_Lpaper => k_is)
  (case l_Lpaper => k_is)
  (case c_Lpaper => k_is)
  (case k_Lpaper => k_is)
  (case g_Lflows => k_is)
  (case l_Lflows => k_is)
  (case c_Lflows => k_is)
  (case k_Lflows => k_is)
  (case g_Lleast => k_is)
  (case l_Lleast => k_is)
  (case c_Lleast => k_is)
  (case k_Lleast => k_is)
  (case g_Ltime => k_is)
  (case l_Ltime => k_is)
  (case c_Ltime => k_is)
  (case k_Ltime => k_is)
  (case g_Lplanned => k_is)
  (case l_Lplanned => k_is)
  (case c_Lplanned => k_is)
  (case k_Lplanned => k_is)
  (case g_Lslack => k_is)
  (case l_Lslack => k_is)
  (case c_Lslack => k_is)
  (case k_Lslack => k_is)
  (case g_Llatestend => k_is)
  (case l_Llatestend => k_is)
  (case c_Llatestend => k_is)
  (case k_Llatestend => k_is)
  (case g_Lfraction => k_is)
  (case l_Lfraction => k_is)
  (case c_Lfraction => k_is)
  (case k_Lfraction => k_is)
  (case g_Lcopy => k_is)
  (case l_Lcopy => k_is)
  (case c_Lcopy => k_is)
  (case k_Lcopy => k_is)
  (case g_Ldrawn => k_is)
  (case l_Ldrawn => k_is)
  (case c_Ldrawn => k_is)
  (case k_Ldrawn => k_is)
  (case g_Lalone => k_is)
  (case l_Lalone => k_is)
  (case c_Lalone => k_is)
  (case k_Lalone => k_is)
  (case g_Lright => k_is)
  (case l_Lright => k_is)
  (case c_Lright => k_is)
  (case k_Lright => k_is)
  (case g_law => k_is)
  (case l_law => k_is)
  (case c_law => k_is)
  (case k_law => k_is)
  (case gc_NOUGHT => k_is)
  (case gc_ONE => k_is)
  (case z_abs => k_is)
  (case z_bool => k_is)
  (case z_enumerate => k_is)
  (case z_int => k_is)
  (case z_isinstance => k_is)
  (case z_len => k_is)
  (case z_list => k_is)
  (case z_max => k_is)
  (case z_min => k_is)
  (case z_range => k_is)
  (case z_tuple => k_is)
  (case lq_NOUGHT => k_is)
  (case vq_NOUGHT => exact rfl)
  (case lq_ONE => k_is)
  (case vq_ONE => exact rfl)