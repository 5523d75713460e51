
import PyProof.Rows.All
import Wide.All
import OpenK.AllK
import Wide.FinOn
import Lean
import PyProof.EqAt
import PyProof.EqKinds
import PyProof.TupleCall
import PySem.Challenge.RW_hurryprice_k22_whole_bars_leave_none
set_option Elab.async false
set_option linter.all false
set_option maxRecDepth 100000
set_option maxHeartbeats 4000000
abbrev LW:=List (Int × Int × Rat)
abbrev LH:=List (PySem.Str × Int × Rat)
abbrev LR:=List (Rat × Rat)
abbrev LP:=List PySem.PyData
abbrev LQ:=List Rat
namespace L2
open PySem PySem.Spec PyProof.Rows
def B1 (s:Stmt):Arguments:=match s with
 | .FunctionDef _ a _ _ _ _ _ _ _ _=>a
 | _=>{ posonlyargs:=[],args:=[],vararg:=none,kwonlyargs:=[],kw_defaults:=[],kwarg:=none,defaults:=[] }
def B0 (s:Stmt):List Stmt:=match s with
 | .FunctionDef _ _ b _ _ _ _ _ _ _=>b
 | _=>[]
def A6 (s:Stmt):Scope:=match s with
 | .FunctionDef _ _ _ _ _ _ sc _ _ _=>sc
 | _=>{ kind:=.function,names:=[],isGenerator:=false,isCoroutine:=false }
end L2
namespace L2
open PySem PySem.W PySem.Spec PyProof.Rows
def R1 (tb:String->Option Builtin) (p:Program) (w:World) (m:Nat) (ann:Option Value):Nat->SharedT->Thread->Option SharedT
 | 0,_,_=>none
 | n + 1,s,t=>match through t with
  | true=>some s
  | false=>match stepOk m ann t with
   | false=>none
   | true=>match stepT (denote tb) p w s t with
    | some x=>R1 tb p w m ann n x.1 x.2
    | none=>none
theorem W5 {tb:String->Option Builtin} {p:Program} {w:World} {m:Nat} {ann:Option Value}:∀ (n:Nat) (s r:SharedT) (t:Thread),R1 tb p w m ann n s t=some r->topRun tb p w m ann n s.abs t=some r.abs
 | 0,_,_,_,h=>by cases h
 | n + 1,s,r,t,h=>by
  unfold R1 at h;unfold topRun;cases a:through t with
  | true=>rw [a] at h; cases h; rfl
  | false =>
   rw [a] at h;cases b:stepOk m ann t with
   | false=>rw [b] at h; cases h
   | true =>
    rw [b] at h;cases c:stepT (denote tb) p w s t with
    | none=>rw [c] at h; cases h
    | some x =>
     rw [c] at h;rw [stepT_spec (s':=x.1) (t':=x.2) c];exact W5 n x.1 r x.2 h
def mkT (os:List Obj):Nat->Nat->Nat->BT
 | 0,_,_=>.nil
 | k + 1,a,b=>match os[b]? with
  | some o=>.node o (mkT os k (2 * a) (a + b)) (mkT os k (2 * a) (2 * a + b))
  | none=>.nil
noncomputable def A5w (w:World) (os:OsState):Shared:=⟨boot_heap w.params,Array.mk [],boot_drawn,boot_toks,os⟩
noncomputable def B24 (w:World) (os:OsState):SharedT:=⟨mkT (boot_heap w.params).objs.toList 12 1 0,(boot_heap w.params).objs.size,(boot_heap w.params).life,Array.mk [],boot_drawn,boot_toks,os⟩
theorem B23 (w:World) (os:OsState):(B24 w os).abs=A5w w os:=by kernel_rfl
theorem B8g (w:World) (os:OsState):((A5w w os).heap.isNs mainGlobals && (A5w w os).gens.size == 0)=true:=by kernel_rfl
theorem C3f {p q:Program} {loose:List Str} {Xt:Shared->Bool} {α:Type} {Yf:Shared->α} {Ya:World->α} {N:Nat} (ho:opening p=plainProg p.main.scope.names) (hN:Nat.ble 600 N=true) (hf:∀ s,fenceModules? p s=some s)
  (run:∀ (w:World) (os:OsState),(R1 treeTable p w (boot_heap w.params).objs.size ((boot_heap w.params).nsMap mainGlobals "__annotations__") N (B24 w os) (topStub p)).map
   (fun x=>(staticsOk (importedModules p.main.body) (boot_heap w.params) x.abs.heap && namesBound p x.abs.heap && gensDone x.abs && laidKept (boot_heap w.params) x.abs.heap,openSeen q loose (importedModules p.main.body) Xt true x.abs,Yf x.abs))=some (true,openGood q loose,Ya w)) :
  LeftO p q loose Xt Yf Ya N:=fun w=>by
 obtain ⟨⟨h,gs,d,k,os⟩,e,z⟩:=Option.map_eq_some_iff.mp (boot_open ho hN hf w);obtain ⟨rfl,rfl,rfl,rfl⟩:h=boot_heap w.params/\gs=Array.mk []/\d=boot_drawn/\k=boot_toks:=by simpa using z
 obtain ⟨x,r,v⟩:=Option.map_eq_some_iff.mp (run w os);have r:=W5 _ _ _ _ r;rw [B23] at r;obtain ⟨v1,v2⟩:=Prod.mk.inj v;obtain ⟨v2,v3⟩:=Prod.mk.inj v2;show ((fencedOpening treeTable p w N).bind (topFrom treeTable p w N)).map _=_;rw [e];show (topFrom treeTable p w N (A5w w os)).map _=_;have t:topFrom treeTable p w N (A5w w os)=some x.abs:=by
  unfold topFrom;rw [B8g];show (topRun treeTable p w (boot_heap w.params).objs.size ((boot_heap w.params).nsMap mainGlobals "__annotations__") N (A5w w os) (topStub p)).bind _=_;rw [r];show (match staticsOk (importedModules p.main.body) (boot_heap w.params) x.abs.heap && namesBound p x.abs.heap && gensDone x.abs && laidKept (boot_heap w.params) x.abs.heap with | true=>some x.abs | false=>none)=_;rw [v1]
 rw [t];show some (openSeen q loose (importedModules p.main.body) Xt true x.abs,Yf x.abs)=_;rw [v2,v3]
noncomputable abbrev ranT (p:Program) (N:Nat) (w:World) (os:OsState):Option SharedT:=R1 treeTable p w (boot_heap w.params).objs.size ((boot_heap w.params).nsMap mainGlobals "__annotations__") N (B24 w os) (topStub p)
theorem C1e {p q:Program} {loose:List Str} {Xt:Shared->Bool} {α:Type} {Yf:Shared->α} {Ya:World->α} {N:Nat} (ho:opening p=plainProg p.main.scope.names) (hN:Nat.ble 600 N=true) (hf:∀ s,fenceModules? p s=some s)
  (a:∀ (w:World) (os:OsState),(ranT p N w os).map (fun x=>staticsOk (importedModules p.main.body) (boot_heap w.params) x.abs.heap && namesBound p x.abs.heap && gensDone x.abs && laidKept (boot_heap w.params) x.abs.heap)=some true)
  (b:∀ (w:World) (os:OsState),(ranT p N w os).map (fun x=>openSeen q loose (importedModules p.main.body) Xt true x.abs)=some (openGood q loose))
  (c:∀ (w:World) (os:OsState),(ranT p N w os).map (fun x=>Yf x.abs)=some (Ya w)):LeftO p q loose Xt Yf Ya N :=
 C3f ho hN hf fun w os=>by
  obtain ⟨x,r,e⟩:=Option.map_eq_some_iff.mp (a w os);have r':R1 treeTable p w (boot_heap w.params).objs.size ((boot_heap w.params).nsMap mainGlobals "__annotations__") N (B24 w os) (topStub p)=some x:=r;have f:openSeen q loose (importedModules p.main.body) Xt true x.abs=openGood q loose:=by have z:=b w os; rw [r] at z; exact Option.some.inj z
  have g:Yf x.abs=Ya w:=by have z:=c w os; rw [r] at z; exact Option.some.inj z
  rw [r'];show some (_,_,_)=_;rw [e,f,g]
theorem C1d {p q:Program} {loose:List Str} {Xt:Shared->Bool} {α:Type} {Yf:Shared->α} {Ya:World->α} {N:Nat} (ho:opening p=plainProg p.main.scope.names) (hN:Nat.ble 600 N=true) (hf:∀ s,fenceModules? p s=some s)
  (a:∀ (w:World) (os:OsState),(ranT p N w os).map (fun x=>staticsOk (importedModules p.main.body) (boot_heap w.params) x.abs.heap && namesBound p x.abs.heap && gensDone x.abs && laidKept (boot_heap w.params) x.abs.heap)=some true)
  (b:∀ (w:World) (os:OsState),(ranT p N w os).map (fun x=>(openSeen q loose (importedModules p.main.body) Xt true x.abs).1)=some (openGood q loose).1)
  (b':∀ (w:World) (os:OsState),(ranT p N w os).map (fun x=>(openSeen q loose (importedModules p.main.body) Xt true x.abs).2)=some (openGood q loose).2)
  (c:∀ (w:World) (os:OsState),(ranT p N w os).map (fun x=>Yf x.abs)=some (Ya w)):LeftO p q loose Xt Yf Ya N :=
 C1e ho hN hf a (fun w os=>by
  obtain ⟨x,r,e⟩:=Option.map_eq_some_iff.mp (b w os);have z:=b' w os;rw [r] at z ⊢;exact congrArg some (Prod.ext e (Option.some.inj z))) c
end L2
namespace Prf
open PySem L2
def top (i:Nat):Stmt:=PySem.Challenge.pw_hurryprice_k22_whole_bars_leave_none.main.body.getD i (.Pass ⟨0,0,0,0⟩)
abbrev s_b0:Stmt:=top 5
abbrev s_a6:Stmt:=top 6
abbrev s_a2:Stmt:=top 7
abbrev s_af:Stmt:=top 8
abbrev s_cc:Stmt:=top 11
abbrev s_c7:Stmt:=top 12
abbrev s_b1:Stmt:=top 13
abbrev s_bd:Stmt:=top 14
abbrev s_b2:Stmt:=top 15
abbrev s_c8:Stmt:=top 16
abbrev s_a7:Stmt:=top 18
abbrev s_a0:Stmt:=top 20
abbrev s_c6:Stmt:=top 22
abbrev s_a5:Stmt:=top 23
abbrev s_a3:Stmt:=top 24
abbrev s_ae:Stmt:=top 25
abbrev s_ac:Stmt:=top 26
abbrev s_a4:Stmt:=top 27
abbrev s_be:Stmt:=top 28
abbrev s_aa:Stmt:=top 30
abbrev s_a9:Stmt:=top 31
abbrev s_ad:Stmt:=top 32
abbrev s_ca:Stmt:=top 33
abbrev s_b3:Stmt:=top 35
abbrev s_c4:Stmt:=top 36
abbrev s_c9:Stmt:=top 37
abbrev s_c2:Stmt:=top 38
abbrev s_b6:Stmt:=top 39
abbrev s_bb:Stmt:=top 40
abbrev s_bc:Stmt:=top 41
abbrev s_ab:Stmt:=top 42
abbrev s_b7:Stmt:=top 43
abbrev s_ba:Stmt:=top 44
abbrev s_c5:Stmt:=top 45
abbrev s_c3:Stmt:=top 46
abbrev s_b8:Stmt:=top 47
abbrev s_b9:Stmt:=top 48
abbrev s_c0:Stmt:=top 49
abbrev s_b5:Stmt:=top 50
abbrev s_a1:Stmt:=top 51
abbrev s_b4:Stmt:=top 52
abbrev s_a8:Stmt:=top 53
abbrev s_c1:Stmt:=top 54
abbrev s_cd:Stmt:=top 55
abbrev nE (P:Params) (x:Str) (t:Tok) (v:Value):DictEntry:=⟨PyData.keyHash P x,.str x t,v⟩
noncomputable def kk:Params->PySem.W.Frag:=fun P =>
 (nat_lit 3,⟨(.type "dict"),none,(.dict #[nE P "__name__" 165 (.str "law_hurryprice_k22_whole_bars_leave_none" 494),nE P "__doc__" 166 .none,nE P "__package__" 167 .none,nE P "__loader__" 168 (.builtin "__main__.__loader__#opaque"),nE P "__spec__" 169 .none,nE P "__annotations__" 170 (.ref 6),nE P "__builtins__" 171 (.ref 4),nE P "__file__" 173 (.str "/claim/cut.py" 172),nE P "__cached__" 174 .none,nE P "HurryError" 206 (.ref 24),nE P "NoPaper" 231 (.ref 44),nE P "Unbalanced" 256 (.ref 63),nE P "is_whole" 265 (.ref 72),nE P "is_tuple_of" 273 (.ref 79),nE P "common_part" 281 (.ref 86),nE P "is_ratio" 290 (.ref 93),nE P "NOUGHT" 295 (.ref 94),nE P "plus" 308 (.ref 101),nE P "minus" 316 (.ref 108),nE P "product" 326 (.ref 115),nE P "is_less" 334 (.ref 122),nE P "smaller" 342 (.ref 129),nE P "sum_of" 351 (.ref 136),nE P "least_with" 359 (.ref 141),nE P "is_number_below" 369 (.ref 148),nE P "is_arc" 385 (.ref 155),nE P "is_carried" 395 (.ref 162),nE P "look_at_form" 406 (.ref 169),nE P "flows_of" 412 (.ref 174),nE P "add_hold" 425 (.ref 181),nE P "amounts_of" 437 (.ref 188),nE P "rate_of" 443 (.ref 193),nE P "weight_of" 463 (.ref 200),nE P "claims_of" 469 (.ref 205),nE P "claimed" 481 (.ref 212),nE P "bars" 493 (.ref 219),nE P "_law_begun" 504 (.ref 226),nE P "_law_take" 515 (.ref 233),nE P "_law_low" 525 (.ref 240),nE P "_law_plus" 533 (.ref 247),nE P "_law_minus" 541 (.ref 254),nE P "_law_times" 549 (.ref 261),nE P "_law_under" 557 (.ref 268),nE P "_law_amount" 568 (.ref 275),nE P "_law_offer" 574 (.ref 280),nE P "_law_shape" 593 (.ref 287),nE P "_law_walk" 599 (.ref 292),nE P "_law_rate" 613 (.ref 299),nE P "_law_paper" 619 (.ref 304),nE P "_law_price" 632 (.ref 311),nE P "_law_cost" 642 (.ref 318),nE P "_law_loose" 660 (.ref 325),nE P "_law_times_drawn" 677 (.ref 332),nE P "_law_keeps" 683 (.ref 337),nE P "_law_soonest" 689 (.ref 342),nE P "_law_held" 702 (.ref 349),nE P "law" 721 (.ref 356)] 57),#[]⟩) ::
 (nat_lit 71,⟨(.type "code"),none,(.fields #[(.str "is_whole" 259),(.str "is_whole" 260),(.str "/claim/cut.py" 261),(.int 13 0),(.int 1 0),(.int 0 0),(.int 0 0),(.int 3 0),(.ref 66),(.bool true),(.int 181 0),(.ref 67),.none,(.ref 68),(.ref 69),(.ref 70),(.int 263 0),(.int 13 0),(.str "/claim/cut.py" 264)]),#[]⟩) ::
 (nat_lit 72,⟨(.type "function"),none,(.func (PySem.W.fnOf "is_whole" "is_whole" (B1 s_b0) (B0 s_b0) (A6 s_b0) .none .none .none (.str "hurryprice.names" 257) none (.ref 71) .none)),#[]⟩) ::
 (nat_lit 78,⟨(.type "code"),none,(.fields #[(.str "is_tuple_of" 266),(.str "is_tuple_of" 267),(.str "/claim/cut.py" 268),(.int 15 0),(.int 2 0),(.int 0 0),(.int 0 0),(.int 3 0),(.ref 73),(.bool true),(.int 181 0),(.ref 74),.none,(.ref 75),(.ref 76),(.ref 77),(.int 271 0),(.int 15 0),(.str "/claim/cut.py" 272)]),#[]⟩) ::
 (nat_lit 79,⟨(.type "function"),none,(.func (PySem.W.fnOf "is_tuple_of" "is_tuple_of" (B1 s_a6) (B0 s_a6) (A6 s_a6) .none .none .none (.str "hurryprice.names" 257) none (.ref 78) .none)),#[]⟩) ::
 (nat_lit 85,⟨(.type "code"),none,(.fields #[(.str "common_part" 274),(.str "common_part" 275),(.str "/claim/cut.py" 276),(.int 17 0),(.int 2 0),(.int 0 0),(.int 0 0),(.int 3 0),(.ref 80),(.bool true),(.int 181 0),(.ref 81),.none,(.ref 82),(.ref 83),(.ref 84),(.int 279 0),(.int 17 0),(.str "/claim/cut.py" 280)]),#[]⟩) ::
 (nat_lit 86,⟨(.type "function"),none,(.func (PySem.W.fnOf "common_part" "common_part" (B1 s_a2) (B0 s_a2) (A6 s_a2) .none .none .none (.str "hurryprice.names" 257) none (.ref 85) .none)),#[]⟩) ::
 (nat_lit 92,⟨(.type "code"),none,(.fields #[(.str "is_ratio" 282),(.str "is_ratio" 283),(.str "/claim/cut.py" 284),(.int 22 0),(.int 1 0),(.int 0 0),(.int 0 0),(.int 3 0),(.ref 87),(.bool true),(.int 181 0),(.ref 88),.none,(.ref 89),(.ref 90),(.ref 91),(.int 288 0),(.int 22 0),(.str "/claim/cut.py" 289)]),#[]⟩) ::
 (nat_lit 93,⟨(.type "function"),none,(.func (PySem.W.fnOf "is_ratio" "is_ratio" (B1 s_af) (B0 s_af) (A6 s_af) .none .none .none (.str "hurryprice.names" 257) none (.ref 92) .none)),#[]⟩) ::
 (nat_lit 94,⟨(.type "tuple"),none,(.seq #[(.int 0 293),(.int 1 294)] 0),#[]⟩) ::
 (nat_lit 100,⟨(.type "code"),none,(.fields #[(.str "plus" 296),(.str "plus" 297),(.str "/claim/cut.py" 298),(.int 31 0),(.int 2 0),(.int 0 0),(.int 0 0),(.int 3 0),(.ref 95),(.bool true),(.int 181 0),(.ref 96),.none,(.ref 97),(.ref 98),(.ref 99),(.int 306 0),(.int 31 0),(.str "/claim/cut.py" 307)]),#[]⟩) ::
 (nat_lit 101,⟨(.type "function"),none,(.func (PySem.W.fnOf "plus" "plus" (B1 s_cc) (B0 s_cc) (A6 s_cc) .none .none .none (.str "hurryprice.ratios" 291) none (.ref 100) .none)),#[]⟩) ::
 (nat_lit 107,⟨(.type "code"),none,(.fields #[(.str "minus" 309),(.str "minus" 310),(.str "/claim/cut.py" 311),(.int 37 0),(.int 2 0),(.int 0 0),(.int 0 0),(.int 3 0),(.ref 102),(.bool true),(.int 181 0),(.ref 103),.none,(.ref 104),(.ref 105),(.ref 106),(.int 314 0),(.int 37 0),(.str "/claim/cut.py" 315)]),#[]⟩) ::
 (nat_lit 108,⟨(.type "function"),none,(.func (PySem.W.fnOf "minus" "minus" (B1 s_c7) (B0 s_c7) (A6 s_c7) .none .none .none (.str "hurryprice.ratios" 291) none (.ref 107) .none)),#[]⟩) ::
 (nat_lit 114,⟨(.type "code"),none,(.fields #[(.str "product" 317),(.str "product" 318),(.str "/claim/cut.py" 319),(.int 39 0),(.int 2 0),(.int 0 0),(.int 0 0),(.int 3 0),(.ref 109),(.bool true),(.int 181 0),(.ref 110),.none,(.ref 111),(.ref 112),(.ref 113),(.int 324 0),(.int 39 0),(.str "/claim/cut.py" 325)]),#[]⟩) ::
 (nat_lit 115,⟨(.type "function"),none,(.func (PySem.W.fnOf "product" "product" (B1 s_b1) (B0 s_b1) (A6 s_b1) .none .none .none (.str "hurryprice.ratios" 291) none (.ref 114) .none)),#[]⟩) ::
 (nat_lit 121,⟨(.type "code"),none,(.fields #[(.str "is_less" 327),(.str "is_less" 328),(.str "/claim/cut.py" 329),(.int 42 0),(.int 2 0),(.int 0 0),(.int 0 0),(.int 3 0),(.ref 116),(.bool true),(.int 181 0),(.ref 117),.none,(.ref 118),(.ref 119),(.ref 120),(.int 332 0),(.int 42 0),(.str "/claim/cut.py" 333)]),#[]⟩) ::
 (nat_lit 122,⟨(.type "function"),none,(.func (PySem.W.fnOf "is_less" "is_less" (B1 s_bd) (B0 s_bd) (A6 s_bd) .none .none .none (.str "hurryprice.ratios" 291) none (.ref 121) .none)),#[]⟩) ::
 (nat_lit 128,⟨(.type "code"),none,(.fields #[(.str "smaller" 335),(.str "smaller" 336),(.str "/claim/cut.py" 337),(.int 44 0),(.int 2 0),(.int 0 0),(.int 0 0),(.int 3 0),(.ref 123),(.bool true),(.int 181 0),(.ref 124),.none,(.ref 125),(.ref 126),(.ref 127),(.int 340 0),(.int 44 0),(.str "/claim/cut.py" 341)]),#[]⟩) ::
 (nat_lit 129,⟨(.type "function"),none,(.func (PySem.W.fnOf "smaller" "smaller" (B1 s_b2) (B0 s_b2) (A6 s_b2) .none .none .none (.str "hurryprice.ratios" 291) none (.ref 128) .none)),#[]⟩) ::
 (nat_lit 135,⟨(.type "code"),none,(.fields #[(.str "sum_of" 343),(.str "sum_of" 344),(.str "/claim/cut.py" 345),(.int 46 0),(.int 1 0),(.int 0 0),(.int 0 0),(.int 3 0),(.ref 130),(.bool true),(.int 181 0),(.ref 131),.none,(.ref 132),(.ref 133),(.ref 134),(.int 349 0),(.int 46 0),(.str "/claim/cut.py" 350)]),#[]⟩) ::
 (nat_lit 136,⟨(.type "function"),none,(.func (PySem.W.fnOf "sum_of" "sum_of" (B1 s_c8) (B0 s_c8) (A6 s_c8) .none .none .none (.str "hurryprice.ratios" 291) none (.ref 135) .none)),#[]⟩) ::
 (nat_lit 140,⟨(.type "code"),none,(.fields #[(.str "least_with" 354),(.str "least_with" 355),(.str "/claim/cut.py" 356),(.int 52 0),(.int 2 0),(.int 0 0),(.int 0 0),(.int 3 0),(.ref 137),(.bool true),(.int 181 0),(.ref 138),.none,.none,.none,(.ref 139),(.int 357 0),(.int 52 0),(.str "/claim/cut.py" 358)]),#[]⟩) ::
 (nat_lit 141,⟨(.type "function"),none,(.func (PySem.W.fnOf "least_with" "least_with" (B1 s_a7) (B0 s_a7) (A6 s_a7) .none .none .none (.str "hurryprice.offers" 352) none (.ref 140) .none)),#[]⟩) ::
 (nat_lit 147,⟨(.type "code"),none,(.fields #[(.str "is_number_below" 362),(.str "is_number_below" 363),(.str "/claim/cut.py" 364),(.int 59 0),(.int 2 0),(.int 0 0),(.int 0 0),(.int 3 0),(.ref 142),(.bool true),(.int 181 0),(.ref 143),.none,(.ref 144),(.ref 145),(.ref 146),(.int 367 0),(.int 59 0),(.str "/claim/cut.py" 368)]),#[]⟩) ::
 (nat_lit 148,⟨(.type "function"),none,(.func (PySem.W.fnOf "is_number_below" "is_number_below" (B1 s_a0) (B0 s_a0) (A6 s_a0) .none .none .none (.str "hurryprice.nets" 360) none (.ref 147) .none)),#[]⟩) ::
 (nat_lit 154,⟨(.type "code"),none,(.fields #[(.str "is_arc" 372),(.str "is_arc" 373),(.str "/claim/cut.py" 374),(.int 62 0),(.int 2 0),(.int 0 0),(.int 0 0),(.int 3 0),(.ref 149),(.bool true),(.int 181 0),(.ref 150),.none,(.ref 151),(.ref 152),(.ref 153),(.int 383 0),(.int 62 0),(.str "/claim/cut.py" 384)]),#[]⟩) ::
 (nat_lit 155,⟨(.type "function"),none,(.func (PySem.W.fnOf "is_arc" "is_arc" (B1 s_c6) (B0 s_c6) (A6 s_c6) .none .none .none (.str "hurryprice.papers" 370) none (.ref 154) .none)),#[]⟩) ::
 (nat_lit 161,⟨(.type "code"),none,(.fields #[(.str "is_carried" 386),(.str "is_carried" 387),(.str "/claim/cut.py" 388),(.int 69 0),(.int 2 0),(.int 0 0),(.int 0 0),(.int 3 0),(.ref 156),(.bool true),(.int 181 0),(.ref 157),.none,(.ref 158),(.ref 159),(.ref 160),(.int 393 0),(.int 69 0),(.str "/claim/cut.py" 394)]),#[]⟩) ::
 (nat_lit 162,⟨(.type "function"),none,(.func (PySem.W.fnOf "is_carried" "is_carried" (B1 s_a5) (B0 s_a5) (A6 s_a5) .none .none .none (.str "hurryprice.papers" 370) none (.ref 161) .none)),#[]⟩) ::
 (nat_lit 168,⟨(.type "code"),none,(.fields #[(.str "look_at_form" 396),(.str "look_at_form" 397),(.str "/claim/cut.py" 398),(.int 74 0),(.int 2 0),(.int 0 0),(.int 0 0),(.int 3 0),(.ref 163),(.bool true),(.int 181 0),(.ref 164),.none,(.ref 165),(.ref 166),(.ref 167),(.int 404 0),(.int 74 0),(.str "/claim/cut.py" 405)]),#[]⟩) ::
 (nat_lit 169,⟨(.type "function"),none,(.func (PySem.W.fnOf "look_at_form" "look_at_form" (B1 s_a3) (B0 s_a3) (A6 s_a3) .none .none .none (.str "hurryprice.papers" 370) none (.ref 168) .none)),#[]⟩) ::
 (nat_lit 173,⟨(.type "code"),none,(.fields #[(.str "flows_of" 407),(.str "flows_of" 408),(.str "/claim/cut.py" 409),(.int 82 0),(.int 2 0),(.int 0 0),(.int 0 0),(.int 3 0),(.ref 170),(.bool true),(.int 181 0),(.ref 171),.none,.none,.none,(.ref 172),(.int 410 0),(.int 82 0),(.str "/claim/cut.py" 411)]),#[]⟩) ::
 (nat_lit 174,⟨(.type "function"),none,(.func (PySem.W.fnOf "flows_of" "flows_of" (B1 s_ae) (B0 s_ae) (A6 s_ae) .none .none .none (.str "hurryprice.papers" 370) none (.ref 173) .none)),#[]⟩) ::
 (nat_lit 180,⟨(.type "code"),none,(.fields #[(.str "add_hold" 413),(.str "add_hold" 414),(.str "/claim/cut.py" 415),(.int 98 0),(.int 4 0),(.int 0 0),(.int 0 0),(.int 3 0),(.ref 175),(.bool true),(.int 181 0),(.ref 176),.none,(.ref 177),(.ref 178),(.ref 179),(.int 423 0),(.int 98 0),(.str "/claim/cut.py" 424)]),#[]⟩) ::
 (nat_lit 181,⟨(.type "function"),none,(.func (PySem.W.fnOf "add_hold" "add_hold" (B1 s_ac) (B0 s_ac) (A6 s_ac) .none .none .none (.str "hurryprice.papers" 370) none (.ref 180) .none)),#[]⟩) ::
 (nat_lit 187,⟨(.type "code"),none,(.fields #[(.str "amounts_of" 426),(.str "amounts_of" 427),(.str "/claim/cut.py" 428),(.int 106 0),(.int 2 0),(.int 0 0),(.int 0 0),(.int 3 0),(.ref 182),(.bool true),(.int 181 0),(.ref 183),.none,(.ref 184),(.ref 185),(.ref 186),(.int 435 0),(.int 106 0),(.str "/claim/cut.py" 436)]),#[]⟩) ::
 (nat_lit 188,⟨(.type "function"),none,(.func (PySem.W.fnOf "amounts_of" "amounts_of" (B1 s_a4) (B0 s_a4) (A6 s_a4) .none .none .none (.str "hurryprice.papers" 370) none (.ref 187) .none)),#[]⟩) ::
 (nat_lit 192,⟨(.type "code"),none,(.fields #[(.str "rate_of" 438),(.str "rate_of" 439),(.str "/claim/cut.py" 440),(.int 113 0),(.int 1 0),(.int 0 0),(.int 0 0),(.int 3 0),(.ref 189),(.bool true),(.int 181 0),(.ref 190),.none,.none,.none,(.ref 191),(.int 441 0),(.int 113 0),(.str "/claim/cut.py" 442)]),#[]⟩) ::
 (nat_lit 193,⟨(.type "function"),none,(.func (PySem.W.fnOf "rate_of" "rate_of" (B1 s_be) (B0 s_be) (A6 s_be) .none .none .none (.str "hurryprice.papers" 370) none (.ref 192) .none)),#[]⟩) ::
 (nat_lit 199,⟨(.type "code"),none,(.fields #[(.str "weight_of" 446),(.str "weight_of" 447),(.str "/claim/cut.py" 448),(.int 116 0),(.int 2 0),(.int 0 0),(.int 0 0),(.int 3 0),(.ref 194),(.bool true),(.int 181 0),(.ref 195),.none,(.ref 196),(.ref 197),(.ref 198),(.int 461 0),(.int 116 0),(.str "/claim/cut.py" 462)]),#[]⟩) ::
 (nat_lit 200,⟨(.type "function"),none,(.func (PySem.W.fnOf "weight_of" "weight_of" (B1 s_aa) (B0 s_aa) (A6 s_aa) .none .none .none (.str "hurryprice.claims" 444) none (.ref 199) .none)),#[]⟩) ::
 (nat_lit 204,⟨(.type "code"),none,(.fields #[(.str "claims_of" 464),(.str "claims_of" 465),(.str "/claim/cut.py" 466),(.int 127 0),(.int 2 0),(.int 0 0),(.int 0 0),(.int 3 0),(.ref 201),(.bool true),(.int 181 0),(.ref 202),.none,.none,.none,(.ref 203),(.int 467 0),(.int 127 0),(.str "/claim/cut.py" 468)]),#[]⟩) ::
 (nat_lit 205,⟨(.type "function"),none,(.func (PySem.W.fnOf "claims_of" "claims_of" (B1 s_a9) (B0 s_a9) (A6 s_a9) .none .none .none (.str "hurryprice.claims" 444) none (.ref 204) .none)),#[]⟩) ::
 (nat_lit 211,⟨(.type "code"),none,(.fields #[(.str "claimed" 470),(.str "claimed" 471),(.str "/claim/cut.py" 472),(.int 134 0),(.int 3 0),(.int 0 0),(.int 0 0),(.int 3 0),(.ref 206),(.bool true),(.int 181 0),(.ref 207),.none,(.ref 208),(.ref 209),(.ref 210),(.int 479 0),(.int 134 0),(.str "/claim/cut.py" 480)]),#[]⟩) ::
 (nat_lit 212,⟨(.type "function"),none,(.func (PySem.W.fnOf "claimed" "claimed" (B1 s_ad) (B0 s_ad) (A6 s_ad) .none .none .none (.str "hurryprice.claims" 444) none (.ref 211) .none)),#[]⟩) ::
 (nat_lit 218,⟨(.type "code"),none,(.fields #[(.str "bars" 482),(.str "bars" 483),(.str "/claim/cut.py" 484),(.int 137 0),(.int 3 0),(.int 0 0),(.int 0 0),(.int 3 0),(.ref 213),(.bool true),(.int 181 0),(.ref 214),.none,(.ref 215),(.ref 216),(.ref 217),(.int 491 0),(.int 137 0),(.str "/claim/cut.py" 492)]),#[]⟩) ::
 (nat_lit 219,⟨(.type "function"),none,(.func (PySem.W.fnOf "bars" "bars" (B1 s_ca) (B0 s_ca) (A6 s_ca) .none .none .none (.str "hurryprice.claims" 444) none (.ref 218) .none)),#[]⟩) ::
 (nat_lit 225,⟨(.type "code"),none,(.fields #[(.str "_law_begun" 496),(.str "_law_begun" 497),(.str "/claim/cut.py" 498),(.int 141 0),(.int 2 0),(.int 0 0),(.int 0 0),(.int 3 0),(.ref 220),(.bool true),(.int 181 0),(.ref 221),.none,(.ref 222),(.ref 223),(.ref 224),(.int 502 0),(.int 141 0),(.str "/claim/cut.py" 503)]),#[]⟩) ::
 (nat_lit 226,⟨(.type "function"),none,(.func (PySem.W.fnOf "_law_begun" "_law_begun" (B1 s_b3) (B0 s_b3) (A6 s_b3) .none .none .none (.str "law_hurryprice_k22_whole_bars_leave_none" 494) none (.ref 225) .none)),#[]⟩) ::
 (nat_lit 232,⟨(.type "code"),none,(.fields #[(.str "_law_take" 505),(.str "_law_take" 506),(.str "/claim/cut.py" 507),(.int 146 0),(.int 2 0),(.int 0 0),(.int 0 0),(.int 3 0),(.ref 227),(.bool true),(.int 181 0),(.ref 228),.none,(.ref 229),(.ref 230),(.ref 231),(.int 513 0),(.int 146 0),(.str "/claim/cut.py" 514)]),#[]⟩) ::
 (nat_lit 233,⟨(.type "function"),none,(.func (PySem.W.fnOf "_law_take" "_law_take" (B1 s_c4) (B0 s_c4) (A6 s_c4) .none .none .none (.str "law_hurryprice_k22_whole_bars_leave_none" 494) none (.ref 232) .none)),#[]⟩) ::
 (nat_lit 239,⟨(.type "code"),none,(.fields #[(.str "_law_low" 516),(.str "_law_low" 517),(.str "/claim/cut.py" 518),(.int 157 0),(.int 2 0),(.int 0 0),(.int 0 0),(.int 3 0),(.ref 234),(.bool true),(.int 181 0),(.ref 235),.none,(.ref 236),(.ref 237),(.ref 238),(.int 523 0),(.int 157 0),(.str "/claim/cut.py" 524)]),#[]⟩) ::
 (nat_lit 240,⟨(.type "function"),none,(.func (PySem.W.fnOf "_law_low" "_law_low" (B1 s_c9) (B0 s_c9) (A6 s_c9) .none .none .none (.str "law_hurryprice_k22_whole_bars_leave_none" 494) none (.ref 239) .none)),#[]⟩) ::
 (nat_lit 246,⟨(.type "code"),none,(.fields #[(.str "_law_plus" 526),(.str "_law_plus" 527),(.str "/claim/cut.py" 528),(.int 163 0),(.int 2 0),(.int 0 0),(.int 0 0),(.int 3 0),(.ref 241),(.bool true),(.int 181 0),(.ref 242),.none,(.ref 243),(.ref 244),(.ref 245),(.int 531 0),(.int 163 0),(.str "/claim/cut.py" 532)]),#[]⟩) ::
 (nat_lit 247,⟨(.type "function"),none,(.func (PySem.W.fnOf "_law_plus" "_law_plus" (B1 s_c2) (B0 s_c2) (A6 s_c2) .none .none .none (.str "law_hurryprice_k22_whole_bars_leave_none" 494) none (.ref 246) .none)),#[]⟩) ::
 (nat_lit 253,⟨(.type "code"),none,(.fields #[(.str "_law_minus" 534),(.str "_law_minus" 535),(.str "/claim/cut.py" 536),(.int 165 0),(.int 2 0),(.int 0 0),(.int 0 0),(.int 3 0),(.ref 248),(.bool true),(.int 181 0),(.ref 249),.none,(.ref 250),(.ref 251),(.ref 252),(.int 539 0),(.int 165 0),(.str "/claim/cut.py" 540)]),#[]⟩) ::
 (nat_lit 254,⟨(.type "function"),none,(.func (PySem.W.fnOf "_law_minus" "_law_minus" (B1 s_b6) (B0 s_b6) (A6 s_b6) .none .none .none (.str "law_hurryprice_k22_whole_bars_leave_none" 494) none (.ref 253) .none)),#[]⟩) ::
 (nat_lit 260,⟨(.type "code"),none,(.fields #[(.str "_law_times" 542),(.str "_law_times" 543),(.str "/claim/cut.py" 544),(.int 167 0),(.int 2 0),(.int 0 0),(.int 0 0),(.int 3 0),(.ref 255),(.bool true),(.int 181 0),(.ref 256),.none,(.ref 257),(.ref 258),(.ref 259),(.int 547 0),(.int 167 0),(.str "/claim/cut.py" 548)]),#[]⟩) ::
 (nat_lit 261,⟨(.type "function"),none,(.func (PySem.W.fnOf "_law_times" "_law_times" (B1 s_bb) (B0 s_bb) (A6 s_bb) .none .none .none (.str "law_hurryprice_k22_whole_bars_leave_none" 494) none (.ref 260) .none)),#[]⟩) ::
 (nat_lit 267,⟨(.type "code"),none,(.fields #[(.str "_law_under" 550),(.str "_law_under" 551),(.str "/claim/cut.py" 552),(.int 169 0),(.int 2 0),(.int 0 0),(.int 0 0),(.int 3 0),(.ref 262),(.bool true),(.int 181 0),(.ref 263),.none,(.ref 264),(.ref 265),(.ref 266),(.int 555 0),(.int 169 0),(.str "/claim/cut.py" 556)]),#[]⟩) ::
 (nat_lit 268,⟨(.type "function"),none,(.func (PySem.W.fnOf "_law_under" "_law_under" (B1 s_bc) (B0 s_bc) (A6 s_bc) .none .none .none (.str "law_hurryprice_k22_whole_bars_leave_none" 494) none (.ref 267) .none)),#[]⟩) ::
 (nat_lit 274,⟨(.type "code"),none,(.fields #[(.str "_law_amount" 558),(.str "_law_amount" 559),(.str "/claim/cut.py" 560),(.int 171 0),(.int 3 0),(.int 0 0),(.int 0 0),(.int 3 0),(.ref 269),(.bool true),(.int 181 0),(.ref 270),.none,(.ref 271),(.ref 272),(.ref 273),(.int 566 0),(.int 171 0),(.str "/claim/cut.py" 567)]),#[]⟩) ::
 (nat_lit 275,⟨(.type "function"),none,(.func (PySem.W.fnOf "_law_amount" "_law_amount" (B1 s_ab) (B0 s_ab) (A6 s_ab) .none .none .none (.str "law_hurryprice_k22_whole_bars_leave_none" 494) none (.ref 274) .none)),#[]⟩) ::
 (nat_lit 279,⟨(.type "code"),none,(.fields #[(.str "_law_offer" 569),(.str "_law_offer" 570),(.str "/claim/cut.py" 571),(.int 177 0),(.int 4 0),(.int 0 0),(.int 0 0),(.int 3 0),(.ref 276),(.bool true),(.int 181 0),(.ref 277),.none,.none,.none,(.ref 278),(.int 572 0),(.int 177 0),(.str "/claim/cut.py" 573)]),#[]⟩) ::
 (nat_lit 280,⟨(.type "function"),none,(.func (PySem.W.fnOf "_law_offer" "_law_offer" (B1 s_b7) (B0 s_b7) (A6 s_b7) .none .none .none (.str "law_hurryprice_k22_whole_bars_leave_none" 494) none (.ref 279) .none)),#[]⟩) ::
 (nat_lit 286,⟨(.type "code"),none,(.fields #[(.str "_law_shape" 575),(.str "_law_shape" 576),(.str "/claim/cut.py" 577),(.int 195 0),(.int 2 0),(.int 0 0),(.int 0 0),(.int 3 0),(.ref 281),(.bool true),(.int 181 0),(.ref 282),.none,(.ref 283),(.ref 284),(.ref 285),(.int 591 0),(.int 195 0),(.str "/claim/cut.py" 592)]),#[]⟩) ::
 (nat_lit 287,⟨(.type "function"),none,(.func (PySem.W.fnOf "_law_shape" "_law_shape" (B1 s_ba) (B0 s_ba) (A6 s_ba) .none .none .none (.str "law_hurryprice_k22_whole_bars_leave_none" 494) none (.ref 286) .none)),#[]⟩) ::
 (nat_lit 291,⟨(.type "code"),none,(.fields #[(.str "_law_walk" 594),(.str "_law_walk" 595),(.str "/claim/cut.py" 596),(.int 215 0),(.int 2 0),(.int 0 0),(.int 0 0),(.int 3 0),(.ref 288),(.bool true),(.int 181 0),(.ref 289),.none,.none,.none,(.ref 290),(.int 597 0),(.int 215 0),(.str "/claim/cut.py" 598)]),#[]⟩) ::
 (nat_lit 292,⟨(.type "function"),none,(.func (PySem.W.fnOf "_law_walk" "_law_walk" (B1 s_c5) (B0 s_c5) (A6 s_c5) .none .none .none (.str "law_hurryprice_k22_whole_bars_leave_none" 494) none (.ref 291) .none)),#[]⟩) ::
 (nat_lit 298,⟨(.type "code"),none,(.fields #[(.str "_law_rate" 600),(.str "_law_rate" 601),(.str "/claim/cut.py" 602),(.int 233 0),(.int 2 0),(.int 0 0),(.int 0 0),(.int 3 0),(.ref 293),(.bool true),(.int 181 0),(.ref 294),.none,(.ref 295),(.ref 296),(.ref 297),(.int 611 0),(.int 233 0),(.str "/claim/cut.py" 612)]),#[]⟩) ::
 (nat_lit 299,⟨(.type "function"),none,(.func (PySem.W.fnOf "_law_rate" "_law_rate" (B1 s_c3) (B0 s_c3) (A6 s_c3) .none .none .none (.str "law_hurryprice_k22_whole_bars_leave_none" 494) none (.ref 298) .none)),#[]⟩) ::
 (nat_lit 303,⟨(.type "code"),none,(.fields #[(.str "_law_paper" 614),(.str "_law_paper" 615),(.str "/claim/cut.py" 616),(.int 242 0),(.int 3 0),(.int 0 0),(.int 0 0),(.int 3 0),(.ref 300),(.bool true),(.int 181 0),(.ref 301),.none,.none,.none,(.ref 302),(.int 617 0),(.int 242 0),(.str "/claim/cut.py" 618)]),#[]⟩) ::
 (nat_lit 304,⟨(.type "function"),none,(.func (PySem.W.fnOf "_law_paper" "_law_paper" (B1 s_b8) (B0 s_b8) (A6 s_b8) .none .none .none (.str "law_hurryprice_k22_whole_bars_leave_none" 494) none (.ref 303) .none)),#[]⟩) ::
 (nat_lit 310,⟨(.type "code"),none,(.fields #[(.str "_law_price" 620),(.str "_law_price" 621),(.str "/claim/cut.py" 622),(.int 258 0),(.int 2 0),(.int 0 0),(.int 0 0),(.int 3 0),(.ref 305),(.bool true),(.int 181 0),(.ref 306),.none,(.ref 307),(.ref 308),(.ref 309),(.int 630 0),(.int 258 0),(.str "/claim/cut.py" 631)]),#[]⟩) ::
 (nat_lit 311,⟨(.type "function"),none,(.func (PySem.W.fnOf "_law_price" "_law_price" (B1 s_b9) (B0 s_b9) (A6 s_b9) .none .none .none (.str "law_hurryprice_k22_whole_bars_leave_none" 494) none (.ref 310) .none)),#[]⟩) ::
 (nat_lit 317,⟨(.type "code"),none,(.fields #[(.str "_law_cost" 633),(.str "_law_cost" 634),(.str "/claim/cut.py" 635),(.int 269 0),(.int 2 0),(.int 0 0),(.int 0 0),(.int 3 0),(.ref 312),(.bool true),(.int 181 0),(.ref 313),.none,(.ref 314),(.ref 315),(.ref 316),(.int 640 0),(.int 269 0),(.str "/claim/cut.py" 641)]),#[]⟩) ::
 (nat_lit 318,⟨(.type "function"),none,(.func (PySem.W.fnOf "_law_cost" "_law_cost" (B1 s_c0) (B0 s_c0) (A6 s_c0) .none .none .none (.str "law_hurryprice_k22_whole_bars_leave_none" 494) none (.ref 317) .none)),#[]⟩) ::
 (nat_lit 324,⟨(.type "code"),none,(.fields #[(.str "_law_loose" 643),(.str "_law_loose" 644),(.str "/claim/cut.py" 645),(.int 274 0),(.int 2 0),(.int 0 0),(.int 0 0),(.int 3 0),(.ref 319),(.bool true),(.int 181 0),(.ref 320),.none,(.ref 321),(.ref 322),(.ref 323),(.int 658 0),(.int 274 0),(.str "/claim/cut.py" 659)]),#[]⟩) ::
 (nat_lit 325,⟨(.type "function"),none,(.func (PySem.W.fnOf "_law_loose" "_law_loose" (B1 s_b5) (B0 s_b5) (A6 s_b5) .none .none .none (.str "law_hurryprice_k22_whole_bars_leave_none" 494) none (.ref 324) .none)),#[]⟩) ::
 (nat_lit 331,⟨(.type "code"),none,(.fields #[(.str "_law_times_drawn" 661),(.str "_law_times_drawn" 662),(.str "/claim/cut.py" 663),(.int 296 0),(.int 3 0),(.int 0 0),(.int 0 0),(.int 3 0),(.ref 326),(.bool true),(.int 181 0),(.ref 327),.none,(.ref 328),(.ref 329),(.ref 330),(.int 675 0),(.int 296 0),(.str "/claim/cut.py" 676)]),#[]⟩) ::
 (nat_lit 332,⟨(.type "function"),none,(.func (PySem.W.fnOf "_law_times_drawn" "_law_times_drawn" (B1 s_a1) (B0 s_a1) (A6 s_a1) .none .none .none (.str "law_hurryprice_k22_whole_bars_leave_none" 494) none (.ref 331) .none)),#[]⟩) ::
 (nat_lit 336,⟨(.type "code"),none,(.fields #[(.str "_law_keeps" 678),(.str "_law_keeps" 679),(.str "/claim/cut.py" 680),(.int 309 0),(.int 3 0),(.int 0 0),(.int 0 0),(.int 3 0),(.ref 333),(.bool true),(.int 181 0),(.ref 334),.none,.none,.none,(.ref 335),(.int 681 0),(.int 309 0),(.str "/claim/cut.py" 682)]),#[]⟩) ::
 (nat_lit 337,⟨(.type "function"),none,(.func (PySem.W.fnOf "_law_keeps" "_law_keeps" (B1 s_b4) (B0 s_b4) (A6 s_b4) .none .none .none (.str "law_hurryprice_k22_whole_bars_leave_none" 494) none (.ref 336) .none)),#[]⟩) ::
 (nat_lit 341,⟨(.type "code"),none,(.fields #[(.str "_law_soonest" 684),(.str "_law_soonest" 685),(.str "/claim/cut.py" 686),(.int 323 0),(.int 2 0),(.int 0 0),(.int 0 0),(.int 3 0),(.ref 338),(.bool true),(.int 181 0),(.ref 339),.none,.none,.none,(.ref 340),(.int 687 0),(.int 323 0),(.str "/claim/cut.py" 688)]),#[]⟩) ::
 (nat_lit 342,⟨(.type "function"),none,(.func (PySem.W.fnOf "_law_soonest" "_law_soonest" (B1 s_a8) (B0 s_a8) (A6 s_a8) .none .none .none (.str "law_hurryprice_k22_whole_bars_leave_none" 494) none (.ref 341) .none)),#[]⟩) ::
 (nat_lit 348,⟨(.type "code"),none,(.fields #[(.str "_law_held" 690),(.str "_law_held" 691),(.str "/claim/cut.py" 692),(.int 334 0),(.int 4 0),(.int 0 0),(.int 0 0),(.int 3 0),(.ref 343),(.bool true),(.int 181 0),(.ref 344),.none,(.ref 345),(.ref 346),(.ref 347),(.int 700 0),(.int 334 0),(.str "/claim/cut.py" 701)]),#[]⟩) ::
 (nat_lit 349,⟨(.type "function"),none,(.func (PySem.W.fnOf "_law_held" "_law_held" (B1 s_c1) (B0 s_c1) (A6 s_c1) .none .none .none (.str "law_hurryprice_k22_whole_bars_leave_none" 494) none (.ref 348) .none)),#[]⟩) ::
 (nat_lit 355,⟨(.type "code"),none,(.fields #[(.str "law" 703),(.str "law" 704),(.str "/claim/cut.py" 705),(.int 344 0),(.int 1 0),(.int 0 0),(.int 0 0),(.int 3 0),(.ref 350),(.bool true),(.int 181 0),(.ref 351),.none,(.ref 352),(.ref 353),(.ref 354),(.int 719 0),(.int 344 0),(.str "/claim/cut.py" 720)]),#[]⟩) ::
 (nat_lit 356,⟨(.type "function"),none,(.func (PySem.W.fnOf "law" "law" (B1 s_cd) (B0 s_cd) (A6 s_cd) .none .none .none (.str "law_hurryprice_k22_whole_bars_leave_none" 494) none (.ref 355) .none)),#[]⟩) :: []
def qq:Program:=PySem.W.view PySem.Challenge.pw_hurryprice_k22_whole_bars_leave_none [1,2,3,5,6,7,8,10,11,12,13,14,15,16,18,20,22,23,24,25,26,27,28,30,31,32,33,35,36,37,38,39,40,41,42,43,44,45,46,47,48,49,50,51,52,53,54,55]
def aa:List Nat:=[3,71,72,78,79,85,86,92,93,94,100,101,107,108,114,115,121,122,128,129,135,136,140,141,147,148,154,155,161,162,168,169,173,174,180,181,187,188,192,193,199,200,204,205,211,212,218,219,225,226,232,233,239,240,246,247,253,254,260,261,267,268,274,275,279,280,286,287,291,292,298,299,303,304,310,311,317,318,324,325,331,332,336,337,341,342,348,349,355,356]
theorem C3k:∀ P:Params,aa=(kk P).map (·.1):=fun P=>by kernel_rfl
noncomputable abbrev hh:PySem.W.Hook:=PySem.W.kHook kk aa C3k
abbrev xt (s:Shared):Bool:=PySem.W.xlAt qq [] s && PySem.W.recOk (PySem.W.RowW.records PySem.Challenge.rw_hurryprice_k22_whole_bars_leave_none.row.toRowW) s
theorem run1 (w:World) (os:OsState):(L2.ranT PySem.Challenge.pw_hurryprice_k22_whole_bars_leave_none 4442 w os).map (fun x=>PySem.W.staticsOk (importedModules PySem.Challenge.pw_hurryprice_k22_whole_bars_leave_none.main.body) (PySem.W.boot_heap w.params) x.abs.heap && PySem.W.namesBound PySem.Challenge.pw_hurryprice_k22_whole_bars_leave_none x.abs.heap && PySem.W.gensDone x.abs && PySem.W.laidKept (PySem.W.boot_heap w.params) x.abs.heap)=some true:=by kernel_rfl
theorem run2 (w:World) (os:OsState):(L2.ranT PySem.Challenge.pw_hurryprice_k22_whole_bars_leave_none 4442 w os).map (fun x=>(PySem.W.openSeen qq [] (importedModules PySem.Challenge.pw_hurryprice_k22_whole_bars_leave_none.main.body) xt true x.abs).1)=some (PySem.W.openGood qq []).1:=by kernel_rfl
theorem run4 (w:World) (os:OsState):(L2.ranT PySem.Challenge.pw_hurryprice_k22_whole_bars_leave_none 4442 w os).map (fun x=>(PySem.W.openSeen qq [] (importedModules PySem.Challenge.pw_hurryprice_k22_whole_bars_leave_none.main.body) xt true x.abs).2)=some (PySem.W.openGood qq []).2:=by kernel_rfl
theorem run3 (w:World) (os:OsState):(L2.ranT PySem.Challenge.pw_hurryprice_k22_whole_bars_leave_none 4442 w os).map (fun x=>hh.obs x.abs)=some (hh.val w):=by kernel_rfl
theorem left:PySem.W.LeftO PySem.Challenge.pw_hurryprice_k22_whole_bars_leave_none qq [] xt hh.obs hh.val 4442:=L2.C1d (by kernel_rfl) (by decide) (fun s=>by kernel_rfl) run1 run2 run4 run3
theorem said:PySem.Challenge.rw_hurryprice_k22_whole_bars_leave_none.wellSaid=true:=by decide +kernel
end Prf
namespace L2
open PySem PySem.Spec PyProof.Rows
abbrev Key:=Sum Int Str
def A5v:Key->Value->Bool
 | .inl k,v=>Value.isInt k v
 | .inr x,v=>Value.isStrOf x v
def keyH (w:World):Key->Int
 | .inl k=>hashInt k
 | .inr x=>hashStr w x
theorem G5:∀ {k:Key} {v:Value},A5v k v=true->(∃ i t,k=Sum.inl i/\v=Value.int i t)\/(∃ x t,k=Sum.inr x/\v=Value.str x t)
 | .inl i,v,h=>by
  obtain ⟨t,e⟩:=Value.isInt_shape (k:=i) (v:=v) h;exact .inl ⟨i,t,rfl,e⟩
 | .inr x,v,h=>by
  obtain ⟨t,e⟩:=Value.isStrOf_shape (x:=x) (v:=v) h;exact .inr ⟨x,t,rfl,e⟩
theorem B0g (i:Int) (t:Tok):A5v (.inl i) (.int i t)=true:=by simp [A5v,Value.isInt]
theorem B0f (x:Str) (t:Tok):A5v (.inr x) (.str x t)=true:=by simp [A5v,Value.isStrOf]
theorem C1k (a b:Int):decide ((Sum.inl a:Key)=Sum.inl b)=(a == b):=by
 by_cases e:a=b
 ·subst e; simp
 ·have h:¬ (Sum.inl a:Key)=Sum.inl b:=fun q=>e (Sum.inl.inj q);rw [decide_eq_false h];exact (beq_eq_false_iff_ne.mpr e).symm
theorem C1h (a b:Str):decide ((Sum.inr a:Key)=Sum.inr b)=decide (a=b):=by
 by_cases e:a=b
 ·subst e; simp
 ·have h:¬ (Sum.inr a:Key)=Sum.inr b:=fun q=>e (Sum.inr.inj q);rw [decide_eq_false h,decide_eq_false e]
theorem C1j (a:Int) (b:Str):decide ((Sum.inl a:Key)=Sum.inr b)=false:=decide_eq_false (fun q=>nomatch q)
theorem C1i (a:Str) (b:Int):decide ((Sum.inr a:Key)=Sum.inl b)=false:=decide_eq_false (fun q=>nomatch q)
def J4 (prog:Program) (w:World):PySem.KeyKind prog w Key where
 is:=A5v
 hash:=keyH w
 inj:=fun v a b ha hb=>by
  rcases G5 ha with ⟨i,t,rfl,rfl⟩ | ⟨x,t,rfl,rfl⟩
  ·rcases G5 hb with ⟨j,u,rfl,e⟩ | ⟨y,u,rfl,e⟩
   ·injection e with e1 _; rw [e1]
   ·exact nomatch e
  ·rcases G5 hb with ⟨j,u,rfl,e⟩ | ⟨y,u,rfl,e⟩
   ·exact nomatch e
   ·injection e with e1 _; rw [e1]
 byValue:=fun k v h=>by
  rcases G5 h with ⟨i,t,rfl,rfl⟩ | ⟨x,t,rfl,rfl⟩ <;> rfl
 pyHash:=fun hv h=>by
  rcases G5 hv with ⟨i,t,rfl,rfl⟩ | ⟨x,t,rfl,rfl⟩
  ·exact wpAny_pyHash_int h
  ·exact wpAny_pyHash_str h
 eqBool:=fun hu hv h=>by
  rcases G5 hu with ⟨i,t,rfl,rfl⟩ | ⟨x,t,rfl,rfl⟩
  ·rcases G5 hv with ⟨j,u,rfl,rfl⟩ | ⟨y,u,rfl,rfl⟩
   ·rw [C1k] at h; exact wpAny_eqBool_int h
   ·rw [C1j] at h; exact SeqAt.EqAt.int_str i t y u _ _ _ _ h
  ·rcases G5 hv with ⟨j,u,rfl,rfl⟩ | ⟨y,u,rfl,rfl⟩
   ·rw [C1i] at h; exact SeqAt.EqAt.str_int x t j u _ _ _ _ h
   ·rw [C1h] at h; exact wpAny_eqBool_str h
 «strs»:=fun k x t v h=>by
  rcases G5 h with ⟨i,u,rfl,e⟩ | ⟨y,u,rfl,e⟩
  ·exact nomatch e
  ·injection e with e1 _
   subst e1;cases v <;> rfl
theorem A2s (prog:Program) (w:World) (i:Int) (t:Tok):(J4 prog w).is (.inl i) (.int i t)=true:=B0g i t
theorem A2r (prog:Program) (w:World) (x:Str) (t:Tok):(J4 prog w).is (.inr x) (.str x t)=true:=B0f x t
end L2
namespace L2
open PySem PySem.Spec PyProof.Rows
inductive V where
 | non | bl (b:Bool) | int (i:Int) | str (x:Str) | byt (b:Array UInt8) | flt (b:UInt64) | ref (a:Addr) | ty (n:String)
 deriving DecidableEq
def RelV:V->Value->Prop
 | .non,u=>u=Value.none
 | .bl b,u=>u=Value.bool b
 | .int i,u=>∃ t,u=Value.int i t
 | .str x,u=>∃ t,u=Value.str x t
 | .byt b,u=>∃ t,u=Value.bytes b t
 | .flt b,u=>∃ t,u=Value.float b t
 | .ref a,u=>u=Value.ref a
 | .ty n,u=>u=Value.type n
abbrev Vals:List V->List Value->Prop:=Paired RelV
theorem Vals.length {xs:List V} {us:List Value} (r:Vals xs us):xs.length=us.length:=Paired.length r
theorem Vals.get:∀ {xs:List V} {us:List Value} {i:Nat} {x:V},Vals xs us->xs[i]?=some x->∃ u,us[i]?=some u/\RelV x u
 | _,_,_,_,.nil,e=>by simp at e
 | _,_,0,_,.cons r _,e=>by simp at e; subst e; exact ⟨_,rfl,r⟩
 | _,_,i + 1,x,.cons _ t,e=>by
  obtain ⟨u,h1,h2⟩:=Vals.get (i:=i) (x:=x) t (by simpa using e);exact ⟨u,by simpa using h1,h2⟩
theorem Vals.set {x:V} {u:Value} (r:RelV x u):∀ {xs:List V} {us:List Value} (i:Nat),Vals xs us->Vals (xs.set i x) (us.set i u)
 | _,_,_,.nil=>.nil
 | _,_,0,.cons _ t=>.cons r t
 | _,_,i + 1,.cons q t=>.cons q (Vals.set r i t)
theorem Vals.append:∀ {xs ys:List V} {us ws:List Value},Vals xs us->Vals ys ws->Vals (xs++ys) (us++ws)
 | _,_,_,_,.nil,s=>s
 | _,_,_,_,.cons r t,s=>.cons r (Vals.append t s)
theorem Vals.take:∀ {xs:List V} {us:List Value} (n:Nat),Vals xs us->Vals (xs.take n) (us.take n)
 | _,_,0,_=>.nil
 | _,_,_ + 1,.nil=>.nil
 | _,_,n + 1,.cons r t=>.cons r (Vals.take n t)
theorem Vals.drop:∀ {xs:List V} {us:List Value} (n:Nat),Vals xs us->Vals (xs.drop n) (us.drop n)
 | _,_,0,r=>r
 | _,_,_ + 1,.nil=>.nil
 | _,_,n + 1,.cons _ t=>Vals.drop n t
theorem Vals.none_of:∀ {xs:List V} {us:List Value} {i:Nat},Vals xs us->xs[i]?=none->us[i]?=none:=fun {xs us i} r e=>by
 have h1:=r.length;have h2:xs.length<=i:=List.getElem?_eq_none_iff.mp e;exact List.getElem?_eq_none_iff.mpr (by omega)
def RelO:Option V->Option Value->Prop
 | some v,some u=>RelV v u
 | none,none=>True
 | _,_=>False
def KV {κ:Type}:List (κ × V)->List (κ × Value)->Prop:=Paired fun (p:κ × V) (q:κ × Value)=>p.1=q.1/\RelV p.2 q.2
def kV:Key->V
 | .inl i=>.int i
 | .inr x=>.str x
inductive HO where
  | lst (xs:List V)
  | tup (xs:List V)
  | dK (kvs:List (Key × V)) | dT (kvs:List (List Key × V))
  | set (S:Int->Bool) (n:Nat)
  | ins (C dx:Addr) (fs:List (Str × V))
  | own (x:Addr)
  | xd (fs:List (Str × V))
  | met (f x:Addr)
  | rng (lo hi:Int)
  | frz (o:Obj) (u:HO)
  | tbl (ps:Array Value)
  | ext (φ:Heap->Prop)
abbrev Hp:=Addr->Option HO
def upd (H:Hp) (a:Addr) (o:HO):Hp:=fun b=>if b=a then some o else H b
theorem D7 {H:Hp} {a:Addr} {o:HO}:upd H a o a=some o:=by unfold upd; rw [if_pos rfl]
theorem D8 {H:Hp} {a b:Addr} {o:HO} (h:b≠a):upd H a o b=H b:=by unfold upd; rw [if_neg h]
theorem B5y {H:Hp} {a:Addr} {o u:HO}:upd (upd H a o) a u=upd H a u:=by
 funext b; unfold upd; split <;> rfl
theorem C3c {H:Hp} {a b:Addr} {o u:HO} (h:H a=some o) (h':H b=some u) (d:o≠u):a≠b:=by
 intro e; subst e; rw [h] at h'; exact d (Option.some.inj h')
theorem F5 {H:Hp} {a b:Addr} {o:HO} (h:H a=some o) (h':H b=none):a≠b:=by
 intro e; subst e; rw [h] at h'; cases h'
section
variable (P:Program) (w:World)
def ObjOk (H:Hp) (h:Heap) (a:Addr):HO->Prop
 | .lst xs=>xs.length<=sizeLine/\∃ (its:List Value) (n:Nat),Vals xs its/\h.get? a=some { cls:=.type "list",data:=.seq its.toArray n }
 | .tup xs=>xs.length<=sizeLine/\∃ its:List Value,Vals xs its/\IsTup h a its.toArray
 | .dK kvs=>kvs.length<=sizeLine/\(a == sysModules)=false/\∃ vs,KV kvs vs/\h.DictOf (J4 P w) a vs
 | .dT kvs=>kvs.length<=sizeLine/\(a == sysModules)=false/\∃ xs:List (List Key × Addr × Value),
   Paired (fun (p:List Key × V) (q:List Key × Addr × Value)=>p.1=q.1/\H q.2.1=some (.tup (p.1.map kV))/\RelV p.2 q.2.2) kvs xs /\
   ∃ o es ep,h.get? a=some o/\o.ExactDict/\o.data=.dict es ep/\es.toList=xs.map (entryOfKey (tupleKind (J4 P w)))/\(xs.map (·.1)).Nodup
 | .set S n=>h.SetOf (intKind P w) a S n
 | .ins C dx fs=>H dx=some (.own a)/\fs.length<=1000/\dx≠a/\h.get? a=some (PySem.W.instObj C dx) /\
   ∃ mA,h.Ns1 dx mA/\(∀ f,RelO (fs.lookup f) (mA f))/\PySem.Within mA (fs.map (·.1))
 | .own _=>∃ o,h.get? a=some o
 | .xd fs=>∃ mA,h.Ns1 a mA/\∀ f,RelO (fs.lookup f) (mA f)
 | .rng lo hi=>∃ t u v,h.get? a=some { cls:=.type "range",data:=.fields #[.int lo t,.int hi u,.int 1 v] }
 | .frz o u=>h.get? a=some o/\ObjOk H h a u
 | .tbl ps=>h.get? a=some { cls:=.none,data:=.fields ps }
 | .met f x=>h.get? a=some (PySem.W.methodObj (.ref f) (.ref x))
 | .ext φ=>φ h/\(∃ o,h.get? a=some o)/\∀ h1 h2:Heap,φ h1->(∀ o,h1.get? a=some o->h2.get? a=some o)->φ h2
def HOk (H:Hp) (h:Heap):Prop:=∀ a o,H a=some o->ObjOk P w H h a o
end
section
variable {P:Program} {w:World} {H H':Hp} {h h':Heap} {a:Addr} {o:HO}
theorem ObjOk.lt (x:ObjOk P w H h a o):a < h.objs.size:=by
 cases o with
 | lst xs=>obtain ⟨_,_,_,_,e⟩:=x; exact Heap.lt_size e
 | tup xs=>obtain ⟨_,_,_,p⟩:=x; exact p.lt
 | dK kvs=>obtain ⟨_,_,_,_,o,_,_,e,_⟩:=x; exact Heap.lt_size e
 | dT kvs=>obtain ⟨_,_,_,_,o,_,_,e,_⟩:=x; exact Heap.lt_size e
 | set S n=>obtain ⟨o,_,_,_,e,_⟩:=x; exact Heap.lt_size e
 | ins C dx fs=>obtain ⟨_,_,_,e,_⟩:=x; exact Heap.lt_size e
 | own y=>obtain ⟨_,e⟩:=x; exact Heap.lt_size e
 | xd fs=>obtain ⟨_,⟨_,_,_,e,_⟩,_⟩:=x; exact Heap.lt_size e
 | rng lo hi=>obtain ⟨_,_,_,e⟩:=x; exact Heap.lt_size e
 | frz ob u=>obtain ⟨e,_⟩:=x; exact Heap.lt_size e
 | tbl ps=>exact Heap.lt_size (show h.get? a=some _ from x)
 | met f y=>exact Heap.lt_size (show h.get? a=some _ from x)
 | ext φ=>obtain ⟨_,⟨_,e⟩,_⟩:=x; exact Heap.lt_size e
theorem Paired.mapP {α β:Type} {F G:α->β->Prop}:∀ {l₁:List α} {l₂:List β},Paired F l₁ l₂->(∀ a b,F a b->G a b)->Paired G l₁ l₂
 | _,_,.nil,_=>.nil
 | _,_,.cons r t,f=>.cons (f _ _ r) (Paired.mapP t f)
theorem ObjOk.stay (x:ObjOk P w H h a o) (k:∀ b u,(b=a\/H b=some (.own a))->h.get? b=some u->h'.get? b=some u)
  (ho:∀ b,H b=some (.own a)->H' b=some (.own a)) (ht:∀ b xs,H b=some (.tup xs)->H' b=some (.tup xs)):ObjOk P w H' h' a o:=by
 induction o with
 | lst xs=>obtain ⟨z,its,n,r,e⟩:=x; exact ⟨z,its,n,r,k _ _ (.inl rfl) e⟩
 | tup xs=>obtain ⟨z,its,r,ob,e,c⟩:=x; exact ⟨z,its,r,ob,k _ _ (.inl rfl) e,c⟩
 | dK kvs=>obtain ⟨z,y,vs,r,ob,es,ep,e,c⟩:=x; exact ⟨z,y,vs,r,ob,es,ep,k _ _ (.inl rfl) e,c⟩
 | dT kvs =>
  obtain ⟨z,y,xs,r,ob,es,ep,e,c⟩:=x;exact ⟨z,y,xs,Paired.mapP r fun p q z=>⟨z.1,ht _ _ z.2.1,z.2.2⟩,ob,es,ep,k _ _ (.inl rfl) e,c⟩
 | set S n=>obtain ⟨ob,es,ep,t,e,c⟩:=x; exact ⟨ob,es,ep,t,k _ _ (.inl rfl) e,c⟩
 | ins C dx fs =>
  obtain ⟨d,z,ne,e,mA,⟨od,es,ep,e2,c⟩,r⟩:=x;exact ⟨ho _ d,z,ne,k _ _ (.inl rfl) e,mA,⟨od,es,ep,k _ _ (.inr d) e2,c⟩,r⟩
 | own y=>obtain ⟨ob,e⟩:=x; exact ⟨ob,k _ _ (.inl rfl) e⟩
 | xd fs=>obtain ⟨mA,⟨od,es,ep,e,c⟩,r⟩:=x; exact ⟨mA,⟨od,es,ep,k _ _ (.inl rfl) e,c⟩,r⟩
 | rng lo hi=>obtain ⟨t,u,v,e⟩:=x; exact ⟨t,u,v,k _ _ (.inl rfl) e⟩
 | frz ob u ih=>obtain ⟨e,q⟩:=x; exact ⟨k _ _ (.inl rfl) e,ih q⟩
 | tbl ps =>
  have e:h.get? a=some { cls:=.none,data:=.fields ps }:=x;show h'.get? a=some { cls:=.none,data:=.fields ps };exact k a _ (.inl rfl) e
 | met f y =>
  have e:h.get? a=some (PySem.W.methodObj (.ref f) (.ref y)):=x;show h'.get? a=some (PySem.W.methodObj (.ref f) (.ref y));exact k a _ (.inl rfl) e
 | ext φ=>obtain ⟨p,⟨o,e⟩,st⟩:=x; exact ⟨st _ _ p fun o q=>k _ _ (.inl rfl) q,⟨o,k _ _ (.inl rfl) e⟩,st⟩
theorem HOk.lt (x:HOk P w H h) (e:H a=some o):a < h.objs.size:=(x a o e).lt
theorem HOk.fresh (x:HOk P w H h) (e:h.objs.size<=a):H a=none:=by
 cases q:H a with
 | none=>rfl
 | some u=>exact absurd (Nat.lt_of_lt_of_le (x.lt q) e) (Nat.lt_irrefl _)
theorem HOk.kept (x:HOk P w H h) (k:∀ b u,h.get? b=some u->h'.get? b=some u):HOk P w H h':=fun a o e =>
 (x a o e).stay (fun b u _ q=>k b u q) (fun _ q=>q) fun _ _ q=>q
theorem HOk.laid (x:HOk P w H h) (k:∀ b u,h.get? b=some u->h'.get? b=some u) (hp:h.objs.size<=a) (new:ObjOk P w (upd H a o) h' a o):HOk P w (upd H a o) h':=fun b u e=>by
 have hn:=x.fresh hp;by_cases hb:b=a
 ·subst hb; rw [D7] at e; cases e; exact new
 ·rw [D8 hb] at e;exact (x b u e).stay (fun c v _ q=>k c v q) (fun c q=>by rw [D8 (F5 q hn)]; exact q) fun c xs q=>by rw [D8 (F5 q hn)]; exact q
end
def Rd (H:Hp) (a:Addr) (u:HO):Prop:=H a=some u\/∃ o,H a=some (.frz o u)
theorem Rd.ok {P:Program} {w:World} {H:Hp} {h:Heap} {a:Addr} {u:HO} (r:Rd H a u) (x:HOk P w H h):ObjOk P w H h a u:=by
 rcases r with r | ⟨o,r⟩
 ·exact x a u r
 ·obtain ⟨_,q⟩:=x a _ r;exact q
def Mut:Option HO->Prop
 | some (.lst _)=>True
 | some (.dK _)=>True
 | some (.dT _)=>True
 | some (.set _ _)=>True
 | some (.ins _ _ _)=>True
 | some (.ext _)=>True
 | _=>False
section
variable {P:Program} {w:World} {H:Hp} {h h':Heap} {x e:Addr} {o':HO}
theorem HOk.write (ok:HOk P w H h) (mu:Mut (H x)) (he:e=x\/H e=some (.own x)) (k:∀ b u,b≠e->h.get? b=some u->h'.get? b=some u) (heo:∃ u,h'.get? e=some u)
  (new:ObjOk P w (upd H x o') h' x o'):HOk P w (upd H x o') h':=fun b u q=>by
 have nown:∀ c y,H c=some (.own y)->c≠x:=fun c y r z=>by subst z; rw [r] at mu; exact mu
 have ntup:∀ c xs,H c=some (.tup xs)->c≠x:=fun c xs r z=>by subst z; rw [r] at mu; exact mu
 by_cases hb:b=x
 ·subst hb; rw [D7] at q; cases q; exact new
 ·rw [D8 hb] at q;by_cases hbe:b=e
  ·have q':H b=some (.own x):=by
    rcases he with z | z
    ·exact absurd (hbe.trans z) hb
    ·rw [hbe]; exact z
   rw [q] at q'; cases q';obtain ⟨v,hv⟩:=heo;exact ⟨v,by rw [hbe]; exact hv⟩
  ·refine (ok b u q).stay (fun c v hc r=>k c v ?_ r) (fun c r=>by rw [D8 (nown c b r)]; exact r) fun c xs r=>by rw [D8 (ntup c xs r)]; exact r
   rcases hc with rfl | hc
   ·exact hbe
   ·rintro rfl;rcases he with z | z
    ·exact nown c b hc z
    ·rw [hc] at z; cases z; exact hb rfl
end
structure Un (fs ex:List Addr) (H H':Hp) (h h':Heap):Prop where
 keep:∀ b o,h.get? b=some o->H b=none->b ∉ fs->b ∉ ex->h'.get? b=some o
 slot:∀ b o,h.get? b=some o->H b=none->b ∈ fs->b ∉ ex->∃ sl,h'.get? b=some { o with slots:=sl }
 free:∀ b o,h.get? b=some o->H b=none->b ∉ ex->H' b=none
 there:∀ b o,h.get? b=some o->b ∉ ex->∃ o',h'.get? b=some o'
 tups:∀ b xs,H b=some (.tup xs)->H' b=some (.tup xs)
 frzs:∀ b o u,H b=some (.frz o u)->H' b=some (.frz o u)
 tbls:∀ b ps,H b=some (.tbl ps)->∃ more,H' b=some (.tbl (ps++more))
section
variable {fs fs' ex ex':List Addr} {H H1 H2:Hp} {h h1 h2 h':Heap} {a x e:Addr} {o:HO}
theorem Un.any (u:Un fs ex H H1 h h1) {b:Addr} {ob:Obj} (q:h.get? b=some ob) (n:H b=none) (hx:b ∉ ex):∃ sl,h1.get? b=some { ob with slots:=sl }:=by
 by_cases hb:b ∈ fs
 ·exact u.slot b ob q n hb hx
 ·exact ⟨ob.slots,u.keep b ob q n hb hx⟩
theorem Un.kept (k:∀ b u,h.get? b=some u->h'.get? b=some u):Un fs ex H H h h' :=
 ⟨fun b ob q _ _ _=>k b ob q,fun b ob q _ _ _=>⟨ob.slots,k b ob q⟩,fun _ _ _ n _=>n,fun b ob q _=>⟨ob,k b ob q⟩,fun _ _ q=>q,fun _ _ _ q=>q,fun _ ps q=>⟨#[],by rw [q]; simp⟩⟩
theorem Un.refl:Un fs ex H H h h:=Un.kept fun _ _ q=>q
theorem Un.laid (k:∀ b u,h.get? b=some u->h'.get? b=some u) (hp:h.objs.size<=a) (hn:H a=none):Un fs ex H (upd H a o) h h' where
 keep:=fun b u q _ _ _=>k b u q
 slot:=fun b u q _ _ _=>⟨u.slots,k b u q⟩
 free:=fun b u q n _=>by rw [D8 (Nat.ne_of_lt (Nat.lt_of_lt_of_le (Heap.lt_size q) hp))]; exact n
 there:=fun b u q _=>⟨u,k b u q⟩
 tups:=fun b xs q=>by rw [D8 (F5 q hn)]; exact q
 frzs:=fun b u xs q=>by rw [D8 (F5 q hn)]; exact q
 tbls:=fun b ps q=>⟨#[],by rw [D8 (F5 q hn),q]; simp⟩
theorem Un.write (mu:Mut (H x)) (he:e=x\/H e=some (.own x)) (k:∀ b u,b≠e->h.get? b=some u->h'.get? b=some u) (heo:∃ u,h'.get? e=some u):Un fs ex H (upd H x o) h h':=by
 have hx:∀ b,H b=none->b≠x:=fun b n z=>by subst z; rw [n] at mu; exact mu
 have hb:∀ b,H b=none->b≠e:=fun b n z=>by
  subst z;rcases he with r | r
  ·exact hx b n r
  ·rw [n] at r; cases r
 have hm:∀ b u,H b=some u->¬ Mut (some u)->b≠x:=fun b u q nm z=>by subst z; rw [q] at mu; exact nm mu
 refine ⟨fun b u q n _ _=>k b u (hb b n) q,fun b u q n _ _=>⟨u.slots,k b u (hb b n) q⟩,fun b u q n _=>by rw [D8 (hx b n)]; exact n,fun b u q _=>?_,
  fun b xs q=>by rw [D8 (hm b _ q fun z=>z)]; exact q,fun b u xs q=>by rw [D8 (hm b _ q fun z=>z)]; exact q,fun b ps q=>⟨#[],by rw [D8 (hm b _ q fun z=>z),q]; simp⟩⟩
 by_cases hbe:b=e
 ·subst hbe; exact heo
 ·exact ⟨u,k b u hbe q⟩
end
def trk (h:Heap) (H:Hp):List Addr:=(List.range h.objs.size).filter fun a=>(H a).isSome
def hidT (h:Heap) (H:Hp):Heap:=PySem.W.hideAll h (trk h H)
theorem B0m (h:Heap) (H:Hp):(hidT h H).objs.size=h.objs.size:=PySem.W.hideAll_size _ _
theorem B2v {h:Heap} {H:Hp} {b:Addr} {o:Obj} (e:h.get? b=some o) (n:H b=none):(hidT h H).get? b=some o :=
 PySem.W.hideAll_get _ e fun hm=>by
  have q:(H b).isSome=true:=(List.mem_filter.mp hm).2;rw [n] at q; simp at q
theorem B7z {h:Heap} {H:Hp} {b:Addr} {o:Obj} (e:(hidT h H).get? b=some o):h.get? b=some o/\H b=none:=by
 have e':h.get? b=some o:=PySem.W.of_hideAll (trk h H) e;refine ⟨e',?_⟩;cases q:H b with
 | none=>rfl
 | some x =>
  have hm:b ∈ trk h H:=List.mem_filter.mpr ⟨List.mem_range.mpr (Heap.lt_size e'),by simp [q]⟩;have z:(hidT h H).get? b=none:=PySem.W.hideAll_none (trk h H) hm;rw [z] at e; cases e
def B8o (g h:Heap) (L:Addr):List (Addr × Obj):=(List.range h.objs.size).filterMap fun a=>if a=L\/(g.get? a).isSome=true then none else (h.get? a).map fun o=>(a,o)
def rest (g h:Heap) (L d:Addr):List (Addr × Obj):=(B8o g h L).filter fun p=>decide (p.1≠d)
end L2
namespace L2
open PySem PySem.Spec PyProof.Rows
structure Mod (K:PySem.W.Frag) (mg:Str->Option Value) (base:Heap):Prop where
 kin:K.In base
 glob:base.Ns mainGlobals mg
 blt:∃ mb,base.Ns builtinsNs mb/\∀ x:Str,x≠"__name__"->mb x=bootBuiltins x
 nolimit:base.NoLimit
structure Cx where
 prog:Program
 w:World
 K:PySem.W.Frag
 mg:Str->Option Value
 base:Heap
 A:Around
 N:List Str
 s₀:Shared
 H₀:Hp
 env:Env
 outer:List Env
 stack:List Env
 ex:List Addr
 fn:Str->Bool
 calm:Bool
 pn:List (Addr × Obj)
 xe:Value->Shared->Prop
def frs (l:List Env):List Addr:=l.filterMap (·.frame)
abbrev Cx.fs (X:Cx):List Addr:=frs X.outer
def Vis (sc:Scope) (x:Str):Prop:=sc.names.lookup x=some .local\/sc.names.lookup x=some .cell\/sc.names.lookup x=some .free
def Loc (sc:Scope) (x:Str):Prop:=sc.names.lookup x=some .local\/sc.names.lookup x=some .cell
def Look (env:Env) (h:Heap) (m:Str->Option Value) (x:Str) (u:Value):Prop :=
 (env.kindOf x=some .local/\m x=some u)\/((env.kindOf x=some .cell\/env.kindOf x=some .free)/\∃ c,env.cells.lookup x=some c/\h.IsCell c (some u))
structure Cx.Ok (X:Cx):Prop where
 mod:Mod X.K X.mg X.base
 kind:X.env.scope.kind=.function
 glob:X.env.globals=mainGlobals
 blt:X.env.builtins=builtinsNs
 above:X.s₀.heap.objs.size<=X.env.locals
 inj:∀ x y c,X.env.cells.lookup x=some c->X.env.cells.lookup y=some c->x=y
 has:∀ x,(X.env.kindOf x=some .cell\/X.env.kindOf x=some .free)->∃ c,X.env.cells.lookup x=some c
 cab:∀ x c,X.fn x=true->X.env.cells.lookup x=some c->X.s₀.heap.objs.size<=c
 hd:X.calm=true->X.A.handled=none
 frames:X.A.frames=some X.stack
 stk:X.stack=X.outer\/(X.stack=X.env :: X.outer/\X.env.frame=some X.env.locals)
 exf:∀ b ∈ X.ex,b≠X.env.locals/\∀ x c,X.env.cells.lookup x=some c->c≠b
 bs:∀ b o,X.base.get? b=some o->X.s₀.heap.get? b=some o/\X.H₀ b=none
 bsz:X.base.objs.size<=X.s₀.heap.objs.size
 noex:∀ b o,X.base.get? b=some o->b ∉ X.ex
 exfs:∀ b ∈ X.ex,b ∉ X.fs
 funs:X.s₀.heap.FunFrames X.base X.outer
 frf:∀ b ∈ X.fs,X.H₀ b=none
structure Inv (X:Cx) (pins:List (Addr × Obj)) (σ:List (Option V)) (H:Hp) (s:Shared):Prop where
 ok:X.Ok
 os:s.os=X.s₀.os
 bare:AllBare s.gens
 base:Un X.fs X.ex X.H₀ H X.s₀.heap s.heap
 loc:∃ m,s.heap.Ns X.env.locals m/\∀ (i:Nat) (x:Str) (v:V),X.N[i]?=some x->σ[i]?=some (some v)->Vis X.env.scope x->∃ u,RelV v u/\Look X.env s.heap m x u
 cell:∀ x c,X.env.cells.lookup x=some c->∃ v,s.heap.IsCell c v
 free:H X.env.locals=none
 freeC:∀ x c,X.env.cells.lookup x=some c->H c=none
 pin:∀ p ∈ X.pn++pins,s.heap.get? p.1=some p.2/\H p.1=none/\p.1≠X.env.locals/\p.1 ∉ X.fs/\∀ v,p.2.data≠.cell v
 hok:HOk X.prog X.w H s.heap
 len:σ.length=X.N.length
section
variable {X:Cx} {pins:List (Addr × Obj)} {σ:List (Option V)} {H H':Hp} {s:Shared} {h':Heap}
theorem Cx.Ok.nofr (ok:X.Ok) {b:Addr} {o:Obj} (e:X.base.get? b=some o):b ∉ X.fs:=fun hb=>by
 have:=(ok.funs.mem hb).1;rw [e] at this; cases this
theorem Inv.bs (I:Inv X pins σ H s):∀ b o,X.base.get? b=some o->s.heap.get? b=some o/\H b=none:=fun b o e =>
 ⟨I.base.keep b o (I.ok.bs b o e).1 (I.ok.bs b o e).2 (I.ok.nofr e) (I.ok.noex b o e),I.base.free b o (I.ok.bs b o e).1 (I.ok.bs b o e).2 (I.ok.noex b o e)⟩
theorem Inv.bk (I:Inv X pins σ H s):∀ b o,X.base.get? b=some o->s.heap.get? b=some o:=fun b o e=>(I.bs b o e).1
theorem Inv.mod (I:Inv X pins σ H s):Mod X.K X.mg X.base:=I.ok.mod
theorem Inv.kIn (I:Inv X pins σ H s):X.K.In s.heap:=I.ok.mod.kin.keeps I.bk
theorem Inv.lt (I:Inv X pins σ H s):X.env.locals < s.heap.objs.size:=let ⟨_,hn,_⟩:=I.loc; hn.lt
theorem Inv.sz (I:Inv X pins σ H s):X.s₀.heap.objs.size<=s.heap.objs.size:=Nat.le_trans I.ok.above (Nat.le_of_lt I.lt)
theorem Inv.nofs (I:Inv X pins σ H s) {a:Addr} (h:s.heap.objs.size<=a):a ∉ X.fs:=fun hb=>by
 obtain ⟨_,o,ho,_⟩:=I.ok.funs.mem hb;exact absurd (Nat.lt_of_lt_of_le (Heap.lt_size ho) (Nat.le_trans I.sz h)) (Nat.lt_irrefl _)
theorem Inv.cne (I:Inv X pins σ H s):∀ x c,X.env.cells.lookup x=some c->c≠X.env.locals:=fun x c e z=>by
 obtain ⟨v,o,ho,hd⟩:=I.cell x c e;obtain ⟨m,⟨o',es,ep,ho',hd',_⟩,_⟩:=I.loc;rw [z,ho'] at ho; cases ho; rw [hd'] at hd; cases hd
theorem Inv.funs (I:Inv X pins σ H s):s.heap.FunFrames X.base X.outer:=by
 have all:∀ (l:List Env),(∀ b ∈ frs l,b ∈ X.fs)->X.s₀.heap.FunFrames X.base l->s.heap.FunFrames X.base l:=by
  intro l;induction l with
  | nil=>intro _ _; trivial
  | cons env r ih =>
   intro hs hl;obtain ⟨hk,⟨L,o,hf,hn,ho,hd⟩,hr⟩:=hl;have hL:L ∈ X.fs:=hs L (by unfold frs; rw [List.filterMap_cons,hf]; exact List.mem_cons_self);obtain ⟨sl,e⟩:=I.base.slot L o ho (I.ok.frf L hL) hL fun z=>I.ok.exfs L z hL;exact ⟨hk,⟨L,_,hf,hn,e,hd⟩,ih (fun b hb=>hs b (by unfold frs; rw [List.filterMap_cons,hf]; exact List.mem_cons_of_mem _ hb)) hr⟩
 exact all X.outer (fun _ hb=>hb) I.ok.funs
theorem Inv.stack (I:Inv X pins σ H s):s.heap.FunFrames X.base X.stack:=by
 rcases I.ok.stk with e | ⟨e,hf⟩
 ·rw [e]; exact I.funs
 ·rw [e];obtain ⟨m,hn,_⟩:=I.loc;refine .cons (by rw [I.ok.kind]; decide) hf hn ?_ I.funs;exact Heap.get?_none_of_le (Nat.le_trans I.ok.bsz I.ok.above)
theorem Inv.stkSub (I:Inv X pins σ H s):∀ b ∈ frs X.stack,b ∈ X.env.locals :: X.fs:=fun b hb=>by
 rcases I.ok.stk with e | ⟨e,hf⟩
 ·rw [e] at hb; exact List.mem_cons_of_mem _ hb
 ·rw [e] at hb;unfold frs at hb;rw [List.filterMap_cons,hf] at hb;exact hb
theorem Inv.stkFree (I:Inv X pins σ H s):∀ b ∈ frs X.stack,H b=none:=fun b hb=>by
 rcases List.mem_cons.mp (I.stkSub b hb) with e | hb
 ·rw [e]; exact I.free
 ·obtain ⟨_,o,ho,_⟩:=I.ok.funs.mem hb;exact I.base.free b o ho (I.ok.frf b hb) fun z=>I.ok.exfs b z hb
theorem Inv.step {g':Array GenState} {t':Nat} {d':Drawn} {ch:List Addr} (I:Inv X pins σ H s)
  (hch:∀ b ∈ ch,(b ∈ X.ex\/X.s₀.heap.objs.size<=b)/\b≠X.env.locals/\(∀ x c,X.env.cells.lookup x=some c->c≠b)/\∀ p ∈ X.pn++pins,p.1≠b)
  (keep:∀ b o,b≠X.env.locals->b ∉ X.fs->b ∉ ch->s.heap.get? b=some o->H b=none->h'.get? b=some o)
  (slot:∀ b o,b≠X.env.locals->b ∈ X.fs->b ∉ ch->s.heap.get? b=some o->H b=none->∃ sl,h'.get? b=some { o with slots:=sl }) (free:∀ b o,b ∉ ch->s.heap.get? b=some o->H b=none->H' b=none)
  (there:∀ b o,b ∉ ch->s.heap.get? b=some o->∃ o',h'.get? b=some o')
  (tups:∀ b xs,H b=some (.tup xs)->H' b=some (.tup xs)) (frzs:∀ b o u,H b=some (.frz o u)->H' b=some (.frz o u)) (tbls:∀ b ps,H b=some (.tbl ps)->∃ more,H' b=some (.tbl (ps++more)))
  (ns:∀ m,s.heap.Ns X.env.locals m->h'.Ns X.env.locals m) (hok:HOk X.prog X.w H' h') (hg:AllBare g') :
  Inv X pins σ H' { s with heap:=h',gens:=g',drawn:=d',toks:=t' }:=by
 have neL:∀ b o,X.s₀.heap.get? b=some o->b≠X.env.locals:=fun b o e=>Nat.ne_of_lt (Nat.lt_of_lt_of_le (Heap.lt_size e) I.ok.above);have neC:∀ b o,X.s₀.heap.get? b=some o->b ∉ X.ex->b ∉ ch:=fun b o e hx hb=>by
  rcases (hch b hb).1 with z | z
  ·exact hx z
  ·exact absurd (Nat.lt_of_lt_of_le (Heap.lt_size e) z) (Nat.lt_irrefl _)
 have cellK:∀ x c,X.env.cells.lookup x=some c->∀ v,s.heap.IsCell c v->h'.IsCell c v:=fun x c e v ⟨o,ho,hd⟩=>by
  have nch:c ∉ ch:=fun z=>(hch c z).2.2.1 x c e rfl;by_cases hc:c ∈ X.fs
  ·obtain ⟨sl,q⟩:=slot c o (I.cne x c e) hc nch ho (I.freeC x c e);exact ⟨_,q,hd⟩
  ·exact ⟨o,keep c o (I.cne x c e) hc nch ho (I.freeC x c e),hd⟩
 refine ⟨I.ok,I.os,hg,⟨fun b o e n hb hx=>?_,fun b o e n hb hx=>?_,fun b o e n hx=>?_,fun b o e hx=>?_,fun b xs e=>tups b xs (I.base.tups b xs e),fun b o xs e=>frzs b o xs (I.base.frzs b o xs e),fun b ps e=>?_⟩,?_,fun x c e=>?_,?_,fun x c e=>?_,fun p hp=>?_,hok,I.len⟩
 ·exact keep b o (neL b o e) hb (neC b o e hx) (I.base.keep b o e n hb hx) (I.base.free b o e n hx)
 ·obtain ⟨sl,e1⟩:=I.base.slot b o e n hb hx;obtain ⟨sl',e2⟩:=slot b _ (neL b o e) hb (neC b o e hx) e1 (I.base.free b o e n hx);exact ⟨sl',e2⟩
 ·obtain ⟨o',e1⟩:=I.base.there b o e hx;exact free b o' (neC b o e hx) e1 (I.base.free b o e n hx)
 ·obtain ⟨o',e1⟩:=I.base.there b o e hx;exact there b o' (neC b o e hx) e1
 ·obtain ⟨m1,e1⟩:=I.base.tbls b ps e;obtain ⟨m2,e2⟩:=tbls b _ e1;exact ⟨m1++m2,by rw [e2,Array.append_assoc]⟩
 ·obtain ⟨m,hn,hl⟩:=I.loc;refine ⟨m,ns m hn,fun i x v e1 e2 e3=>?_⟩;obtain ⟨u,r,l⟩:=hl i x v e1 e2 e3;refine ⟨u,r,?_⟩;rcases l with l | ⟨k,c,e,z⟩
  ·exact .inl l
  ·exact .inr ⟨k,c,e,cellK x c e _ z⟩
 ·obtain ⟨v,z⟩:=I.cell x c e;exact ⟨v,cellK x c e v z⟩
 ·obtain ⟨m,⟨o,_,_,ho,_⟩,_⟩:=I.loc;exact free _ o (fun z=>(hch _ z).2.1 rfl) ho I.free
 ·obtain ⟨v,o,ho,hd⟩:=I.cell x c e;exact free c o (fun z=>(hch c z).2.2.1 x c e rfl) ho (I.freeC x c e)
 ·obtain ⟨e,n,ne,nf,d⟩:=I.pin p hp;have nch:p.1 ∉ ch:=fun z=>(hch p.1 z).2.2.2 p hp rfl;exact ⟨keep p.1 p.2 ne nf nch e n,free p.1 p.2 nch e n,ne,nf,d⟩
theorem Inv.un {t':Nat} (I:Inv X pins σ H s) (u:Un X.fs [] H H' s.heap h') (hok:HOk X.prog X.w H' h'):Inv X pins σ H' { s with heap:=h',toks:=t' }:=by
 obtain ⟨m,⟨o,es,ep,ho,r⟩,_⟩:=id I.loc;obtain ⟨sl,hL⟩:=u.any ho I.free (by simp);exact I.step (g':=s.gens) (d':=s.drawn) (ch:=[]) (fun _ z=>nomatch z) (fun b o _ hb _ e n=>u.keep b o e n hb (by simp)) (fun b o _ hb _ e n=>u.slot b o e n hb (by simp)) (fun b o _ e n=>u.free b o e n (by simp)) (fun b o _ e=>u.there b o e (by simp)) u.tups u.frzs u.tbls (fun m' hm=>by
  obtain ⟨o',es',ep',ho',r'⟩:=hm;rw [ho] at ho'; cases ho';exact ⟨_,es',ep',hL,r'⟩) hok I.bare
theorem Inv.call {g':Array GenState} {t':Nat} {d':Drawn} {ch:List Addr} (I:Inv X pins σ H s) (u:Un (frs X.stack) ch H H' s.heap h') (hok:HOk X.prog X.w H' h') (hg:AllBare g')
  (hch:∀ b ∈ ch,(b ∈ X.ex\/X.s₀.heap.objs.size<=b)/\b≠X.env.locals/\(∀ x c,X.env.cells.lookup x=some c->c≠b)/\∀ p ∈ X.pn++pins,p.1≠b) :
  Inv X pins σ H' { s with heap:=h',gens:=g',drawn:=d',toks:=t' }:=by
 obtain ⟨m,⟨o,es,ep,ho,r⟩,_⟩:=id I.loc;obtain ⟨sl,hL⟩:=u.any ho I.free fun z=>(hch _ z).2.1 rfl;exact I.step (ch:=ch) hch (fun b o hL hb hc e n=>u.keep b o e n (fun z=>(List.mem_cons.mp (I.stkSub b z)).elim hL hb) hc) (fun b o _ _ hc e n=>u.any e n hc) (fun b o hc e n=>u.free b o e n hc) (fun b o hc e=>u.there b o e hc) u.tups u.frzs u.tbls (fun m' hm=>by
  obtain ⟨o',es',ep',ho',r'⟩:=hm;rw [ho] at ho'; cases ho';exact ⟨_,es',ep',hL,r'⟩) hok hg
theorem Inv.turned {t':Nat} {it:Addr} (I:Inv X pins σ H s) (k:∀ b o,b≠it->s.heap.get? b=some o->h'.get? b=some o) (hn:H it=none) (hL:it≠X.env.locals)
  (h1:it ∈ X.ex\/X.s₀.heap.objs.size<=it) (h2:∀ x c,X.env.cells.lookup x=some c->c≠it) (h3:∀ p ∈ X.pn++pins,p.1≠it):Inv X pins σ H { s with heap:=h',toks:=t' }:=by
 have nit:∀ b u,H b=some u->b≠it:=fun b u e z=>by rw [z,hn] at e; cases e
 refine I.step (g':=s.gens) (d':=s.drawn) (ch:=[it]) (fun b hb=>?_) (fun b o _ _ hc e _=>k b o (fun z=>hc (by simp [z])) e) (fun b o _ _ hc e _=>⟨o.slots,k b o (fun z=>hc (by simp [z])) e⟩) (fun _ _ _ _ n=>n)
  (fun b o hc e=>⟨o,k b o (fun z=>hc (by simp [z])) e⟩) (fun _ _ e=>e) (fun _ _ _ e=>e) (fun b ps e=>⟨#[],by rw [e]; simp⟩) (fun m hm=>?_) (fun b u e=>?_) I.bare
 ·have e:b=it:=by simpa using hb
  subst e;exact ⟨h1,hL,h2,h3⟩
 ·obtain ⟨o,es,ep,ho,r⟩:=hm;exact ⟨o,es,ep,k _ o (Ne.symm hL) ho,r⟩
 ·refine (I.hok b u e).stay (fun c v hc q=>k c v ?_ q) (fun _ q=>q) fun _ _ q=>q;rcases hc with z | z
  ·rw [z]; exact nit b u e
  ·exact nit c _ z
theorem Inv.tok (I:Inv X pins σ H s) (t:Nat):Inv X pins σ H { s with toks:=t }:=I.un (h':=s.heap) (t':=t) Un.refl I.hok
theorem Inv.kept {t':Nat} (I:Inv X pins σ H s) (k:∀ b u,s.heap.get? b=some u->h'.get? b=some u):Inv X pins σ H { s with heap:=h',toks:=t' }:=I.un (Un.kept k) (I.hok.kept k)
theorem Inv.laid {a:Addr} {o:HO} {t':Nat} (I:Inv X pins σ H s) (k:∀ b u,s.heap.get? b=some u->h'.get? b=some u) (hp:s.heap.objs.size<=a) (new:ObjOk X.prog X.w (upd H a o) h' a o) :
  Inv X pins σ (upd H a o) { s with heap:=h',toks:=t' }:=I.un (Un.laid k hp (I.hok.fresh hp)) (I.hok.laid k hp new)
theorem Inv.write {x e:Addr} {o:HO} {t':Nat} (I:Inv X pins σ H s) (mu:Mut (H x)) (he:e=x\/H e=some (.own x)) (k:∀ b u,b≠e->s.heap.get? b=some u->h'.get? b=some u) (heo:∃ u,h'.get? e=some u)
  (new:ObjOk X.prog X.w (upd H x o) h' x o):Inv X pins σ (upd H x o) { s with heap:=h',toks:=t' }:=I.un (Un.write mu he k heo) (I.hok.write mu he k heo new)
theorem Inv.pins_of {pins':List (Addr × Obj)} (I:Inv X pins σ H s) (h:∀ p ∈ pins',s.heap.get? p.1=some p.2/\H p.1=none/\p.1≠X.env.locals/\p.1 ∉ X.fs/\∀ v,p.2.data≠.cell v):Inv X pins' σ H s :=
 ⟨I.ok,I.os,I.bare,I.base,I.loc,I.cell,I.free,I.freeC,fun p hp=>(List.mem_append.mp hp).elim (fun z=>I.pin p (List.mem_append_left _ z)) (h p),I.hok,I.len⟩
theorem A4a {N:List Str} (hN:N.Nodup) {i j:Nat} {x:Str} (a:N[i]?=some x) (b:N[j]?=some x):i=j:=by
 obtain ⟨h1,e1⟩:=List.getElem?_eq_some_iff.mp a;obtain ⟨h2,e2⟩:=List.getElem?_eq_some_iff.mp b;exact (List.getElem_inj hN).mp (e1.trans e2.symm)
theorem A0n {M:Model} {A:Around} {E:Value->Shared->Prop} {i:Nat} {x:Str} {v:V} {u:Value} {Q:Unit->Shared->Prop} (I:Inv X pins σ H s) (hN:X.N.Nodup) (hi:X.N[i]?=some x) (hx:Loc X.env.scope x) (r:RelV v u)
  (h:∀ s',Inv X pins (σ.set i (some v)) H s'->(∃ a,Heap.SameBut a s.heap s'.heap/\(a=X.env.locals\/X.env.cells.lookup x=some a))->Q () s') (hf:X.fn x=true\/X.env.scope.names.lookup x=some .local:=by first | exact .inl rfl | exact .inr rfl | assumption):wpAny M A (storeName X.env x u) Q E s:=by
 obtain ⟨m,hn,hl⟩:=id I.loc;have hcls:(X.env.scope.kind == .class || (X.env.scope.kind == .module && X.env.locals != X.env.globals))=false:=by rw [I.ok.kind]; rfl
 have hiσ:i < σ.length:=by rw [I.len]; exact (List.getElem?_eq_some_iff.mp hi).1
 have cne:=I.cne;have tracked:∀ {a:Addr} {h':Heap},(∃ o,s.heap.get? a=some o/\H a=none)->Heap.SameBut a s.heap h'->HOk X.prog X.w H h':=fun {a h'} ha hs b ob e=>by
  obtain ⟨_,_,hfree⟩:=ha;refine (I.hok b ob e).stay (fun c w' hc q=>(hs.2 c ?_).trans q) (fun _ q=>q) fun _ _ q=>q;rintro rfl;rcases hc with rfl | hc
  ·rw [hfree] at e; cases e
  ·rw [hfree] at hc; cases hc
 rcases hx with hk | hk
 ·refine wpAny_storeName_local hk hn (fun h' hn' hs=>?_) hcls;obtain ⟨oL,_,_,hoL,_⟩:=id hn;refine h _ ⟨I.ok,I.os,I.bare,⟨fun b o e n hb hx=>?_,fun b o e n hb hx=>?_,I.base.free,fun b o e hx=>?_,I.base.tups,I.base.frzs,I.base.tbls⟩,⟨_,hn',fun j y v' e1 e2 e3=>?_⟩,fun y c e=>?_,I.free,I.freeC,fun p hp=>?_,tracked ⟨oL,hoL,I.free⟩ hs,by simpa using I.len⟩ ⟨_,hs,.inl rfl⟩
  ·exact (hs.2 b (Nat.ne_of_lt (Nat.lt_of_lt_of_le (Heap.lt_size e) I.ok.above))).trans (I.base.keep b o e n hb hx)
  ·obtain ⟨sl,e1⟩:=I.base.slot b o e n hb hx;exact ⟨sl,(hs.2 b (Nat.ne_of_lt (Nat.lt_of_lt_of_le (Heap.lt_size e) I.ok.above))).trans e1⟩
  ·obtain ⟨o',e1⟩:=I.base.there b o e hx;exact ⟨o',(hs.2 b (Nat.ne_of_lt (Nat.lt_of_lt_of_le (Heap.lt_size e) I.ok.above))).trans e1⟩
  ·by_cases hj:j=i
   ·subst hj;rw [hi] at e1; cases e1;rw [List.getElem?_set_self hiσ] at e2;cases e2;exact ⟨u,r,.inl ⟨hk,by simp⟩⟩
   ·rw [List.getElem?_set_ne (Ne.symm hj)] at e2;obtain ⟨u',r',q⟩:=hl j y v' e1 e2 e3;refine ⟨u',r',?_⟩;rcases q with ⟨k,e⟩ | ⟨k,c,e,z⟩
    ·refine .inl ⟨k,?_⟩;have:y≠x:=fun e=>hj (A4a hN e1 (e ▸ hi));simp [this,e]
    ·exact .inr ⟨k,c,e,z.sameBut hs (cne y c e)⟩
  ·obtain ⟨w',z⟩:=I.cell y c e;exact ⟨w',z.sameBut hs (cne y c e)⟩
  ·obtain ⟨e,n,ne,nf,d⟩:=I.pin p hp;exact ⟨(hs.2 p.1 ne).trans e,n,ne,nf,d⟩
 ·have hfn:X.fn x=true:=by
   rcases hf with z | z
   ·exact z
   ·rw [z] at hk; cases hk
  obtain ⟨c,hc⟩:=I.ok.has x (.inl hk);obtain ⟨w',z⟩:=I.cell x c hc;refine wpAny_storeName_cell I.ok.kind hk hc z (fun h' hc' hs=>?_);obtain ⟨oc,hoc,hocd⟩:=id z;refine h { s with heap:=h' } ⟨I.ok,I.os,I.bare,⟨fun b o e n hb hx=>?_,fun b o e n hb hx=>?_,I.base.free,fun b o e hx=>?_,I.base.tups,I.base.frzs,I.base.tbls⟩,⟨m,hn.sameBut hs (Ne.symm (cne x c hc)),fun j y v' e1 e2 e3=>?_⟩,fun y c' e=>?_,I.free,I.freeC,fun p hp=>?_,tracked ⟨oc,hoc,I.freeC x c hc⟩ hs,by simpa using I.len⟩ ⟨c,hs,.inr hc⟩
  ·exact (hs.2 b (Nat.ne_of_lt (Nat.lt_of_lt_of_le (Heap.lt_size e) (I.ok.cab x c hfn hc)))).trans (I.base.keep b o e n hb hx)
  ·obtain ⟨sl,e1⟩:=I.base.slot b o e n hb hx;exact ⟨sl,(hs.2 b (Nat.ne_of_lt (Nat.lt_of_lt_of_le (Heap.lt_size e) (I.ok.cab x c hfn hc)))).trans e1⟩
  ·obtain ⟨o',e1⟩:=I.base.there b o e hx;exact ⟨o',(hs.2 b (Nat.ne_of_lt (Nat.lt_of_lt_of_le (Heap.lt_size e) (I.ok.cab x c hfn hc)))).trans e1⟩
  ·by_cases hj:j=i
   ·subst hj;rw [hi] at e1; cases e1;rw [List.getElem?_set_self hiσ] at e2;cases e2;exact ⟨u,r,.inr ⟨.inl hk,c,hc,hc'⟩⟩
   ·rw [List.getElem?_set_ne (Ne.symm hj)] at e2;obtain ⟨u',r',q⟩:=hl j y v' e1 e2 e3;refine ⟨u',r',?_⟩;rcases q with q | ⟨k,c',e,z'⟩
    ·exact .inl q
    ·refine .inr ⟨k,c',e,z'.sameBut hs ?_⟩;rintro rfl;exact hj (A4a hN e1 (I.ok.inj _ _ _ e hc ▸ hi))
  ·by_cases hcc:c'=c
   ·subst hcc; exact ⟨_,hc'⟩
   ·obtain ⟨w2,z2⟩:=I.cell y c' e;exact ⟨w2,z2.sameBut hs hcc⟩
  ·obtain ⟨e,n,ne,nf,d⟩:=I.pin p hp;refine ⟨(hs.2 p.1 ?_).trans e,n,ne,nf,d⟩;intro q;rw [q,hoc] at e;have q':oc=p.2:=Option.some.inj e;exact d w' (by rw [<- q']; exact hocd)
theorem N3 {M:Model} {A:Around} {E:Value->Shared->Prop} {i:Nat} {x:Str} {v:V} {u:Value} {Q:Unit->Shared->Prop} (I:Inv X pins σ H s) (hN:X.N.Nodup) (hi:X.N[i]?=some x) (hx:Loc X.env.scope x) (r:RelV v u)
  (h:∀ s',Inv X pins (σ.set i (some v)) H s'->Q () s') (hf:X.fn x=true\/X.env.scope.names.lookup x=some .local:=by first | exact .inl rfl | exact .inr rfl | assumption):wpAny M A (storeName X.env x u) Q E s :=
 A0n I hN hi hx r (fun s' I' _=>h s' I') hf
theorem Inv.call' {s':Shared} {ch:List Addr} (I:Inv X pins σ H s) (ho:s'.os=s.os) (u:Un (frs X.stack) ch H H' s.heap s'.heap) (hok:HOk X.prog X.w H' s'.heap) (hg:AllBare s'.gens)
  (hch:∀ b ∈ ch,(b ∈ X.ex\/X.s₀.heap.objs.size<=b)/\b≠X.env.locals/\(∀ x c,X.env.cells.lookup x=some c->c≠b)/\∀ p ∈ X.pn++pins,p.1≠b):Inv X pins σ H' s':=by
 obtain ⟨h',g',d',t',o'⟩:=s';have e:o'=s.os:=ho;subst e;exact I.call (g':=g') (t':=t') (d':=d') u hok hg hch
end
abbrev XK:=Value->Option Addr->Hp->Prop
abbrev St:=List (Option V)
abbrev VK:=V->Hp->Prop
abbrev TE:=St->Hp->VK->Prop
abbrev TT:=St->Hp->(Bool->Hp->Prop)->Prop
abbrev TA:=St->Hp->(List V->Hp->Prop)->Prop
structure Ends where
 nx:St->Hp->Prop
 rt:VK
 bk:St->Hp->Prop:=fun _ _=>False
 ct:St->Hp->Prop:=fun _ _=>False
abbrev TS:=Ends->St->Hp->Prop
def EP (X:Cx) (pins:List (Addr × Obj)) (σ:St) (Q:VK) (u:Value) (s':Shared):Prop:=∃ v H',Inv X pins σ H' s'/\RelV v u/\Q v H'
def TP (X:Cx) (pins:List (Addr × Obj)) (σ:St) (Q:Bool->Hp->Prop) (b:Bool) (s':Shared):Prop:=∃ H',Inv X pins σ H' s'/\Q b H'
def AP (X:Cx) (pins:List (Addr × Obj)) (σ:St) (Q:List V->Hp->Prop) (us:List Value) (s':Shared):Prop:=∃ vs H',Inv X pins σ H' s'/\Vals vs us/\Q vs H'
def SP (X:Cx) (pins:List (Addr × Obj)) (D:Ends) (f:Flow) (s':Shared):Prop :=
 match f with
 | .next=>∃ σ' H',Inv X pins σ' H' s'/\D.nx σ' H'
 | .brk=>∃ σ' H',Inv X pins σ' H' s'/\D.bk σ' H'
 | .cont=>∃ σ' H',Inv X pins σ' H' s'/\D.ct σ' H'
 | .ret u=>∃ v σ' H',Inv X pins σ' H' s'/\RelV v u/\D.rt v H'
def PE (X:Cx) (e:Expr) (t:TE):Prop :=
 ∀ (pins:List (Addr × Obj)) (s:Shared) (σ:St) (H:Hp) (Q:VK),Inv X pins σ H s->t σ H Q->wpAny (model X.prog X.w) X.A (eval e X.env) (EP X pins σ Q) X.xe s
def PT (X:Cx) (e:Expr) (t:TT):Prop :=
 ∀ (pins:List (Addr × Obj)) (s:Shared) (σ:St) (H:Hp) (Q:Bool->Hp->Prop),Inv X pins σ H s->t σ H Q->wpAny (model X.prog X.w) X.A (isTrue e X.env (eval e X.env)) (TP X pins σ Q) X.xe s
def PW (X:Cx) (e:Expr) (t:TT):Prop :=
 ∀ (whole:Sem Value) (pins:List (Addr × Obj)) (s:Shared) (σ:St) (H:Hp) (Q:Bool->Hp->Prop),Inv X pins σ H s->t σ H Q->wpAny (model X.prog X.w) X.A (isTrue e X.env whole) (TP X pins σ Q) X.xe s
theorem PW.pt {X:Cx} {e:Expr} {t:TT} (h:PW X e t):PT X e t:=h _
def PA (X:Cx) (es:List Expr) (t:TA):Prop :=
 ∀ (pos:Pos) (pins:List (Addr × Obj)) (s:Shared) (σ:St) (H:Hp) (Q:List V->Hp->Prop),Inv X pins σ H s->t σ H Q->wpAny (model X.prog X.w) X.A (spliced (backTo pos (starEach es X.env))) (AP X pins σ Q) X.xe s
def PS (X:Cx) (st:Stmt) (t:TS):Prop :=
 ∀ (pins:List (Addr × Obj)) (s:Shared) (σ:St) (H:Hp) (D:Ends),Inv X pins σ H s->t D σ H->wpAny (model X.prog X.w) X.A (exec st X.env) (SP X pins D) X.xe s
def PSs (X:Cx) (st:List Stmt) (t:TS):Prop :=
 ∀ (pins:List (Addr × Obj)) (s:Shared) (σ:St) (H:Hp) (D:Ends),Inv X pins σ H s->t D σ H->wpAny (model X.prog X.w) X.A (execs st X.env) (SP X pins D) X.xe s
theorem thn {α:Type} {t:Sem α} {Q Q':α->Shared->Prop} {M:Model} {A:Around} {E:Value->Shared->Prop} {s:Shared} (h:wpAny M A t Q E s) (hQ:∀ a s,Q a s->Q' a s):wpAny M A t Q' E s:=wpAny_mono h hQ fun _ _ x=>x
end L2
namespace L2
open PySem PySem.Spec PyProof.Rows
section
variable {X:Cx}
theorem bin {a b:Expr} {ta tb:TE} (ha:PE X a ta) (hb:PE X b tb) {pins:List (Addr × Obj)} {s:Shared} {σ:St} {H:Hp} {R:V->V->Hp->Prop} (I:Inv X pins σ H s) (h:ta σ H fun x H1=>tb σ H1 fun y H2=>R x y H2)
  {α:Type} {Q:α->Shared->Prop} {f:Value->Value->Sem α}
  (hf:∀ v u s2 x y H2,Inv X pins σ H2 s2->RelV x v->RelV y u->R x y H2->wpAny (model X.prog X.w) X.A (f v u) Q X.xe s2) :
  wpAny (model X.prog X.w) X.A (eval a X.env) (fun v s₁=>wpAny (model X.prog X.w) X.A (eval b X.env) (fun u s₂=>wpAny (model X.prog X.w) X.A (f v u) Q X.xe s₂) X.xe s₁) X.xe s:=by
 refine thn (ha pins s σ H _ I h) fun v s1 ⟨x,H1,I1,r1,q1⟩=>?_;refine thn (hb pins s1 σ H1 _ I1 q1) fun u s2 ⟨y,H2,I2,r2,q2⟩=>?_;exact hf v u s2 x y H2 I2 r1 r2 q2
def tVar (i:Nat):TE:=fun σ H Q=>∃ v,σ[i]?=some (some v)/\Q v H
def tC (v:V):TE:=fun _ H Q=>Q v H
theorem B9j {i:Nat} {x:Str} {pos:Pos} (hN:X.N[i]?=some x) (hv:Vis X.env.scope x) (hd:(x == ("__debug__":Str))=false:=by decide) (hcd:(x == ("__classdict__":Str))=false:=by decide):PE X (.Name x pos) (tVar i):=by
 intro pins s σ H Q I h;obtain ⟨v,e,h⟩:=h;obtain ⟨m,hn,hl⟩:=I.loc;obtain ⟨u,r,l⟩:=hl i x v hN e hv;have fin:EP X pins σ Q u s:=⟨v,H,I,r,h⟩;rcases l with ⟨hk,hm⟩ | ⟨hk,c,hc,hcell⟩
 ·exact wpAny_Name (wpAny_loadName_local I.ok.kind hk hn hm fin) hd
 ·rcases hk with hk | hk
  ·exact wpAny_Name (wpAny_loadName_cell I.ok.kind hk hc hcell fin) hd
  ·exact wpAny_Name (wpAny_loadName_free I.ok.kind hk hc hcell fin hcd) hd
theorem F6 {i j pos}:PE X (.Constant (.int i) j pos) (tC (.int i)):=fun _ _ _ H _ I h=>wpAny_Constant_int ⟨.int i,H,I.tok _,⟨_,rfl⟩,h⟩
theorem C24 {b j pos}:PE X (.Constant (.bool b) j pos) (tC (.bl b)):=fun _ _ _ H _ I h=>Constant_bool ⟨.bl b,H,I,rfl,h⟩
theorem B9o {j pos}:PE X (.Constant .none j pos) (tC .non):=fun _ _ _ H _ I h=>Constant_none ⟨.non,H,I,rfl,h⟩
theorem B9l {x j pos}:PE X (.Constant (.str x) j pos) (tC (.str x)):=fun _ _ _ H _ I h=>Calls.Constant_str ⟨.str x,H,I.tok _,⟨_,rfl⟩,h⟩
def Gl (X:Cx) (x:Str):Prop:=X.env.kindOf x=some .globalImplicit
theorem A9k {E:Value->Shared->Prop} {pins:List (Addr × Obj)} {s:Shared} {σ:St} {H:Hp} {x:Str} {u:Value} {pos:Pos} {Q:Value->Shared->Prop} (I:Inv X pins σ H s) (hg:Gl X x) (hm:X.mg x=some u) (h:Q u s)
  (hd:(x == ("__debug__":Str))=false:=by decide):wpAny (model X.prog X.w) X.A (eval (.Name x pos) X.env) Q E s :=
 Calls.Name_function_global I.ok.kind hg (Calls.loadGlobal_global (by rw [I.ok.glob]; exact I.mod.glob.keeps I.bk) hm h) hd
theorem V2 {E:Value->Shared->Prop} {pins:List (Addr × Obj)} {s:Shared} {σ:St} {H:Hp} {x:Str} {u:Value} {pos:Pos} {Q:Value->Shared->Prop} (I:Inv X pins σ H s) (hg:Gl X x) (hm:X.mg x=none) (hv:bootBuiltins x=some u) (h:Q u s)
  (hn:x≠"__name__":=by decide) (hd:(x == ("__debug__":Str))=false:=by decide):wpAny (model X.prog X.w) X.A (eval (.Name x pos) X.env) Q E s:=by
 obtain ⟨mb,h1,h2⟩:=I.mod.blt;exact Calls.Name_function_global I.ok.kind hg (Calls.loadGlobal_builtin (by rw [I.ok.glob]; exact I.mod.glob.keeps I.bk) hm (by rw [I.ok.blt]; exact h1.keeps I.bk) ((h2 x hn).trans hv) h) hd
theorem B65 {x:Str} {v:V} {u:Value} {pos:Pos} (hg:Gl X x) (hm:X.mg x=some u) (r:RelV v u) (hd:(x == ("__debug__":Str))=false:=by decide):PE X (.Name x pos) (tC v) :=
 fun _ _ _ H _ I h=>A9k I hg hm ⟨v,H,I,r,h⟩ hd
theorem B7a {x:Str} {v:V} {u:Value} {pos:Pos} (hg:Gl X x) (hm:X.mg x=none) (hv:bootBuiltins x=some u) (r:RelV v u) (hn:x≠"__name__":=by decide) (hd:(x == ("__debug__":Str))=false:=by decide):PE X (.Name x pos) (tC v) :=
 fun _ _ _ H _ I h=>V2 I hg hm hv ⟨v,H,I,r,h⟩ hn hd
variable {a b:Expr} {ta tb:TE} {pos:Pos}
def PC (X:Cx) (op:CmpOp) (a b:Expr) (t:TE):Prop :=
 ∀ (pins:List (Addr × Obj)) (s:Shared) (σ:St) (H:Hp) (Q:VK),Inv X pins σ H s->t σ H Q ->
  wpAny (model X.prog X.w) X.A (eval a X.env) (fun v s₁=>wpAny (model X.prog X.w) X.A (eval b X.env) (fun u s₂=>wpAny (model X.prog X.w) X.A (compareOp op v u) (EP X pins σ Q) X.xe s₂) X.xe s₁) X.xe s
theorem A4b (b:Expr) {op:CmpOp} (h:op≠.In) (h2:op≠.NotIn):behindInMarks op b=false:=by
 have e1:(op == CmpOp.In)=false:=by cases op <;> first | rfl | exact absurd rfl h
 have e2:(op == CmpOp.NotIn)=false:=by cases op <;> first | rfl | exact absurd rfl h2
 cases b <;> simp [behindInMarks,e1,e2]
def tB (t:TE):TT:=fun σ H Q=>t σ H fun x H1=>∃ c,x=.bl c/\Q c H1
theorem B9p {op:CmpOp} {t:TE} (h:PC X op a b t) (h1:behindInMarks op b=false:=by first | exact A4b _ (by decide) (by decide) | rfl):PE X (.Compare a [op] [b] pos) t:=fun pins s σ H Q I hw=>wpAny_Compare1 (h pins s σ H Q I hw) h1
theorem B9e {op:CmpOp} {t:TE} (h:PC X op a b t) (h1:behindInMarks op b=false:=by first | exact A4b _ (by decide) (by decide) | rfl):PT X (.Compare a [op] [b] pos) (tB t):=by
 intro pins s σ H Q I hw;refine wpAny_isTrue_Compare1 (thn (h pins s σ H _ I hw) fun v s1 h1=>thn h1 fun u s2 h2=>thn h2 fun c s3 ⟨x,H1,I1,r1,q1⟩=>?_) h1;obtain ⟨d,rfl,q⟩:=q1;cases r1;exact wpAny_truthy_bool ⟨H1,I1,q⟩
theorem B3n {e:Expr} {t:TE} (h:PE X e t) (he:∀ whole,isTrue e X.env whole=(do let v <- whole; standAt e.pos; holding [v] (truthy v)):=by intro _; rfl):PT X e (tB t):=by
 intro pins s σ H Q I hw;refine isTrue_plain (thn (h pins s σ H _ I hw) fun v s1 ⟨x,H1,I1,r1,q1⟩=>?_) (he _);obtain ⟨d,rfl,q⟩:=q1;cases r1;exact wpAny_truthy_bool ⟨H1,I1,q⟩
variable {tA tB':TT} {rest:List Expr}
def tAnd (t u:TT):TT:=fun σ H Q=>t σ H fun c H1=>if c=true then u σ H1 Q else Q false H1
def tOr (t u:TT):TT:=fun σ H Q=>t σ H fun c H1=>if c=true then Q true H1 else u σ H1 Q
def tNot (t:TT):TT:=fun σ H Q=>t σ H fun c H1=>Q (!c) H1
theorem B6r (ha:PT X a tA):PW X (.BoolOp .And [a] pos) tA:=by
 intro wh pins s σ H Q I h;refine isTrue_and (thn (ha pins s σ H Q I h) fun c s1 e=>?_);cases c with
 | true=>exact isTrue_and_nil e
 | false=>exact e
theorem B9b (ha:PT X a tA):PW X (.BoolOp .Or [a] pos) tA:=by
 intro wh pins s σ H Q I h;refine isTrue_or (thn (ha pins s σ H Q I h) fun c s1 e=>?_);cases c with
 | false=>exact isTrue_or_nil e
 | true=>exact e
theorem B9c (ha:PT X a tA) (hb:PW X (.BoolOp .And (b :: rest) pos) tB'):PW X (.BoolOp .And (a :: b :: rest) pos) (tAnd tA tB'):=by
 intro wh pins s σ H Q I h;refine isTrue_and (thn (ha pins s σ H _ I h) fun c s1 ⟨H1,I1,q1⟩=>?_);cases c with
 | true=>exact hb wh pins s1 σ H1 Q I1 q1
 | false=>exact ⟨H1,I1,q1⟩
theorem C2y (ha:PT X a tA) (hb:PW X (.BoolOp .Or (b :: rest) pos) tB'):PW X (.BoolOp .Or (a :: b :: rest) pos) (tOr tA tB'):=by
 intro wh pins s σ H Q I h;refine isTrue_or (thn (ha pins s σ H _ I h) fun c s1 ⟨H1,I1,q1⟩=>?_);cases c with
 | true=>exact ⟨H1,I1,q1⟩
 | false=>exact hb wh pins s1 σ H1 Q I1 q1
theorem B9d (ha:PT X a tA):PT X (.UnaryOp .Not a pos) (tNot tA):=by
 intro pins s σ H Q I h;exact isTrue_not (ha pins s σ H (fun c H1=>Q (!c) H1) I h)
def B59 (ta tb:TE):TE:=fun σ H Q=>ta σ H fun x H1=>∃ c,x=.bl c/\if c=true then tb σ H1 Q else Q (.bl false) H1
def tOrV (ta tb:TE):TE:=fun σ H Q=>ta σ H fun x H1=>∃ c,x=.bl c/\if c=true then Q (.bl true) H1 else tb σ H1 Q
def B54 (ta:TE):TE:=fun σ H Q=>ta σ H fun x H1=>∃ c,x=.bl c/\Q (.bl (!c)) H1
theorem B9m {op} {t:TE} (h:PE X a t):PE X (.BoolOp op [a] pos) t:=fun pins s σ H Q I hw=>BoolOp_one (h pins s σ H Q I hw)
theorem B9q (ha:PE X a ta) (hb:PE X (.BoolOp .And (b :: rest) pos) tb):PE X (.BoolOp .And (a :: b :: rest) pos) (B59 ta tb):=by
 intro pins s σ H Q I h;refine BoolOp_and (thn (ha pins s σ H _ I h) fun v s1 ⟨x,H1,I1,r1,q1⟩=>?_);obtain ⟨c,rfl,q1⟩:=q1;cases r1;refine wpAny_truthy_bool ?_;cases c with
 | true=>exact hb pins s1 σ H1 Q I1 q1
 | false=>exact ⟨.bl false,H1,I1,rfl,q1⟩
theorem C22 (ha:PE X a ta) (hb:PE X (.BoolOp .Or (b :: rest) pos) tb):PE X (.BoolOp .Or (a :: b :: rest) pos) (tOrV ta tb):=by
 intro pins s σ H Q I h;refine BoolOp_or (thn (ha pins s σ H _ I h) fun v s1 ⟨x,H1,I1,r1,q1⟩=>?_);obtain ⟨c,rfl,q1⟩:=q1;cases r1;refine wpAny_truthy_bool ?_;cases c with
 | false=>exact hb pins s1 σ H1 Q I1 q1
 | true=>exact ⟨.bl true,H1,I1,rfl,q1⟩
theorem B9n (ha:PE X a ta):PE X (.UnaryOp .Not a pos) (B54 ta):=by
 intro pins s σ H Q I h;refine UnaryOp_ (thn (ha pins s σ H _ I h) fun v s1 ⟨x,H1,I1,r1,q1⟩=>?_);obtain ⟨c,rfl,q1⟩:=q1;cases r1;exact not_of (wpAny_truthy_bool ⟨.bl (!c),H1,I1,rfl,q1⟩)
def tIf (t:TT) (ta tb:TE):TE:=fun σ H Q=>t σ H fun c H1=>if c=true then ta σ H1 Q else tb σ H1 Q
theorem B19 {c:Expr} (hc:PT X c tA) (ha:PE X a ta) (hb:PE X b tb):PE X (.IfExp c a b pos) (tIf tA ta tb):=by
 intro pins s σ H Q I h;refine wpAny_IfExp (thn (hc pins s σ H _ I h) fun d s1 ⟨H1,I1,q1⟩=>?_);cases d with
 | true=>exact ha pins s1 σ H1 Q I1 q1
 | false=>exact hb pins s1 σ H1 Q I1 q1
end
end L2
namespace L2
open PySem PySem.Spec PyProof.Rows
def SqL (K:PySem.W.Frag) (H:Hp) (a:Addr) (xs:List V):Prop :=
 Rd H a (.lst xs) \/
  ∃ (o:Obj) (its:Array Value) (n:Nat),K.lookup a=some o/\o.cls=.type "list"/\o.dict=none/\o.data=.seq its n/\its.size<=sizeLine/\Vals xs its.toList
def SqT (K:PySem.W.Frag) (H:Hp) (a:Addr) (xs:List V):Prop :=
 Rd H a (.tup xs) \/
  ∃ (o:Obj) (its:Array Value) (n:Nat),K.lookup a=some o/\o.cls=.type "tuple"/\o.data=.seq its n/\its.size<=sizeLine/\Vals xs its.toList
def absV:Value->Option V
 | .none=>some .non
 | .bool b=>some (.bl b)
 | .int i _=>some (.int i)
 | .str x _=>some (.str x)
 | .bytes b _=>some (.byt b)
 | .float b _=>some (.flt b)
 | .ref a=>some (.ref a)
 | .type n=>some (.ty n)
 | _=>none
theorem RelV.abs {x:V} {u:Value} (r:RelV x u):absV u=some x:=by
 cases x with
 | non=>cases r; rfl
 | bl _=>cases r; rfl
 | int _=>obtain ⟨t,rfl⟩:=r; rfl
 | str _=>obtain ⟨t,rfl⟩:=r; rfl
 | byt _=>obtain ⟨t,rfl⟩:=r; rfl
 | flt _=>obtain ⟨t,rfl⟩:=r; rfl
 | ref _=>cases r; rfl
 | ty _=>cases r; rfl
theorem RelV.inj {x y:V} {u:Value} (r:RelV x u) (q:RelV y u):x=y:=Option.some.inj (r.abs.symm.trans q.abs)
theorem Vals.inj:∀ {xs ys:List V} {us:List Value},Vals xs us->Vals ys us->xs=ys
 | _,_,_,.nil,.nil=>rfl
 | _,_,_,.cons r t,.cons r' t'=>by rw [r.inj r',Vals.inj t t']
section
variable {X:Cx} {pins:List (Addr × Obj)} {σ:St} {H:Hp} {s:Shared} {a:Addr} {xs ys:List V}
theorem SqL.of {K:PySem.W.Frag} (h:H a=some (.lst xs)):SqL K H a xs:=.inl (.inl h)
theorem SqT.of {K:PySem.W.Frag} (h:H a=some (.tup xs)):SqT K H a xs:=.inl (.inl h)
theorem Inv.list (I:Inv X pins σ H s) (h:SqL X.K H a xs):∃ its:List Value,Vals xs its/\PlainL s.heap a its.toArray/\xs.length<=sizeLine:=by
 rcases h with h | ⟨o,its,n,hk,hc,hd,hs,hz,r⟩
 ·obtain ⟨z,its,n,r,e⟩:=h.ok I.hok;exact ⟨its,r,⟨_,n,e,rfl,rfl,rfl⟩,z⟩
 ·refine ⟨its.toList,r,⟨o,n,I.kIn a o hk,hc,hd,by simpa using hs⟩,?_⟩;have e:=r.length;simp only [Array.length_toList] at e;omega
theorem Inv.tuple (I:Inv X pins σ H s) (h:SqT X.K H a xs):∃ its:List Value,Vals xs its/\IsTup s.heap a its.toArray/\xs.length<=sizeLine:=by
 rcases h with h | ⟨o,its,n,hk,hc,hs,hz,r⟩
 ·obtain ⟨z,its,r,p⟩:=h.ok I.hok;exact ⟨its,r,p,z⟩
 ·refine ⟨its.toList,r,⟨o,I.kIn a o hk,hc,n,by simpa using hs⟩,?_⟩;have e:=r.length;simp only [Array.length_toList] at e;omega
theorem Inv.list_inj (I:Inv X pins σ H s) (h:SqL X.K H a xs) (h':SqL X.K H a ys):xs=ys:=by
 obtain ⟨its,r,⟨o,n,e,_,_,d⟩,_⟩:=I.list h;obtain ⟨its',r',⟨o',n',e',_,_,d'⟩,_⟩:=I.list h';rw [e] at e'; cases e';rw [d] at d';injection d' with d1 _
 have:its=its':=by simpa using congrArg Array.toList d1
 subst this;exact r.inj r'
theorem Inv.tuple_inj (I:Inv X pins σ H s) (h:SqT X.K H a xs) (h':SqT X.K H a ys):xs=ys:=by
 obtain ⟨its,r,⟨o,e,_,n,d⟩,_⟩:=I.tuple h;obtain ⟨its',r',⟨o',e',_,n',d'⟩,_⟩:=I.tuple h';rw [e] at e'; cases e';rw [d] at d';injection d' with d1 _
 have:its=its':=by simpa using congrArg Array.toList d1
 subst this;exact r.inj r'
end
abbrev Cx.wish (X:Cx) (E:Value->Shared->Prop):Cx:={ X with xe:=E }
abbrev Cx.nox (X:Cx):Cx:=X.wish fun _ _=>False
theorem Cx.Ok.wish {X:Cx} (ok:X.Ok) (E:Value->Shared->Prop):(X.wish E).Ok :=
 ⟨ok.mod,ok.kind,ok.glob,ok.blt,ok.above,ok.inj,ok.has,ok.cab,ok.hd,ok.frames,ok.stk,ok.exf,ok.bs,ok.bsz,ok.noex,ok.exfs,ok.funs,ok.frf⟩
theorem Cx.Ok.unwish {X:Cx} {E:Value->Shared->Prop} (ok:(X.wish E).Ok):X.Ok :=
 ⟨ok.mod,ok.kind,ok.glob,ok.blt,ok.above,ok.inj,ok.has,ok.cab,ok.hd,ok.frames,ok.stk,ok.exf,ok.bs,ok.bsz,ok.noex,ok.exfs,ok.funs,ok.frf⟩
section
variable {X:Cx} {pins:List (Addr × Obj)} {σ:St} {H:Hp} {s:Shared} {E:Value->Shared->Prop}
theorem Inv.wish (I:Inv X pins σ H s) (E:Value->Shared->Prop):Inv (X.wish E) pins σ H s:=⟨I.ok.wish E,I.os,I.bare,I.base,I.loc,I.cell,I.free,I.freeC,I.pin,I.hok,I.len⟩
theorem Inv.unwish (I:Inv (X.wish E) pins σ H s):Inv X pins σ H s:=⟨I.ok.unwish,I.os,I.bare,I.base,I.loc,I.cell,I.free,I.freeC,I.pin,I.hok,I.len⟩
theorem SP.unwish {D:Ends} {f:Flow} {s':Shared} (h:SP (X.wish E) pins D f s'):SP X pins D f s':=by
 cases f with
 | next=>obtain ⟨σ',H',I,q⟩:=h; exact ⟨σ',H',I.unwish,q⟩
 | brk=>obtain ⟨σ',H',I,q⟩:=h; exact ⟨σ',H',I.unwish,q⟩
 | cont=>obtain ⟨σ',H',I,q⟩:=h; exact ⟨σ',H',I.unwish,q⟩
 | ret u=>obtain ⟨v,σ',H',I,r,q⟩:=h; exact ⟨v,σ',H',I.unwish,r,q⟩
theorem PSs.nox {st:List Stmt} {t:TS} (h:PSs X.nox st t):PSs X st t:=fun pins s σ H D I hw =>
 wpAny_mono (h pins s σ H D (I.wish _) hw) (fun _ _ q=>q.unwish) fun _ _ z=>False.elim z
end
section
variable {X:Cx} {st:Stmt} {rest:List Stmt} {t u:TS} {e:Expr} {te:TE} {pos:Pos}
def B55:TS:=fun D σ H=>D.nx σ H
def tSeq (t u:TS):TS:=fun D σ H=>t { D with nx:=u D } σ H
theorem A2f:PSs X [] B55:=fun _ _ σ H _ I h=>wpAny_execs_nil ⟨σ,H,I,h⟩
theorem K5 (h1:PS X st t) (h2:PSs X rest u):PSs X (st :: rest) (tSeq t u):=by
 intro pins s σ H D I h;refine wpAny_execs_cons (thn (h1 pins s σ H { D with nx:=u D } I h) fun f s1 q=>?_);cases f with
 | next =>
  obtain ⟨σ',H',I',q⟩:=q;exact h2 pins s1 σ' H' D I' q
 | ret v=>exact q
 | brk=>exact q
 | cont=>exact q
theorem R3 (h1:PS X st t):PSs X [st] t:=by
 intro pins s σ H D I h;refine wpAny_execs_cons (thn (h1 pins s σ H D I h) fun f s1 q=>?_);cases f with
 | next=>exact wpAny_execs_nil q
 | ret v=>exact q
 | brk=>exact q
 | cont=>exact q
theorem Inv.quiet {pins:List (Addr × Obj)} {σ:St} {H:Hp} {s:Shared} (I:Inv X pins σ H s):interactive X.env=false:=by simp [interactive,I.ok.kind]
def A6e (te:TE):TS:=fun D σ H=>te σ H fun _ H1=>D.nx σ H1
theorem B6w (he:PE X e te) (hs:swapsWith e none pos.line X.env=pure false:=by rfl):PS X (.Expr e pos) (A6e te):=by
 intro pins s σ H D I h;exact wpAny_Expr_any (thn (he pins s σ H _ I h) fun v s1 ⟨x,H1,I1,r1,q1⟩=>⟨σ,H1,I1,q1⟩) I.quiet hs
def tRet (te:TE):TS:=fun D σ H=>te σ H D.rt
theorem A3p (he:PE X e te):PS X (.Return (some e) pos) (tRet te):=by
 intro pins s σ H D I h;exact wpAny_Return_some (thn (he pins s σ H _ I h) fun v s1 ⟨x,H1,I1,r1,q1⟩=>⟨x,σ,H1,I1,r1,q1⟩)
def tIfS (c:TT) (t u:TS):TS:=fun D σ H=>c σ H fun b H1=>if b=true then t D σ H1 else u D σ H1
theorem B6v {c:Expr} {a b:List Stmt} {tc:TT} (hc:PT X c tc) (ha:PSs X a t) (hb:PSs X b u):PS X (.If c a b pos) (tIfS tc t u):=by
 intro pins s σ H D I h;refine wpAny_If (thn (hc pins s σ H _ I h) fun d s1 ⟨H1,I1,q1⟩=>?_);cases d with
 | true=>exact ha pins s1 σ H1 D I1 q1
 | false=>exact hb pins s1 σ H1 D I1 q1
def A6d:TS:=fun _ _ _=>False
theorem B10:PS X st A6d:=fun _ _ _ _ _ _ h=>h.elim
end
abbrev TG:=V->St->Hp->(St->Hp->Prop)->Prop
abbrev TGs:=List V->St->Hp->(St->Hp->Prop)->Prop
def PG (X:Cx) (target:Expr) (t:TG):Prop :=
 ∀ (pins:List (Addr × Obj)) (s:Shared) (σ:St) (H:Hp) (v:V) (u:Value) (Q:St->Hp->Prop),Inv X pins σ H s->RelV v u->t v σ H Q ->
  wpAny (model X.prog X.w) X.A (assign target X.env u) (fun _ s'=>∃ σ' H',Inv X pins σ' H' s'/\Q σ' H') X.xe s
def PGs (X:Cx) (ts:List Expr) (t:TGs):Prop :=
 ∀ (pins:List (Addr × Obj)) (s:Shared) (σ:St) (H:Hp) (vs:List V) (us:List Value) (Q:St->Hp->Prop),Inv X pins σ H s->Vals vs us->t vs σ H Q ->
  wpAny (model X.prog X.w) X.A (assignInOrder ((assignEach ts X.env).map (·.2)) us) (fun _ s'=>∃ σ' H',Inv X pins σ' H' s'/\Q σ' H') X.xe s
abbrev TSet:=V->V->V->Hp->(Hp->Prop)->Prop
def PSet (X:Cx) (t:TSet):Prop :=
 ∀ (pins:List (Addr × Obj)) (s:Shared) (σ:St) (H:Hp) (o i v:V) (ov iv u:Value) (Q:Hp->Prop),Inv X pins σ H s->RelV o ov->RelV i iv->RelV v u->t o i v H Q ->
  wpAny (model X.prog X.w) X.A (setItem ov iv u) (fun _ s'=>∃ H',Inv X pins σ H' s'/\Q H') X.xe s
section
variable {X:Cx} {pos:Pos}
def W3 (i:Nat):TG:=fun v σ H Q=>Q (σ.set i (some v)) H
theorem A7d {i:Nat} {x:Str} (hN:X.N.Nodup) (hi:X.N[i]?=some x) (hx:Loc X.env.scope x) (hf:X.fn x=true\/X.env.scope.names.lookup x=some .local:=by first | exact .inl rfl | exact .inr rfl | assumption):PG X (.Name x pos) (W3 i):=by
 intro pins s σ H v u Q I r h;exact wpAny_assign_Name (N3 I hN hi hx r (fun s' I'=>⟨_,H,I',h⟩) hf)
def gNil:TGs:=fun vs σ H Q=>vs=[]/\Q σ H
def A2v (t:TG) (u:TGs):TGs:=fun vs σ H Q=>∃ v r,vs=v :: r/\t v σ H fun σ' H'=>u r σ' H' Q
theorem B63:PGs X [] gNil:=by
 intro pins s σ H vs us Q I r h;obtain ⟨e,h⟩:=h;subst e;cases r;exact assignInOrder_nil ⟨σ,H,I,h⟩
theorem B17 {e:Expr} {es:List Expr} {t:TG} {u:TGs} (h1:PG X e t) (h2:PGs X es u)
  (hs:(assignEach (e :: es) X.env).map (·.2)=assign e X.env :: (assignEach es X.env).map (·.2):=by rfl):PGs X (e :: es) (A2v t u):=by
 intro pins s σ H vs us Q I r h;obtain ⟨v,vr,e1,h⟩:=h;subst e1;cases r with
 | cons r rr =>
  rw [hs];refine assignInOrder_cons (thn (h1 pins s σ H _ _ _ I r h) fun _ s1 ⟨σ1,H1,I1,q1⟩=>?_);exact h2 pins s1 σ1 H1 _ _ Q I1 rr q1
def gTup (K:PySem.W.Frag) (n:Nat) (t:TGs):TG:=fun v σ H Q=>∃ a xs,v=.ref a/\SqT K H a xs/\xs.length=n/\t xs σ H Q
theorem B9i {es:List Expr} {k:Nat} {t:TGs} {n:Nat} (hc:X.calm=true) (h:PGs X es t)
  (hn:(assignEach es X.env).length=n:=by rfl) (hst:(assignEach es X.env).findIdx? (·.1)=none:=by rfl):PG X (.Tuple es k pos) (gTup X.K n t):=by
 intro pins s σ H v u Q I r hw;obtain ⟨a,xs,e1,hq,hl,hw⟩:=hw;subst e1;cases r;obtain ⟨its,rv,ht,hz⟩:=I.tuple hq;refine assign_Tuple_tuple (I.ok.hd hc) ht (by simp [hn,<- hl,rv.length]) hst fun h' hx=>?_;have I1:Inv X pins σ H { s with heap:=h' }:=I.kept (t':=s.toks) fun b o e=>hx b o (Nat.ne_of_lt (Heap.lt_size e)) e;exact h pins _ σ H xs _ Q I1 (by simpa using rv) hw
def gSub (to ti:TE) (t:TSet):TG:=fun v σ H Q=>to σ H fun o H1=>ti σ H1 fun i H2=>t o i v H2 fun H3=>Q σ H3
theorem A3s {o i:Expr} {to ti:TE} {t:TSet} (ho:PE X o to) (hi:PE X i ti) (hs:PSet X t)
  (ha:∀ v,assign (.Subscript o i pos) X.env v=(do
   let ov <- holding [v] (eval o X.env)
   let iv <- holding [v,ov] (eval i X.env)
   standAt pos
   holding [v,ov,iv] (setItem ov iv v)
   release [v,ov,iv] []):=by intro _; rfl):PG X (.Subscript o i pos) (gSub to ti t):=by
 intro pins s σ H v u Q I r h;rw [ha];refine wpAny_bind (wpAny_holding (thn (ho pins s σ H _ I h) fun ov s1 ⟨x,H1,I1,r1,q1⟩=>?_));refine wpAny_bind (wpAny_holding (thn (hi pins s1 σ H1 _ I1 q1) fun iv s2 ⟨y,H2,I2,r2,q2⟩=>?_));refine wpAny_bind (wpAny_standAt (wpAny_bind (wpAny_holding (thn (hs pins s2 σ H2 x y v ov iv u _ I2 r1 r2 r q2) fun _ s3 ⟨H3,I3,q3⟩=>?_))));exact wpAny_release ⟨σ,H3,I3,q3⟩
def tAsg (te:TE) (g:TG):TS:=fun D σ H=>te σ H fun x H1=>g x σ H1 D.nx
theorem A3q {tg e:Expr} {te:TE} {g:TG} (he:PE X e te) (hg:PG X tg g) (hs:swapsWithSole [tg] e pos.line X.env=pure false:=by rfl) (hw:swappedStores [tg] e X.env=pure none:=by rfl)
  (h1:(assignEach [tg] X.env).map (·.2)=[assign tg X.env]:=by rfl):PS X (.Assign [tg] e pos) (tAsg te g):=by
 intro pins s σ H D I h;refine wpAny_Assign_stores (thn (he pins s σ H _ I h) fun v s1 ⟨x,H1,I1,r1,q1⟩=>?_) hs hw;rw [h1];exact thn (hg pins s1 σ H1 x v _ I1 r1 q1) fun _ s2 q=>q
theorem X0 {i:Nat} {x:Str} {e:Expr} {te:TE} {pos':Pos} (hN:X.N.Nodup) (hi:X.N[i]?=some x) (hx:Loc X.env.scope x) (he:PE X e te) (hs:swapsWith e (some (.Name x pos')) pos.line X.env=pure false:=by rfl) (hf:X.fn x=true\/X.env.scope.names.lookup x=some .local:=by first | exact .inl rfl | exact .inr rfl | assumption) :
  PS X (.Assign [.Name x pos'] e pos) (tAsg te (W3 i)):=by
 intro pins s σ H D I h;refine wpAny_Assign_Name (thn (he pins s σ H _ I h) fun v s1 ⟨y,H1,I1,r1,q1⟩=>?_) hs;exact N3 I1 hN hi hx r1 (fun s2 I2=>⟨_,H1,I2,q1⟩) hf
def tPar (i j:Nat) (ta:TA):TS:=fun D σ H=>ta σ H fun vs H1=>∃ v w,vs=[v,w]/\D.nx ((σ.set i (some v)).set j (some w)) H1
theorem B9f {i j:Nat} {x y:Str} {a b:Expr} {ta:TA} {px py pt:Pos} {kt k2 pt2} (hc:X.calm=true) (hN:X.N.Nodup) (hi:X.N[i]?=some x) (hj:X.N[j]?=some y) (hij:i≠j)
  (hx:X.env.scope.names.lookup x=some .local) (hy:X.env.scope.names.lookup y=some .local) (ha:PA X [a,b] ta)
  (hw:swappedStores [.Tuple [.Name x px,.Name y py] kt pt] (.Tuple [a,b] k2 pt2) X.env=pure (some [x,y]))
  (hs:swapsWithSole [.Tuple [.Name x px,.Name y py] kt pt] (.Tuple [a,b] k2 pt2) pos.line X.env=pure false:=by rfl) :
  PS X (.Assign [.Tuple [.Name x px,.Name y py] kt pt] (.Tuple [a,b] k2 pt2) pos) (tPar i j ta):=by
 intro pins s σ H D I h;rw [exec_Assign_arm];refine wpAny_bind (wpAny_standAt ?_);rw [hs];refine wpAny_bind (wpAny_pure ?_);rw [if_neg (by decide)];refine wpAny_bind (Tuple_ (thn (ha _ pins s σ H _ I h) fun us s1 ⟨vs,H1,I1,r1,q1⟩=>?_));obtain ⟨v,w,e1,q1⟩:=q1;subst e1;obtain ⟨u1,u2,rfl,rv,rw'⟩:∃ u1 u2,us=[u1,u2]/\RelV v u1/\RelV w u2:=by
  cases r1 with
  | cons p q =>
   cases q with
   | cons p' q' =>
    cases q';exact ⟨_,_,rfl,p,p'⟩
 refine wpAny_newObj_type ?_ (by show 2<=sizeLine; decide);have I2:Inv X pins σ H1 { s1 with heap:=s1.heap.push { cls:=.type "tuple",data:=.seq [u1,u2].toArray } }:=I1.kept (t':=s1.toks) fun b o e=>Heap.get?_push_of_some _ e;rw [hw];refine wpAny_bind (wpAny_pure ?_);show wpAny (model X.prog X.w) X.A (do rule "assign.swapped-stores"; let items <- unpackItems (.ref s1.heap.objs.size) 2 none; assignInOrder [fun v=>bindName X.env y v,fun v=>bindName X.env x v] items.reverse; pure Flow.next) _ _ _;refine wpAny_bind (wpAny_rule (wpAny_bind (unpackItems_tuple (items:=#[u1,u2]) (I.ok.hd hc) (IsTup.new s1.heap _) fun h' hx'=>?_)));have I3:=I2.kept (h':=h') (t':=s1.toks) fun b o e=>hx' b o (Nat.ne_of_lt (Heap.lt_size e)) e;show wpAny _ _ (assignInOrder [fun v=>bindName X.env y v,fun v=>bindName X.env x v] [u2,u1] >>= fun _=>pure Flow.next) _ _ _;refine wpAny_bind (assignInOrder_cons (wpAny_bindName (N3 I3 hN hj (.inl hy) rw' (fun s2 I4=>?_) (.inr hy))));refine assignInOrder_cons (wpAny_bindName (N3 I4 hN hi (.inl hx) rv (fun s3 I5=>assignInOrder_nil (wpAny_pure ?_)) (.inr hx)));rw [List.set_comm _ _ (Ne.symm hij)] at I5;exact ⟨_,H1,I5,q1⟩
end
section
variable {X:Cx} {pos:Pos}
def A6c (c:TT) (tb:TS):TS:=fun D σ H=>∃ W:Nat->St->Hp->Prop,(∃ m,W m σ H)/\∀ m σ H,W m σ H ->
 c σ H fun b H1=>if b=true then ∃ N:St->Hp->Prop,(∀ σ' H',N σ' H'->∃ m',m' < m/\W m' σ' H')/\tb { D with nx:=N,ct:=N,bk:=D.nx } σ H1 else D.nx σ H1
theorem B1y {c:Expr} {body:List Stmt} {tc:TT} {tb:TS} (hp:PassesOwn (model X.prog X.w) X.A X.env X.xe) (hc:PT X c tc) (hb:PSs X body tb):PS X (.While c body [] pos) (A6c tc tb):=by
 intro pins s σ H D I h;obtain ⟨W,⟨m0,w0⟩,turn⟩:=h;refine wpAny_While (codeAny_whileLoop (fun n s'=>∃ σ' H',Inv X pins σ' H' s'/\W n σ' H') ?_ m0 ⟨σ,H,I,w0⟩);rintro n s1 ⟨σ1,H1,I1,w1⟩;refine wpAny_passesOwn hp (thn (hc pins s1 σ1 H1 _ I1 (turn n σ1 H1 w1)) fun b s2 ⟨H2,I2,q2⟩=>?_);cases b with
 | true =>
  obtain ⟨N,hN,q2⟩:=q2;rw [if_pos rfl];refine wpAny_passesOwn hp (thn (hb pins s2 σ1 H2 _ I2 q2) fun f s3 q3=>?_);cases f with
  | next =>
   obtain ⟨σ3,H3,I3,n3⟩:=q3;obtain ⟨m',hm,w3⟩:=hN σ3 H3 n3;exact ⟨m',hm,σ3,H3,I3,w3⟩
  | cont =>
   obtain ⟨σ3,H3,I3,n3⟩:=q3;obtain ⟨m',hm,w3⟩:=hN σ3 H3 n3;exact ⟨m',hm,σ3,H3,I3,w3⟩
  | brk=>exact q3
  | ret v=>exact q3
 | false =>
  rw [if_neg Bool.false_ne_true];exact wpAny_execs_nil ⟨σ1,H2,I2,q2⟩
end
structure It where
 go:Nat->Hp->Prop
 yld:Nat->Hp->V->Hp->Prop
 stop:Nat->Hp->Prop
def FpOk (X:Cx) (pins:List (Addr × Obj)) (H:Hp) (b:Addr):Prop :=
 H b=none/\b≠X.env.locals/\b ∉ X.fs/\(b ∈ X.ex\/X.s₀.heap.objs.size<=b)/\(∀ x c,X.env.cells.lookup x=some c->c≠b)/\∀ p ∈ X.pn++pins,p.1≠b
theorem Inv.fpOk {X:Cx} {pins:List (Addr × Obj)} {σ:St} {H H':Hp} {s:Shared} {b:Addr} (I:Inv X pins σ H s) (hb:s.heap.objs.size<=b) (hn:H' b=none):FpOk X pins H' b:=by
 refine ⟨hn,Nat.ne_of_gt (Nat.lt_of_lt_of_le I.lt hb),I.nofs hb,.inr (Nat.le_trans I.sz hb),fun x c e z=>?_,fun p hp z=>?_⟩
 ·obtain ⟨v,q⟩:=I.cell x c e;exact absurd (Nat.lt_of_lt_of_le q.lt (by rw [z]; exact hb)) (Nat.lt_irrefl _)
 ·exact absurd (Nat.lt_of_lt_of_le (Heap.lt_size (I.pin p hp).1) (by rw [z]; exact hb)) (Nat.lt_irrefl _)
structure Turn (P:Program) (w:World) (K:PySem.W.Frag) (tg:Expr) (J:It) (fp:List Addr) (it:Addr) (tn:Nat->Heap->Prop):Prop where
  mem:it ∈ fp
  obj:∀ i h,tn i h->∀ b ∈ fp,∃ o,h.get? b=some o/\∀ v,o.data≠.cell v
  keep:∀ i h h',tn i h->(∀ b ∈ fp,∀ o,h.get? b=some o->h'.get? b=some o)->tn i h'
  item:∀ (X:Cx),X.prog=P->X.w=w->X.K=K->X.calm=true->∀ (i:Nat) (pins:List (Addr × Obj)) (s:Shared) (σ:St) (H:Hp) (E:Value->Shared->Prop),Inv X pins σ H s->(∀ b ∈ fp,FpOk X pins H b)->tn i s.heap->J.go i H ->
    wpAny (model P w) X.A (pyNext (.ref it)) (fun r s1=>∃ u,r=some u /\
      wpAny (model P w) X.A (letOwnedTupleGo tg (.ref it) u) (fun _ s2=>∃ x H',Inv X pins σ H' s2/\RelV x u/\J.yld i H x H'/\tn (i + 1) s2.heap/\∀ b ∈ fp,H' b=none) E s1) E s
  done:∀ (X:Cx),X.prog=P->X.w=w->X.K=K->X.calm=true->∀ (i:Nat) (pins:List (Addr × Obj)) (s:Shared) (σ:St) (H:Hp) (E:Value->Shared->Prop),Inv X pins σ H s->(∀ b ∈ fp,FpOk X pins H b)->tn i s.heap->J.stop i H ->
    wpAny (model P w) X.A (pyNext (.ref it)) (fun r s1=>r=none/\Inv X pins σ H s1) E s
  self:∀ (A:Around) (i:Nat) (s:Shared) (Q:Value->Shared->Prop) (E:Value->Shared->Prop),tn i s.heap->Q (.ref it) s->wpAny (model P w) A (pyIter (.ref it)) Q E s
abbrev TI:=St->Hp->(It->Hp->Prop)->Prop
def PIE (X:Cx) (pins:List (Addr × Obj)) (σ:St) (tg:Expr) (R:It->Hp->Prop) (itv:Value) (s2:Shared):Prop :=
 ∃ (it:Addr) (fp:List Addr) (tn:Nat->Heap->Prop) (J:It) (H':Hp),itv=.ref it/\Inv X pins σ H' s2/\Turn X.prog X.w X.K tg J fp it tn/\tn 0 s2.heap/\(∀ b ∈ fp,FpOk X pins H' b)/\R J H'
def PI (X:Cx) (tg iter:Expr) (wi:TI):Prop :=
 ∀ (pins:List (Addr × Obj)) (s:Shared) (σ:St) (H:Hp) (R:It->Hp->Prop),Inv X pins σ H s->wi σ H R ->
  wpAny (model X.prog X.w) X.A (eval iter X.env) (fun v s1=>wpAny (model X.prog X.w) X.A (pyIter v) (PIE X pins σ tg R) X.xe s1) X.xe s
theorem B8c {M:Model} {A:Around} {E:Value->Shared->Prop} {s:Shared} {tg:Expr} {it:Addr} {u:Value} {o:Obj} {n:String} {vs:Array Value} {Q:Unit->Shared->Prop} (ho:s.heap.get? it=some o) (hc:o.cls=.type n) (hd:o.data=.fields vs)
    (hn:["enumerate","zip","dict_itemiterator","dict_reverseitemiterator","odict_iterator","itertools.zip_longest","itertools.pairwise"].contains n=false) (hQ:Q () s):wpAny M A (letOwnedTupleGo tg (.ref it) u) Q E s:=by
  unfold letOwnedTupleGo;cases tg <;> first
    | exact wpAny_pure hQ
    | (cases u <;> first
        | exact wpAny_pure hQ
        | (refine wpAny_bind (wpAny_load ho ?_)
           rw [hc,hd];show wpAny M A (if (["enumerate","zip","dict_itemiterator","dict_reverseitemiterator","odict_iterator","itertools.zip_longest","itertools.pairwise"].contains n && vs[0]? == some (rawInt _))=true then _ else _) Q E s;rw [if_neg (by intro h; rw [hn,Bool.false_and] at h; cases h)];exact wpAny_pure hQ))
def Itl (K:PySem.W.Frag) (a:Addr):It :=
 ⟨fun i H=>∃ xs x,SqL K H a xs/\xs[i]?=some x,fun i H x H'=>H'=H/\∀ xs,SqL K H a xs->xs[i]?=some x,fun i H=>∃ xs,SqL K H a xs/\xs.length<=i⟩
def Itt (K:PySem.W.Frag) (a:Addr):It :=
 ⟨fun i H=>∃ xs x,SqT K H a xs/\xs[i]?=some x,fun i H x H'=>H'=H/\∀ xs,SqT K H a xs->xs[i]?=some x,fun i H=>∃ xs,SqT K H a xs/\xs.length<=i⟩
def Itr (lo:Int) (n:Nat):It:=⟨fun i _=>i < n,fun i H x H'=>H'=H/\x=.int (lo + i),fun i _=>n<=i⟩
theorem A6a {P:Program} {w:World} {K:PySem.W.Frag} {tg:Expr} (a it:Addr):Turn P w K tg (Itl K a) [it] it (fun i h=>h.IsListIter it a i) where
 mem:=by simp
 obj:=fun i h st b hb=>by
  have e:b=it:=by simpa using hb
  subst e;obtain ⟨o,e,c,d⟩:=st;exact ⟨o,e,fun v z=>by rw [d] at z; cases z⟩
 keep:=fun i h h' st k=>st.at fun o e=>k it (by simp) o e
 item:=by
  intro X hP hw hK hc i pins s σ H E I hf st hg;subst hP hw hK;obtain ⟨xs,x,hq,hx⟩:=hg;obtain ⟨its,rv,p,hz⟩:=I.list hq;obtain ⟨u,hu,ru⟩:=rv.get hx;obtain ⟨f0,f1,f2,f3,f4,f5⟩:=hf it (by simp);refine wpAny_pyNext_list_item st p.isList (x:=u) (by simpa using hu) fun h' st' sb=>?_;have I1:Inv X pins σ H { s with heap:=h' }:=I.turned (t':=s.toks) (fun b o hb e=>(sb.2 b hb).trans e) f0 f1 f3 f4 f5;obtain ⟨o,e,c,d⟩:=id st';exact ⟨u,rfl,B8c (s:={ s with heap:=h' }) e c d (by decide) ⟨x,H,I1,ru,⟨rfl,fun ys hy=>by rw [I.list_inj hy hq]; exact hx⟩,st',fun b hb=>(hf b hb).1⟩⟩
 done:=by
  intro X hP hw hK hc i pins s σ H E I hf st hg;subst hP hw hK;obtain ⟨xs,hq,hx⟩:=hg;obtain ⟨its,rv,p,hz⟩:=I.list hq;obtain ⟨f0,f1,f2,f3,f4,f5⟩:=hf it (by simp);have hl:=rv.length;exact wpAny_pyNext_list_end (I.ok.hd hc) st p.isList (by simp; omega) fun h' eb=>⟨rfl,I.turned (t':=s.toks) (fun b o hb e=>eb b o hb e) f0 f1 f3 f4 f5⟩
 self:=fun _ _ _ _ _ st h=>wpAny_pyIter_listiter st h
theorem A5b {P:Program} {w:World} {K:PySem.W.Frag} {tg:Expr} (a it:Addr):Turn P w K tg (Itt K a) [it] it (fun i h=>h.IsTupleIter it a i) where
 mem:=by simp
 obj:=fun i h st b hb=>by
  have e:b=it:=by simpa using hb
  subst e;obtain ⟨o,e,c,d⟩:=st;exact ⟨o,e,fun v z=>by rw [d] at z; cases z⟩
 keep:=fun i h h' st k=>st.at fun o e=>k it (by simp) o e
 item:=by
  intro X hP hw hK hc i pins s σ H E I hf st hg;subst hP hw hK;obtain ⟨xs,x,hq,hx⟩:=hg;obtain ⟨its,rv,p,hz⟩:=I.tuple hq;obtain ⟨u,hu,ru⟩:=rv.get hx;obtain ⟨f0,f1,f2,f3,f4,f5⟩:=hf it (by simp);refine wpAny_pyNext_tuple_item st (show s.heap.IsTuple a its.toArray from p) (x:=u) (by simpa using hu) fun h' st' sb=>?_;have I1:Inv X pins σ H { s with heap:=h' }:=I.turned (t':=s.toks) (fun b o hb e=>(sb.2 b hb).trans e) f0 f1 f3 f4 f5;obtain ⟨o,e,c,d⟩:=id st';exact ⟨u,rfl,B8c (s:={ s with heap:=h' }) e c d (by decide) ⟨x,H,I1,ru,⟨rfl,fun ys hy=>by rw [I.tuple_inj hy hq]; exact hx⟩,st',fun b hb=>(hf b hb).1⟩⟩
 done:=by
  intro X hP hw hK hc i pins s σ H E I hf st hg;subst hP hw hK;obtain ⟨xs,hq,hx⟩:=hg;obtain ⟨its,rv,p,hz⟩:=I.tuple hq;obtain ⟨f0,f1,f2,f3,f4,f5⟩:=hf it (by simp);have hl:=rv.length;exact wpAny_pyNext_tuple_end (I.ok.hd hc) st (show s.heap.IsTuple a its.toArray from p) (by simp; omega) fun h' eb=>⟨rfl,I.turned (t':=s.toks) (fun b o hb e=>eb b o hb e) f0 f1 f3 f4 f5⟩
 self:=fun _ _ _ _ _ st h=>wpAny_pyIter_tupleiter st h
theorem A5c {P:Program} {w:World} {K:PySem.W.Frag} {tg:Expr} (it:Addr) (lo:Int) (n:Nat):Turn P w K tg (Itr lo n) [it] it (fun i h=>IsRangeIter h it (lo + (i:Nat) * 1) ((n:Int) - (i:Nat)) 1) where
 mem:=by simp
 obj:=fun i h st b hb=>by
  have e:b=it:=by simpa using hb
  subst e;exact ⟨_,st,fun v z=>by
   have z':Data.fields _=Data.cell v:=z;cases z'⟩
 keep:=fun i h h' st k=>k it (by simp) _ st
 item:=by
  intro X hP hw hK hc i pins s σ H E I hf st hg;subst hP hw hK;obtain ⟨f0,f1,f2,f3,f4,f5⟩:=hf it (by simp);have W:=Walks.range (prog:=X.prog) (w:=X.w) (I.ok.hd hc) it lo 1 n;refine W.item i s _ _ hg st fun v h' tk hv st' kk=>?_;obtain ⟨t,rfl⟩:=hv;have I1:Inv X pins σ H { s with heap:=h',toks:=tk }:=I.turned (fun b o hb e=>kk b o (by simpa using hb) e) f0 f1 f3 f4 f5;refine ⟨_,rfl,B8c (s:={ s with heap:=h',toks:=tk }) (n:="range_iterator") st' rfl rfl (by decide) ⟨.int (lo + i),H,I1,⟨t,?_⟩,⟨rfl,rfl⟩,st',fun b hb=>(hf b hb).1⟩⟩;rw [Int.mul_one]
 done:=by
  intro X hP hw hK hc i pins s σ H E I hf st hg;subst hP hw hK;obtain ⟨f0,f1,f2,f3,f4,f5⟩:=hf it (by simp);exact wpAny_pyNext_range_end (I.ok.hd hc) st (by have:n<=i:=hg; omega) fun h' eb=>⟨rfl,I.turned (t':=s.toks) (fun b o hb e=>eb b o hb e) f0 f1 f3 f4 f5⟩
 self:=fun _ _ _ _ _ st h=>wpAny_pyIter_rangeiter st h
end L2
namespace L2
open PySem PySem.Spec PyProof.Rows
section
variable {X:Cx} {tg:Expr}
theorem A3k {pins:List (Addr × Obj)} {σ:St} {H:Hp} {s:Shared} {R:It->Hp->Prop} {E:Value->Shared->Prop} {lo hi:Int} {t u v:Tok} {tk:Nat} (I:Inv X pins σ H s) (h1:-(2 ^ 62)<=lo) (h2:lo < 2 ^ 62) (h3:-(2 ^ 62)<=hi) (h4:hi < 2 ^ 62)
  (q:R (Itr lo (hi - lo).toNat) H):wpAny (model X.prog X.w) X.A (pyIter (.ref s.heap.objs.size)) (PIE X pins σ tg R) E { s with heap:=s.heap.push { cls:=.type "range",data:=.fields #[.int lo t,.int hi u,.int 1 v] },toks:=tk }:=by
 refine wpAny_pyIter_range (IsRange.new ..) (small_one h1 h2 h3 h4) ?_;have I1:Inv X pins σ H { s with heap:=s.heap.push { cls:=.type "range",data:=.fields #[.int lo t,.int hi u,.int 1 v] },toks:=tk }:=I.kept fun b o e=>Heap.get?_push_of_some _ e;refine ⟨(s.heap.push { cls:=.type "range",data:=.fields #[.int lo t,.int hi u,.int 1 v] }).objs.size,[(s.heap.push { cls:=.type "range",data:=.fields #[.int lo t,.int hi u,.int 1 v] }).objs.size],_,_,H,rfl,
  I1.kept (t':=tk) fun b o e=>Heap.get?_push_of_some _ e,A5c _ lo (hi - lo).toNat,?_,fun b hb=>?_,q⟩
 ·have e1:lo + ((0:Nat):Int) * 1=lo:=by simp
  have e2:(((hi - lo).toNat:Nat):Int) - ((0:Nat):Int)=Builtin.Range.rangeSize lo hi 1:=by rw [rangeSize_one]; split <;> omega
  show IsRangeIter _ _ (lo + ((0:Nat):Int) * 1) ((((hi - lo).toNat:Nat):Int) - ((0:Nat):Int)) 1;rw [e1,e2];exact Heap.get?_push_size _ rfl
 ·have e:b=(s.heap.push { cls:=.type "range",data:=.fields #[.int lo t,.int hi u,.int 1 v] }).objs.size:=by simpa using hb
  subst e;exact I1.fpOk (Nat.le_refl _) (I1.hok.fresh (Nat.le_refl _))
def B8a (ta:TA):TI:=fun σ H R=>ta σ H fun vs H1=>∃ j:Int,vs=[.int j]/\-(2 ^ 62)<=j/\j < 2 ^ 62/\R (Itr 0 j.toNat) H1
def B79 (ta:TA):TI:=fun σ H R=>ta σ H fun vs H1=>∃ i j:Int,vs=[.int i,.int j]/\(-(2 ^ 62)<=i/\i < 2 ^ 62/\-(2 ^ 62)<=j/\j < 2 ^ 62)/\R (Itr i (j - i).toNat) H1
theorem A03 {a:Expr} {ta:TA} {p pos:Pos} (hg:Gl X "range") (hm:X.mg "range"=none) (ha:PA X [a] ta) (hs:starEach [a] X.env=[(false,eval a X.env)]:=by rfl):PI X tg (.Call (.Name "range" p) [a] [] pos) (B8a ta):=by
 intro pins s σ H R I h;refine Call_ (V2 I hg hm boot_range (PyProof.Rows.callWith_type1 (thn (ha pos pins s σ H _ I h) fun us s1 ⟨vs,H1,I1,r1,q1⟩=>?_) hs rfl));obtain ⟨j,e,q1,q2,q⟩:=q1;subst e;cases r1 with
 | cons r rr =>
  cases rr;obtain ⟨t,rfl⟩:=r;exact call_range_1 (A3k I1 (by omega) (by omega) q1 q2 (by simpa using q))
theorem A7c {a b:Expr} {ta:TA} {p pos:Pos} (hg:Gl X "range") (hm:X.mg "range"=none) (ha:PA X [a,b] ta) (hs:starEach [a,b] X.env=[(false,eval a X.env),(false,eval b X.env)]:=by rfl) (hs2:starEach [b] X.env=[(false,eval b X.env)]:=by rfl) :
  PI X tg (.Call (.Name "range" p) [a,b] [] pos) (B79 ta):=by
 intro pins s σ H R I h;refine Call_ (V2 I hg hm boot_range (PyProof.Rows.callWith_type1 (thn (ha pos pins s σ H _ I h) fun us s1 ⟨vs,H1,I1,r1,q1⟩=>?_) (by rw [hs,hs2]) (by rw [hs2]; rfl)));obtain ⟨i,j,e,⟨q1,q2,q3,q4⟩,q⟩:=q1;subst e;cases r1 with
 | cons r rr =>
  cases rr with
  | cons r' rr =>
   cases rr;obtain ⟨t,rfl⟩:=r;obtain ⟨t',rfl⟩:=r';exact call_range_2 (A3k I1 q1 q2 q3 q4 q)
def tFor (wi:TI) (g:TG) (tb:TS):TS:=fun D σ H=>wi σ H fun J H1=>∃ W:Nat->Nat->St->Hp->Prop,(∃ m,W 0 m σ H1)/\∀ i m σ H,W i m σ H ->
 (J.stop i H/\D.nx σ H)\/(J.go i H/\∃ N:St->Hp->Prop,(∀ σ' H',N σ' H'->∃ m',m' < m/\W (i + 1) m' σ' H')/\∀ x H',J.yld i H x H'->g x σ H' fun σ2 H2=>tb { D with nx:=N,ct:=N,bk:=D.nx } σ2 H2)
def A02 (fp:List Addr) (h:Heap):List (Addr × Obj):=fp.filterMap fun b=>(h.get? b).map fun o=>(b,o)
theorem O7 {fp:List Addr} {h:Heap} {b:Addr} {o:Obj} (hb:b ∈ fp) (e:h.get? b=some o):(b,o) ∈ A02 fp h:=List.mem_filterMap.mpr ⟨b,hb,by rw [e]; rfl⟩
theorem A8m {fp:List Addr} {h:Heap} {p:Addr × Obj} (hp:p ∈ A02 fp h):p.1 ∈ fp/\h.get? p.1=some p.2:=by
 obtain ⟨b,hb,e⟩:=List.mem_filterMap.mp hp;cases q:h.get? b with
 | none=>rw [q] at e; cases e
 | some o =>
  rw [q] at e;have e':(b,o)=p:=Option.some.inj e;subst e';exact ⟨hb,q⟩
theorem Inv.pinned {pins:List (Addr × Obj)} {σ:St} {H:Hp} {s:Shared} {fp:List Addr} (I:Inv X pins σ H s) (hf:∀ b ∈ fp,FpOk X pins H b) (ho:∀ b ∈ fp,∃ o,s.heap.get? b=some o/\∀ v,o.data≠.cell v):Inv X (pins++A02 fp s.heap) σ H s :=
 I.pins_of fun p hp=>(List.mem_append.mp hp).elim (fun z=>I.pin p (List.mem_append_right _ z)) fun z=>by
  obtain ⟨hb,e⟩:=A8m z;obtain ⟨f0,f1,f2,_⟩:=hf p.1 hb;obtain ⟨o,e',d⟩:=ho p.1 hb;rw [e] at e'; cases e';exact ⟨e,f0,f1,f2,d⟩
theorem Inv.unpinned {pins pl:List (Addr × Obj)} {σ:St} {H:Hp} {s:Shared} (I:Inv X (pins++pl) σ H s):Inv X pins σ H s:=I.pins_of fun p hp=>I.pin p (List.mem_append_right _ (List.mem_append_left _ hp))
theorem B3o {iter:Expr} {body:List Stmt} {wi:TI} {g:TG} {tb:TS} {pos:Pos} (hp:PassesOwn (model X.prog X.w) X.A X.env X.xe) (hc:X.calm=true) (hi:PI X tg iter wi) (hg:PG X tg g) (hb:PSs X body tb)
  (hs:∀ x,foldedSetIterable iter X.env x=pure x:=by intro _; rfl):PS X (.For tg iter body [] pos) (tFor wi g tb):=by
 intro pins s σ H D I h;refine wpAny_For (thn (hi pins s σ H _ I h) fun v s1 h1=>thn h1 fun itv s2 h2=>?_) hs;obtain ⟨it,fp,tn,J,H2,e,I2,T,st2,f2,W,⟨m0,w0⟩,turn⟩:=h2;subst e;have stat:∀ {H':Hp},(∀ b ∈ fp,H' b=none)->∀ b ∈ fp,FpOk X pins H' b:=fun hn b hb=>⟨hn b hb,(f2 b hb).2⟩;refine codeAny_forLoop_any (fun n s'=>∃ i σ' H',Inv X pins σ' H' s'/\tn i s'.heap/\(∀ b ∈ fp,H' b=none)/\W i n σ' H') ?_ m0 ⟨0,σ,H2,I2,st2,fun b hb=>(f2 b hb).1,w0⟩;rintro n s3 ⟨i,σ3,H3,I3,st3,fr3,w3⟩;rcases turn i n σ3 H3 w3 with ⟨stop,qn⟩ | ⟨go,N,hN,step⟩
 ·refine wpAny_passesOwn hp (thn (T.done X rfl rfl rfl hc i pins s3 σ3 H3 X.xe I3 (stat fr3) st3 stop) fun r s4 ⟨hr,I4⟩=>?_);subst hr;exact wpAny_execs_nil ⟨σ3,H3,I4,qn⟩
 ·refine wpAny_passesOwn hp (thn (T.item X rfl rfl rfl hc i pins s3 σ3 H3 X.xe I3 (stat fr3) st3 go) fun r s4 ⟨u,hr,h4⟩=>?_);subst hr;refine wpAny_passesOwn hp (thn h4 fun _ s5 ⟨x,H5,I5,r5,y5,st5,fr5⟩=>?_);have I5':=I5.pinned (stat fr5) (T.obj _ _ st5);refine wpAny_passesOwn hp (thn (hg _ s5 σ3 H5 x u _ I5' r5 (step x H5 y5)) fun _ s6 ⟨σ6,H6,I6,q6⟩=>?_);refine wpAny_passesOwn hp (thn (hb _ s6 σ6 H6 _ I6 q6) fun f s7 q7=>?_);have again:∀ {σ7:St} {H7:Hp},Inv X (pins++A02 fp s5.heap) σ7 H7 s7->N σ7 H7->∃ m,m < n/\∃ i σ' H',Inv X pins σ' H' s7/\tn i s7.heap/\(∀ b ∈ fp,H' b=none)/\W i m σ' H':=fun {σ7 H7} I7 n7=>by
   obtain ⟨m',hm,w7⟩:=hN σ7 H7 n7;refine ⟨m',hm,i + 1,σ7,H7,I7.unpinned,T.keep _ _ _ st5 fun b hb o e=>(I7.pin (b,o) (List.mem_append_right _ (List.mem_append_right _ (O7 hb e)))).1,fun b hb=>?_,w7⟩;obtain ⟨o,e,d⟩:=T.obj _ _ st5 b hb;exact (I7.pin (b,o) (List.mem_append_right _ (List.mem_append_right _ (O7 hb e)))).2.1
  cases f with
  | next=>obtain ⟨σ7,H7,I7,n7⟩:=q7; exact again I7 n7
  | cont=>obtain ⟨σ7,H7,I7,n7⟩:=q7; exact again I7 n7
  | brk=>obtain ⟨σ7,H7,I7,q7⟩:=q7; exact ⟨σ7,H7,I7.unpinned,q7⟩
  | ret v=>obtain ⟨x7,σ7,H7,I7,r7,q7⟩:=q7; exact ⟨x7,σ7,H7,I7.unpinned,r7,q7⟩
end
theorem B0q {lo:Int} {n:Nat} {g:TG} {tb:TS} {D:Ends} {σ:St} {H:Hp} (Pv:Nat->St->Hp->Prop) (h0:Pv 0 σ H)
  (hs:∀ i σ H,i < n->Pv i σ H->g (.int (lo + i)) σ H fun σ2 H2=>tb { D with nx:=Pv (i + 1),ct:=Pv (i + 1),bk:=D.nx } σ2 H2) (hd:∀ σ H,Pv n σ H->D.nx σ H) :
  ∃ W:Nat->Nat->St->Hp->Prop,(∃ m,W 0 m σ H)/\∀ i m σ H,W i m σ H ->
   ((Itr lo n).stop i H/\D.nx σ H)\/((Itr lo n).go i H/\∃ N:St->Hp->Prop,(∀ σ' H',N σ' H'->∃ m',m' < m/\W (i + 1) m' σ' H')/\∀ x H',(Itr lo n).yld i H x H'->g x σ H' fun σ2 H2=>tb { D with nx:=N,ct:=N,bk:=D.nx } σ2 H2):=by
 refine ⟨fun i m σ H=>m=n - i/\i<=n/\Pv i σ H,⟨n,by simp,Nat.zero_le _,h0⟩,?_⟩;rintro i m σ H ⟨rfl,hi,p⟩;by_cases hlt:i < n
 ·refine .inr ⟨hlt,Pv (i + 1),fun σ' H' p'=>⟨n - (i + 1),by omega,rfl,hlt,p'⟩,fun x H' y=>?_⟩;obtain ⟨e,y⟩:=y;subst e y;exact hs i σ _ hlt p
 ·have e:i=n:=by omega
  subst e;exact .inl ⟨Nat.le_refl _,hd σ H p⟩
end L2
namespace L2
open PySem PySem.Spec PyProof.Rows
abbrev R2:=V->V->Hp->VK->Prop
def OpR (X:Cx) (f:Value->Value->Sem Value) (r:R2):Prop :=
 ∀ (pins:List (Addr × Obj)) (s:Shared) (σ:St) (H:Hp) (x y:V) (v u:Value) (Q:VK),Inv X pins σ H s->RelV x v->RelV y u->r x y H Q ->
  wpAny (model X.prog X.w) X.A (f v u) (EP X pins σ Q) X.xe s
def UnR (X:Cx) (f:Value->Sem Value) (r:V->Hp->VK->Prop):Prop :=
 ∀ (pins:List (Addr × Obj)) (s:Shared) (σ:St) (H:Hp) (x:V) (v:Value) (Q:VK),Inv X pins σ H s->RelV x v->r x H Q ->
  wpAny (model X.prog X.w) X.A (f v) (EP X pins σ Q) X.xe s
def CallR (X:Cx) (f:Value) (r:List V->Hp->VK->Prop):Prop :=
 ∀ (pins:List (Addr × Obj)) (s:Shared) (σ:St) (H:Hp) (xs:List V) (us:List Value) (Q:VK),Inv X pins σ H s->Vals xs us->r xs H Q ->
  wpAny (model X.prog X.w) X.A (call f us) (EP X pins σ Q) X.xe s
def tOp (r:R2) (ta tb:TE):TE:=fun σ H Q=>ta σ H fun x H1=>tb σ H1 fun y H2=>r x y H2 Q
def tUn (r:V->Hp->VK->Prop) (ta:TE):TE:=fun σ H Q=>ta σ H fun x H1=>r x H1 Q
def rI (C:Int->Int->Prop) (g:Int->Int->V):R2:=fun x y H Q=>∃ i j,x=.int i/\y=.int j/\C i j/\Q (g i j) H
def rI0 (g:Int->Int->V):R2:=fun x y H Q=>∃ i j,x=.int i/\y=.int j/\Q (g i j) H
def rU (g:Int->V):V->Hp->VK->Prop:=fun x H Q=>∃ i,x=.int i/\Q (g i) H
section
variable {X:Cx} {a b c:Expr} {ta tb tc:TE} {pos:Pos}
theorem binT (ha:PE X a ta) (hb:PE X b tb) {pins:List (Addr × Obj)} {s:Shared} {σ:St} {H:Hp} {R:V->V->Hp->Prop} (I:Inv X pins σ H s)
  (h:ta σ H fun x H1=>tb σ H1 fun y H2=>R x y H2) {Q:Value->Shared->Prop} {f:Value->Value->Sem Value}
  (hf:∀ v u s2 x y H2,Inv X pins σ H2 s2->RelV x v->RelV y u->R x y H2->wpAny (model X.prog X.w) X.A (f v u) Q X.xe s2) :
  wpAny (model X.prog X.w) X.A (eval a X.env) (fun v s₁=>wpAny (model X.prog X.w) X.A (eval b X.env) (fun u s₂=>wpAny (model X.prog X.w) X.A (f v u) Q X.xe s₂) X.xe s₁) X.xe s:=by
 refine thn (ha pins s σ H _ I h) fun v s1 ⟨x,H1,I1,r1,q1⟩=>?_;refine thn (hb pins s1 σ H1 _ I1 q1) fun u s2 ⟨y,H2,I2,r2,q2⟩=>?_;exact hf v u s2 x y H2 I2 r1 r2 q2
theorem L9 {op:Operator} {r:R2} (ho:OpR X (binaryOp op) r) (ha:PE X a ta) (hb:PE X b tb):PE X (.BinOp a op b pos) (tOp r ta tb):=by
 intro pins s σ H Q I h;exact wpAny_BinOp (binT ha hb I h fun v u s2 x y H2 I2 rx ry q=>ho pins s2 σ H2 x y v u Q I2 rx ry q)
theorem C21 {op:UnaryOp} {r:V->Hp->VK->Prop} (ho:UnR X (unaryOp op) r) (ha:PE X a ta):PE X (.UnaryOp op a pos) (tUn r ta):=by
 intro pins s σ H Q I h;exact UnaryOp_ (thn (ha pins s σ H _ I h) fun v s1 ⟨x,H1,I1,r1,q1⟩=>ho pins s1 σ H1 x v Q I1 r1 q1)
theorem opI {f:Value->Value->Sem Value} {C:Int->Int->Prop} {g:Int->Int->Int}
  (rule:∀ (i j:Int) (t u:Tok) (s:Shared) (Q:Value->Shared->Prop) (E:Value->Shared->Prop),C i j->Q (.int (g i j) s.toks) { s with toks:=s.toks + 1 }->wpAny (model X.prog X.w) X.A (f (.int i t) (.int j u)) Q E s) :
  OpR X f (rI C fun i j=>.int (g i j)):=by
 intro pins s σ H x y v u Q I rx ry h;obtain ⟨i,j,rfl,rfl,hc,q⟩:=h;obtain ⟨t,rfl⟩:=rx;obtain ⟨t',rfl⟩:=ry;exact rule i j t t' s _ _ hc ⟨.int (g i j),H,I.tok _,⟨_,rfl⟩,q⟩
theorem opI0 {f:Value->Value->Sem Value} {g:Int->Int->Int}
  (rule:∀ (i j:Int) (t u:Tok) (s:Shared) (Q:Value->Shared->Prop) (E:Value->Shared->Prop),Q (.int (g i j) s.toks) { s with toks:=s.toks + 1 }->wpAny (model X.prog X.w) X.A (f (.int i t) (.int j u)) Q E s) :
  OpR X f (rI0 fun i j=>.int (g i j)):=by
 intro pins s σ H x y v u Q I rx ry h;obtain ⟨i,j,rfl,rfl,q⟩:=h;obtain ⟨t,rfl⟩:=rx;obtain ⟨t',rfl⟩:=ry;exact rule i j t t' s _ _ ⟨.int (g i j),H,I.tok _,⟨_,rfl⟩,q⟩
theorem opB0 {f:Value->Value->Sem Value} {g:Int->Int->Bool}
  (rule:∀ (i j:Int) (t u:Tok) (s:Shared) (Q:Value->Shared->Prop) (E:Value->Shared->Prop),Q (.bool (g i j)) s->wpAny (model X.prog X.w) X.A (f (.int i t) (.int j u)) Q E s) :
  OpR X f (rI0 fun i j=>.bl (g i j)):=by
 intro pins s σ H x y v u Q I rx ry h;obtain ⟨i,j,rfl,rfl,q⟩:=h;obtain ⟨t,rfl⟩:=rx;obtain ⟨t',rfl⟩:=ry;exact rule i j t t' s _ _ ⟨.bl (g i j),H,I,rfl,q⟩
def CPow (i j:Int):Prop:=0<=j/\j<=1000000/\i.natAbs < 2 ^ 64
theorem G6:OpR X (binaryOp .Add) (rI0 fun i j=>.int (i + j)):=opI0 fun _ _ _ _ _ _ _ q=>add_int q
theorem N9:OpR X (binaryOp .Sub) (rI0 fun i j=>.int (i - j)):=opI0 fun _ _ _ _ _ _ _ q=>sub_int q
theorem P1:OpR X (binaryOp .Mod) (rI (fun _ j=>0 < j) fun i j=>.int (i % j)):=opI fun i j _ _ _ _ _ hc q=>by
 have h1:(0:Int) < j:=hc;exact mod_int' (by omega) (by rw [Int.fmod_eq_emod_of_nonneg i (by omega)]; exact q)
theorem U6:OpR X (binaryOp .Pow) (rI CPow fun i j=>.int (i ^ j.toNat)):=opI fun _ _ _ _ _ _ _ hc q=>pow_int_small hc.1 hc.2.1 hc.2.2 q
theorem unI {f:Value->Sem Value} {g:Int->Int}
  (rule:∀ (i:Int) (t:Tok) (s:Shared) (Q:Value->Shared->Prop) (E:Value->Shared->Prop),Q (.int (g i) s.toks) { s with toks:=s.toks + 1 }->wpAny (model X.prog X.w) X.A (f (.int i t)) Q E s) :
  UnR X f (rU fun i=>.int (g i)):=by
 intro pins s σ H x v Q I rx h;obtain ⟨i,rfl,q⟩:=h;obtain ⟨t,rfl⟩:=rx;exact rule i t s _ _ ⟨.int (g i),H,I.tok _,⟨_,rfl⟩,q⟩
theorem A54:UnR X (unaryOp .USub) (rU fun i=>.int (-i)):=unI fun _ _ _ _ _ q=>neg_int q
end
section
variable {X:Cx} {a b c:Expr} {ta tb tc:TE} {pos:Pos}
theorem C1t {pins:List (Addr × Obj)} {σ:St} {H:Hp} {s:Shared} {Q:VK} {k k':Bool} (I:Inv X pins σ H s) (q:Q (.bl k) H) (e:k=k'):EP X pins σ Q (.bool k') s:=by
 subst e;exact ⟨.bl k,H,I,rfl,q⟩
theorem A5m:OpR X (compareOp .Lt) (rI0 fun i j=>.bl (decide (i < j))):=opB0 fun _ _ _ _ _ _ _ q=>lt_int q
theorem C29:OpR X (compareOp .LtE) (rI0 fun i j=>.bl (decide (i<=j))):=opB0 fun _ _ _ _ _ _ _ q=>le_int q
theorem U7:OpR X (compareOp .Gt) (rI0 fun i j=>.bl (decide (j < i))):=opB0 fun _ _ _ _ _ _ _ q=>gt_int q
theorem C0s:OpR X (compareOp .GtE) (rI0 fun i j=>.bl (decide (j<=i))):=opB0 fun _ _ _ _ _ _ _ q=>ge_int q
theorem C0q:OpR X (compareOp .Is) (fun x y H Q=>y=.non/\Q (.bl (decide (x=.non))) H):=by
 intro pins s σ H x y v u Q I rx ry h;obtain ⟨rfl,q⟩:=h;cases ry;refine is_none_gen (C1t I q ?_);cases x <;> first
  | (cases rx; rfl)
  | (obtain ⟨t,rfl⟩:=rx; rfl)
theorem D4 (b:Expr) {op:CmpOp} (h:op≠.In:=by decide) (h2:op≠.NotIn:=by decide):behindInMarks op b=false:=by
 have e1:(op == CmpOp.In)=false:=by cases op <;> first | rfl | exact absurd rfl h
 have e2:(op == CmpOp.NotIn)=false:=by cases op <;> first | rfl | exact absurd rfl h2
 cases b <;> simp [behindInMarks,e1,e2]
theorem Z7 {op:CmpOp} {r:R2} (ho:OpR X (compareOp op) r) (ha:PE X a ta) (hb:PE X b tb) (hm:behindInMarks op b=false):PE X (.Compare a [op] [b] pos) (tOp r ta tb):=by
 intro pins s σ H Q I h;exact wpAny_Compare1 (binT ha hb I h fun v u s2 x y H2 I2 rx ry q=>ho pins s2 σ H2 x y v u Q I2 rx ry q) hm
def B52 (t:TE):TT:=fun σ H Q=>t σ H fun x H'=>∃ k,x=.bl k/\Q k H'
theorem A60 {op:CmpOp} {r:R2} (ho:OpR X (compareOp op) r) (ha:PE X a ta) (hb:PE X b tb) (hm:behindInMarks op b=false):PT X (.Compare a [op] [b] pos) (B52 (tOp r ta tb)):=by
 intro pins s σ H Q I h;refine wpAny_isTrue_Compare1 (thn (ha pins s σ H _ I h) fun v s1 ⟨x,H1,I1,r1,q1⟩=>thn (hb pins s1 σ H1 _ I1 q1) fun u s2 ⟨y,H2,I2,r2,q2⟩ =>
  thn (ho pins s2 σ H2 x y v u _ I2 r1 r2 q2) fun c s3 ⟨z,H3,I3,r3,k,e,q3⟩=>?_) hm
 subst e;cases r3;exact wpAny_truthy_bool ⟨H3,I3,q3⟩
def A6g (r r':R2) (ta tb tc:TE):TE:=fun σ H Q=>ta σ H fun x H1=>tb σ H1 fun y H2=>r x y H2 fun z H3=>∃ k,z=.bl k /\
 (if k=true then tc σ H3 fun w' H4=>r' y w' H4 Q else Q (.bl false) H3)
theorem B2b {op op':CmpOp} {r r':R2} (ho:OpR X (compareOp op) r) (ho':OpR X (compareOp op') r') (ha:PE X a ta) (hb:PE X b tb) (hc:PE X c tc)
  (hm:lastMarks [op,op'] [b,c]=false:=by with_unfolding_all rfl):PE X (.Compare a [op,op'] [b,c] pos) (A6g r r' ta tb tc):=by
 intro pins s σ H Q I h;refine Compare_chain (thn (ha pins s σ H _ I h) fun v s1 ⟨x,H1,I1,r1,q1⟩=>chain_link (thn (hb pins s1 σ H1 _ I1 q1) fun u s2 ⟨y,H2,I2,r2,q2⟩ =>
  thn (ho pins s2 σ H2 x y v u _ I2 r1 r2 q2) fun d s3 ⟨z,H3,I3,r3,k,e,q3⟩=>?_)) hm
 subst e;cases r3;refine wpAny_truthy_bool ?_;cases k with
 | false=>exact ite_ff ⟨.bl false,H3,I3,rfl,q3⟩
 | true=>exact ite_tt (chain_last (thn (hc pins s3 σ H3 _ I3 q3) fun w' s4 ⟨z',H4,I4,r4,q4⟩=>ho' pins s4 σ H4 y z' u w' Q I4 r2 r4 q4))
theorem X5:(sizeLine:Nat) < 2 ^ 63:=by rw [sizeLine_eq]; decide
theorem A52 {x:V} {us:List Value} (r:Vals [x] us):∃ u,us=[u]/\RelV x u:=by
 cases r with
 | cons r1 r2=>cases r2; exact ⟨_,rfl,r1⟩
theorem B8s {x y:V} {us:List Value} (r:Vals [x,y] us):∃ u w',us=[u,w']/\RelV x u/\RelV y w':=by
 cases r with
 | cons r1 r2 =>
  cases r2 with
  | cons r3 r4=>cases r4; exact ⟨_,_,rfl,r1,r3⟩
theorem B21:CallR X (.builtin "abs") (fun xs H Q=>∃ i,xs=[.int i]/\Q (.int (if i < 0 then -i else i)) H):=by
 intro pins s σ H xs us Q I r h;obtain ⟨i,rfl,q⟩:=h;obtain ⟨u,rfl,t,rfl⟩:=A52 r;exact call_abs_int fun u tk=>⟨.int (if i < 0 then -i else i),H,I.tok _,⟨_,rfl⟩,q⟩
theorem B05 (hc:X.calm=true):CallR X (.builtin "max") (fun xs H Q=>∃ i j,xs=[.int i,.int j]/\Q (.int (if j > i then j else i)) H):=by
 intro pins s σ H xs us Q I r h;obtain ⟨i,j,rfl,q⟩:=h;obtain ⟨u,w',rfl,⟨t,rfl⟩,⟨t',rfl⟩⟩:=B8s r;refine max_two_ints (I.ok.hd hc) fun h' tk k=>⟨_,H,I.kept k,?_,q⟩;by_cases hj:j > i
 ·rw [if_pos hj,if_pos hj]; exact ⟨_,rfl⟩
 ·rw [if_neg hj,if_neg hj]; exact ⟨_,rfl⟩
theorem B04 (hc:X.calm=true):CallR X (.builtin "min") (fun xs H Q=>∃ i j,xs=[.int i,.int j]/\Q (.int (if j < i then j else i)) H):=by
 intro pins s σ H xs us Q I r h;obtain ⟨i,j,rfl,q⟩:=h;obtain ⟨u,w',rfl,⟨t,rfl⟩,⟨t',rfl⟩⟩:=B8s r;refine min_two_ints (I.ok.hd hc) fun h' tk k=>⟨_,H,I.kept k,?_,q⟩;by_cases hj:j < i
 ·rw [if_pos hj,if_pos hj]; exact ⟨_,rfl⟩
 ·rw [if_neg hj,if_neg hj]; exact ⟨_,rfl⟩
theorem B06:CallR X (.type "int") (fun xs H Q=>(∃ i,xs=[.int i]/\Q (.int i) H)\/∃ k,xs=[.bl k]/\Q (.int (if k then 1 else 0)) H):=by
 intro pins s σ H xs us Q I r h;rcases h with ⟨i,rfl,q⟩ | ⟨k,rfl,q⟩
 ·obtain ⟨u,rfl,t,rfl⟩:=A52 r;exact call_int_int ⟨.int i,H,I,⟨_,rfl⟩,q⟩
 ·obtain ⟨u,rfl,r1⟩:=A52 r;cases r1;exact call_int_bool ⟨.int (if k then 1 else 0),H,I.tok _,⟨_,rfl⟩,q⟩
end
end L2
namespace L2
open PySem PySem.Spec PyProof.Rows
section
variable {prog:Program} {w:World} {A:Around} {E:Value->Shared->Prop} {s:Shared} {K:PySem.W.Frag} {x dx C f:Addr} {mA:Str->Option Value} {name:Str} {v:Value}
end
theorem RelO.some_of {v:V} {o:Option Value} (r:RelO (some v) o):∃ u,o=some u/\RelV v u:=by
 cases o with
 | none=>exact (show False from r).elim
 | some u=>exact ⟨u,rfl,r⟩
theorem RelO.none_of {o:Option Value} (r:RelO none o):o=none:=by
 cases o with
 | none=>rfl
 | some u=>exact (show False from r).elim
section
variable {P:Program} {w:World} {H H':Hp} {h h':Heap} {a C dx:Addr} {fs fs':List (Str × V)}
end
structure Cls (K:PySem.W.Frag) (C:Addr):Prop where
 pg:PySem.W.plainGet K C Str.empty=true
 hd:PySem.W.hasDictIn K C=true
 po:PySem.W.plainOver K C=true
 sa:PySem.W.findIn K (.ref C) "__setattr__"=some (some (.builtin "object.__setattr__"))
theorem Cls.get {K:PySem.W.Frag} {C:Addr} (c:Cls K C) (f:Str):PySem.W.plainGet K C f=true:=c.pg
section
variable {X:Cx} {pins:List (Addr × Obj)} {σ:St} {H:Hp} {s:Shared} {a C dx:Addr} {fs:List (Str × V)} {f:Str} {v:V} {A:Around} {E:Value->Shared->Prop}
end
section
variable {X:Cx} {o e value:Expr} {f:Str} {pos pos' tpos:Pos} {ta tv:TE}
end
section
variable {X:Cx} {pins:List (Addr × Obj)} {σ:St} {H:Hp} {s:Shared} {A:Around} {E:Value->Shared->Prop} {Q:Value->Shared->Prop} {c:Value} {b:Bool}
end
end L2
namespace L2
open PySem PySem.Spec PyProof.Rows
structure Room (k:Nat) (A:Around):Prop where
 hd:A.handled=none
 gd:A.guards=some []
 dp:A.depth + 3 * k + 5 < recursionLimit
 un:A.units + 16 * k + 200 < cLine
theorem Room.mono {j k:Nat} {A:Around} (r:Room k A) (h:j<=k):Room j A:=⟨r.hd,r.gd,by have:=r.dp; omega,by have:=r.un; omega⟩
theorem Room.mo {j k:Nat} {A:Around} (r:Room k A) (h:j<=k:=by first | decide | omega):Room j A:=r.mono h
theorem Room.deeper {k:Nat} {A:Around} (r:Room (k + 1) A) (env:Env):Room k (A.deeper env) :=
 ⟨r.hd,r.gd,by have:=r.dp; show A.depth + 1 + 3 * k + 5 < _; omega,by have:=r.un; show A.units + 3 + 16 * k + 200 < _; omega⟩
theorem Room.depth {k:Nat} {A:Around} (r:Room k A):A.depth < recursionLimit:=by have:=r.dp; omega
theorem Room.units {k:Nat} {A:Around} (r:Room k A):A.units + 64 < cLine:=by have:=r.un; omega
def tNil:TA:=fun _ H Q=>Q [] H
def N2 (ta:TE) (tr:TA):TA:=fun σ H Q=>ta σ H fun x H1=>tr σ H1 fun xs H2=>Q (x :: xs) H2
section
variable {X:Cx} {e:Expr} {es:List Expr} {te:TE} {t:TA} {pos:Pos}
theorem X2:PA X [] tNil:=fun _ _ _ _ H Q I h=>Calls.spliced_nil ⟨[],H,I,.nil,h⟩
theorem P5 (ha:PE X e te) (hr:PA X es t) (hs:starEach (e :: es) X.env=(false,eval e X.env) :: starEach es X.env:=by rfl):PA X (e :: es) (N2 te t):=by
 intro pos pins s σ H Q I h;rw [hs];show wpAny _ _ (spliced ((false,eval e X.env) :: backTo pos (starEach es X.env))) _ _ s;refine Calls.spliced_cons (thn (ha pins s σ H _ I h) fun u s1 ⟨x,H1,I1,r1,q1⟩=>?_);exact thn (hr pos pins s1 σ H1 _ I1 q1) fun us s2 ⟨xs,H2,I2,r2,q2⟩=>⟨x :: xs,H2,I2,.cons r1 r2,q2⟩
def tTup (t:TA):TE:=fun σ H Q=>t σ H fun xs H1=>xs.length<=sizeLine/\∀ p,H1 p=none->Q (.ref p) (upd H1 p (.tup xs))
def tLst (t:TA):TE:=fun σ H Q=>t σ H fun xs H1=>xs.length<=sizeLine/\∀ p,H1 p=none->Q (.ref p) (upd H1 p (.lst xs))
theorem B9k {x1} (h:PA X es t):PE X (.Tuple es x1 pos) (tTup t):=by
 intro pins s σ H Q I hq;refine wpAny_Tuple_spliced (thn (h pos pins s σ H _ I hq) fun us s1 ⟨xs,H1,I1,r,z,q⟩=>⟨by rw [<- r.length]; exact z,?_⟩);have hf:H1 s1.heap.objs.size=none:=I1.hok.fresh (Nat.le_refl _);refine ⟨.ref s1.heap.objs.size,upd H1 s1.heap.objs.size (.tup xs),I1.laid (t':=s1.toks) (fun b u e=>Heap.get?_push_of_some _ e) (Nat.le_refl _) ?_,rfl,q _ hf⟩;exact ⟨z,us,r,⟨_,Heap.get?_push_size _ rfl,rfl,_,rfl⟩⟩
theorem A7e (h:PA X es t):PE X (.List es pos) (tLst t):=by
 intro pins s σ H Q I hq;refine wpAny_List_spliced (thn (h pos pins s σ H _ I hq) fun us s1 ⟨xs,H1,I1,r,z,q⟩=>⟨by rw [<- r.length]; exact z,?_⟩);have hf:H1 s1.heap.objs.size=none:=I1.hok.fresh (Nat.le_refl _);refine ⟨.ref s1.heap.objs.size,upd H1 s1.heap.objs.size (.lst xs),I1.laid (t':=s1.toks) (fun b u e=>Heap.get?_push_of_some _ e) (Nat.le_refl _) ?_,rfl,q _ hf⟩;exact ⟨z,us,0,r,Heap.get?_push_size _ rfl⟩
end
abbrev Sp:=List V->Hp->VK->XK->Prop
abbrev CXT:=List Env->Hp->Shared->XK->Value->Shared->Prop
structure Env0 (P:Program) (w:World) (K:PySem.W.Frag) (mg:Str->Option Value) (base:Heap) (A:Around) (outer:List Env) (s:Shared) (H:Hp):Prop where
 frames:A.frames=some outer
 mod:Mod K mg base
 bs:∀ b o,base.get? b=some o->s.heap.get? b=some o/\H b=none
 bsz:base.objs.size<=s.heap.objs.size
 funs:s.heap.FunFrames base outer
 frf:∀ b ∈ frs outer,H b=none
 hok:HOk P w H s.heap
 bare:AllBare s.gens
def CE (outer:List Env) (P:Program) (w:World) (H:Hp) (s:Shared) (Q:VK) (u:Value) (s':Shared):Prop :=
 ∃ v H',s'.os=s.os/\AllBare s'.gens/\Un (frs outer) [] H H' s.heap s'.heap/\HOk P w H' s'.heap/\RelV v u/\Q v H'
def CR (CX:CXT) (outer:List Env) (P:Program) (w:World) (H:Hp) (s:Shared) (Q:VK) (E:XK) (r:Result) (s':Shared):Prop :=
 match r with
 | .ok (.ret u)=>CE outer P w H s Q u s'
 | .ok _=>False
 | .error e=>CX outer H s E e s'
structure FnOk (P:Program) (w:World) (K:PySem.W.Frag) (mg:Str->Option Value) (base:Heap) (CX:CXT) (k:Nat) (f:Addr) (fd:FuncData) (ps:List Str) (sp:Sp):Prop where
 len:∀ vs H Q E,sp vs H Q E->vs.length=ps.length
 run:∀ (A:Around) (outer:List Env) (s:Shared) (H:Hp) (args:Args) (us:List Value) (vs:List V) (Q:VK) (E:XK),Room k A->Env0 P w K mg base A outer s H->BindsTo s fd args (ps.zip us)->Vals vs us->sp vs H Q E ->
  codeAny (model P w) A (.call (.ref f) args) (CR CX outer P w H s Q E) s
theorem FnOk.imp {P:Program} {w:World} {K:PySem.W.Frag} {mg:Str->Option Value} {base:Heap} {CX:CXT} {k:Nat} {f:Addr} {fd:FuncData} {ps:List Str} {sp sp':Sp} (F:FnOk P w K mg base CX k f fd ps sp)
  (h:∀ vs H Q E,sp' vs H Q E->sp vs H Q E):FnOk P w K mg base CX k f fd ps sp' :=
 ⟨fun vs H Q E q=>F.len vs H Q E (h _ _ _ _ q),fun A outer s H args us vs Q E hr he hb hv hs=>F.run A outer s H args us vs Q E hr he hb hv (h _ _ _ _ hs)⟩
section
variable {X:Cx} {pins:List (Addr × Obj)} {σ:St} {H:Hp} {s s':Shared}
theorem Inv.env0 (I:Inv X pins σ H s):Env0 X.prog X.w X.K X.mg X.base X.A X.stack s H :=
 ⟨I.ok.frames,I.ok.mod,I.bs,Nat.le_trans I.ok.bsz I.sz,I.stack,I.stkFree,I.hok,I.bare⟩
theorem Inv.after {Q:VK} {u:Value} (I:Inv X pins σ H s) (h:CE X.stack X.prog X.w H s Q u s'):EP X pins σ Q u s':=by
 obtain ⟨v,H',os,bare,un,hok,r,q⟩:=h;obtain ⟨hh,g,d,t,os'⟩:=s';obtain rfl:os'=s.os:=os;exact ⟨v,H',I.call (h':=hh) (g':=g) (d':=d) (t':=t) (ch:=[]) un hok bare (fun b z=>absurd z (by simp)),r,q⟩
end
def A6h (sp:Sp) (dvs:List V) (E:XK) (t:TA):TE:=fun σ H Q=>t σ H fun vs H1=>sp (vs++dvs) H1 Q E
def Binds (K:PySem.W.Frag) (fd:FuncData) (ps:List Str) (ds:List Value):Prop :=
 ∀ (s:Shared) (us:List Value),K.In s.heap->(us++ds).length=ps.length->BindsTo s fd ⟨us,[]⟩ (ps.zip (us++ds))
theorem Binds.all {K:PySem.W.Frag} {fd:FuncData} {ps:List Str} (h:∀ us:List Value,us.length=ps.length->bindArgs fd ⟨us,[]⟩=pure (ps.zip us)):Binds K fd ps []:=fun s us _ hl=>by
 rw [List.append_nil] at hl ⊢;exact .of_eq (h us hl)
def A5a (CX:CXT) (X:Cx) (E:XK):Prop:=∀ (pins:List (Addr × Obj)) (σ:St) (H:Hp) (s:Shared) (e:Value) (s':Shared),Inv X pins σ H s->CX X.stack H s E e s'->X.xe e s'
section
variable {X:Cx} {CX:CXT} {k:Nat} {f C:Addr} {fd:FuncData} {ps:List Str} {sp:Sp} {dvs:List V} {ds:List Value} {E:XK} {x m:Str} {p pos apos:Pos} {e o:Expr} {es:List Expr} {ta:TE} {t:TA}
theorem B86 {pins:List (Addr × Obj)} {σ:St} {H:Hp} {s:Shared} {Q:VK} {us:List Value} {vs:List V} (F:FnOk X.prog X.w X.K X.mg X.base CX k f fd ps sp) (hr:Room k X.A) (hb:Binds X.K fd ps ds) (hd:Vals dvs ds) (hx:A5a CX X E)
  (I:Inv X pins σ H s) (r:Vals vs us) (h:sp (vs++dvs) H Q E):wpAny (model X.prog X.w) X.A (call (.ref f) us) (EP X pins σ Q) X.xe s:=by
 have r2:Vals (vs++dvs) (us++ds):=r.append hd;have hl:(us++ds).length=ps.length:=by rw [<- r2.length]; exact F.len _ _ _ _ h
 refine wpAny_call (codeAny_mono (F.run X.A X.stack s H ⟨us,[]⟩ (us++ds) (vs++dvs) Q E hr I.env0 (hb s us I.kIn hl) r2 h) fun r s' hq=>?_);cases r with
 | error e=>exact hx pins σ H s e s' I hq
 | ok fl =>
  cases fl with
  | ret u=>exact I.after hq
  | next=>exact False.elim hq
  | brk=>exact False.elim hq
  | cont=>exact False.elim hq
theorem B69 (F:FnOk X.prog X.w X.K X.mg X.base CX k f fd ps sp) (hr:Room k X.A) (hg:Gl X x) (hm:X.mg x=some (.ref f)) (hk:PySem.W.keepIn X.K (.ref f)=true) (hb:Binds X.K fd ps ds) (hd:Vals dvs ds) (hx:A5a CX X E)
  (ha:PA X (e :: es) t) (hdb:(x == ("__debug__":Str))=false:=by decide) (he:starEach (e :: es) X.env=(false,eval e X.env) :: starEach es X.env:=by rfl) (hpl:(backTo pos (starEach es X.env)).any (·.1)=false:=by rfl) :
  PE X (.Call (.Name x p) (e :: es) [] pos) (A6h sp dvs E t):=by
 intro pins s σ H Q I h;refine wpAny_Call_Name_kw (A9k I hg hm ?_ hdb);refine PySem.W.callWith_K (h₀:=X.base) I.ok.mod.kin hk (thn (ha pos pins s σ H _ I h) fun us s1 ⟨vs,H1,I1,r,q⟩=>⟨I1.kIn,?_⟩) he hpl;exact B86 F hr hb hd hx I1 r q
end
section
variable {X:Cx} {CX:CXT} {k:Nat} {f C:Addr} {fd:FuncData} {ps ks:List Str} {sp:Sp} {E:XK} {x m:Str} {p pos apos kpos:Pos} {e o:Expr} {es:List Expr} {kws:List Keyword} {te ta:TE} {t tk:TA} {nm:Option Str}
variable {g:List Value->List Value->List Value} {gV:List V->List V->List V}
end
structure FnScope (N P:List Str) (sc:Scope):Prop where
 kind:sc.kind=.function
 co:sc.isCoroutine=false
 gen:sc.isGenerator=false
 nd:N.Nodup
 pre:N.take P.length=P
 par:∀ x ∈ P,sc.names.lookup x=some .local\/sc.names.lookup x=some .cell
 nofree:∀ y ∈ sc.names,y.2≠.free
theorem A1z {kindOf:Str->Option NameKind} {x:Str}:∀ {binds:List (Str × Value)} {m:Str->Option Value},(∀ v,(x,v) ∉ binds)->bindL kindOf binds m x=m x
 | [],_,_=>rfl
 | (n,v) :: r,m,h=>by
  unfold bindL;rw [A1z fun w hw=>h w (List.mem_cons_of_mem _ hw)];split
  ·have:x≠n:=by rintro rfl; exact h v List.mem_cons_self
   simp [this]
  ·rfl
theorem A11 {kindOf:Str->Option NameKind} {x:Str}:∀ {binds:List (Str × Value)} {m:Str->Option Value},(∀ v,(x,v) ∉ binds)->bindC kindOf binds m x=m x
 | [],_,_=>rfl
 | (n,v) :: r,m,h=>by
  unfold bindC;rw [A11 fun w hw=>h w (List.mem_cons_of_mem _ hw)];split
  ·rfl
  ·have:x≠n:=by rintro rfl; exact h v List.mem_cons_self
   simp [this]
theorem A10 {kindOf:Str->Option NameKind} {x:Str} {v:Value}:∀ {P:List Str} {vs:List Value} {i:Nat} {m:Str->Option Value},P.Nodup->P[i]?=some x->vs[i]?=some v->kindOf x=some .local ->
  bindL kindOf (P.zip vs) m x=some v
 | [],_,_,_,_,h,_,_=>by simp at h
 | _ :: _,[],_,_,_,_,h,_=>by simp at h
 | p :: P,w :: vs,0,m,nd,h1,h2,hk=>by
  simp at h1 h2; subst h1; subst h2;show bindL kindOf ((p,w) :: P.zip vs) m p=_;unfold bindL;rw [A1z fun v hv=>(List.nodup_cons.mp nd).1 (List.of_mem_zip hv).1,if_pos hk];simp
 | p :: P,w :: vs,i + 1,m,nd,h1,h2,hk=>by
  show bindL kindOf ((p,w) :: P.zip vs) m x=_;unfold bindL;exact A10 (i:=i) (List.nodup_cons.mp nd).2 (by simpa using h1) (by simpa using h2) hk
theorem A12 {kindOf:Str->Option NameKind} {x:Str} {v:Value}:∀ {P:List Str} {vs:List Value} {i:Nat} {m:Str->Option Value},P.Nodup->P[i]?=some x->vs[i]?=some v->kindOf x≠some .local ->
  bindC kindOf (P.zip vs) m x=some v
 | [],_,_,_,_,h,_,_=>by simp at h
 | _ :: _,[],_,_,_,_,h,_=>by simp at h
 | p :: P,w :: vs,0,m,nd,h1,h2,hk=>by
  simp at h1 h2; subst h1; subst h2;show bindC kindOf ((p,w) :: P.zip vs) m p=_;unfold bindC;rw [A11 fun v hv=>(List.nodup_cons.mp nd).1 (List.of_mem_zip hv).1,if_neg hk];simp
 | p :: P,w :: vs,i + 1,m,nd,h1,h2,hk=>by
  show bindC kindOf ((p,w) :: P.zip vs) m x=_;unfold bindC;exact A12 (i:=i) (List.nodup_cons.mp nd).2 (by simpa using h1) (by simpa using h2) hk
def start (N:List Str) (vs:List V):St:=vs.map some++List.replicate (N.length - vs.length) none
def cxOf (CX:CXT) (P:Program) (w:World) (K:PySem.W.Frag) (mg:Str->Option Value) (base:Heap) (N:List Str) (qual:Str) (scope:Scope) (f:Addr) (cd:Value) (A:Around) (outer:List Env) (s:Shared) (H:Hp) (E:XK):Cx where
 prog:=P
 w:=w
 K:=K
 mg:=mg
 base:=base
 A:=A.deeper (envOfC qual scope s.heap.objs.size f cd)
 N:=N
 s₀:=s
 H₀:=H
 env:=envOfC qual scope s.heap.objs.size f cd
 outer:=outer
 stack:=envOfC qual scope s.heap.objs.size f cd :: outer
 ex:=[]
 calm:=true
 fn:=fun _=>true
 pn:=[]
 xe:=fun e s'=>wpAny (model P w) (A.deeper (envOfC qual scope s.heap.objs.size f cd)) (leaving (envOfC qual scope s.heap.objs.size f cd) e) (fun _ s''=>CX outer H s E e s'') (fun e' s''=>CX outer H s E e' s'') s'
theorem A46 {sc:Scope} {n:Nat} {x:Str} (h:sc.names.lookup x=some .cell):∃ c,(cellsFrom n sc.names []).lookup x=some c:=by
 have q:=PySem.W.cellsFrom_some sc.names n [] (.inl h);exact Option.isSome_iff_exists.mp q
theorem B0k {CX:CXT} {P:Program} {w:World} {K:PySem.W.Frag} {mg:Str->Option Value} {base:Heap} {N ps:List Str} {qual:Str} {scope:Scope} {f:Addr} {cd:Value} {A:Around} {outer:List Env} {s s1:Shared} {H:Hp} {E:XK} {us:List Value} {vs:List V}
  (S:FnScope N ps scope) (hd:A.handled=none) (e0:Env0 P w K mg base A outer s H) (hl:vs.length=ps.length) (r:Vals vs us)
  (x:InCallC s s.heap.objs.size (bindL (envOfC qual scope s.heap.objs.size f cd).kindOf (ps.zip us) fun _=>none) (cellsFrom (s.heap.objs.size + 1) scope.names []) (bindC (envOfC qual scope s.heap.objs.size f cd).kindOf (ps.zip us) fun _=>none) s1) :
  Inv (cxOf CX P w K mg base N qual scope f cd A outer s H E) [] (start N vs) H s1:=by
 have hpl:ps.length<=N.length:=by have:=congrArg List.length S.pre; rw [List.length_take] at this; omega
 obtain ⟨h1,tk,rfl,hk⟩:=x.done;have noA:∀ b:Addr,b ∉ (cxOf CX P w K mg base N qual scope f cd A outer s H E).ex:=fun b z=>absurd (show b ∈ ([]:List Addr) from z) (by simp);refine ⟨⟨e0.mod,S.kind,rfl,rfl,Nat.le_refl _,fun y z c h1 h2=>?_,fun y hy=>?_,fun y c _ h=>?_,fun _=>hd,Around.frames_deeper e0.frames,.inr ⟨rfl,rfl⟩,fun b z=>absurd z (noA b),e0.bs,e0.bsz,fun b _ _=>noA b,fun b z=>absurd z (noA b),e0.funs,e0.frf⟩,
  rfl,e0.bare,Un.kept hk,⟨_,x.toInCall.ns,fun i y v h1 h2 h3=>?_⟩,fun y c h=>⟨_,x.cell y c h⟩,e0.hok.fresh (Nat.le_refl _),fun y c h=>?_,fun p hp=>absurd (show p ∈ ([]:List (Addr × Obj)) from hp) (by simp),e0.hok.kept hk,?_⟩
 ·exact name_of_addr x.apart (PySem.mem_of_lookup h1) (PySem.mem_of_lookup h2)
 ·have hy:scope.names.lookup y=some .cell\/scope.names.lookup y=some .free:=hy;rcases hy with hy | hy
  ·exact A46 hy
  ·exact absurd rfl (S.nofree _ (PySem.mem_of_lookup hy))
 ·exact Nat.le_of_lt (x.above y c (PySem.mem_of_lookup h))
 ·have hi:i < vs.length:=by
   unfold start at h2;by_cases hi:i < vs.length
   ·exact hi
   ·rw [List.getElem?_append_right (by simpa using hi)] at h2;rw [List.getElem?_replicate] at h2;split at h2 <;> cases h2
  have ha:vs[i]?=some v:=by
   unfold start at h2;rw [List.getElem?_append_left (by simpa using hi),List.getElem?_map] at h2;cases e:vs[i]? with
   | none=>rw [e] at h2; cases h2
   | some a=>rw [e] at h2; cases h2; rfl
  obtain ⟨u,hu,rv⟩:=r.get ha;have hp:ps[i]?=some y:=by
   rw [<- S.pre,List.getElem?_take_of_lt (by omega)]; exact h1
  have ndP:ps.Nodup:=by rw [<- S.pre]; exact S.nd.sublist (List.take_sublist _ _)
  refine ⟨u,rv,?_⟩;rcases S.par y (List.mem_of_getElem? hp) with k | k
  ·exact .inl ⟨k,A10 ndP hp hu k⟩
  ·obtain ⟨c,e⟩:=A46 (n:=s.heap.objs.size + 1) k;refine .inr ⟨.inl k,c,e,?_⟩;have q:=x.cell y c e;rw [A12 ndP hp hu (by show scope.names.lookup y≠_; rw [k]; decide)] at q;exact q
 ·exact e0.hok.fresh (Nat.le_of_lt (x.above y c (PySem.mem_of_lookup h)))
 ·unfold start;show _=N.length;rw [List.length_append,List.length_map,List.length_replicate];omega
theorem C3h {CX:CXT} {P:Program} {w:World} {K:PySem.W.Frag} {mg:Str->Option Value} {base:Heap} {k:Nat} {f:Addr} {name qual:Str} {params:Arguments} {body:List Stmt} {scope:Scope} {dV kV doc pm cdv ct oc:Value} {an od:Option Addr}
  {osl:Array (Option Value)} {N ps:List Str} {sp:Sp} (lk:K.lookup f=some ⟨oc,od,.func (PySem.W.fnOf name qual params body scope dV kV doc pm an cdv ct),osl⟩) (hcd:PySem.W.codeIn K cdv qual=true) (S:FnScope N ps scope)
  (len:∀ vs H Q E,sp vs H Q E->vs.length=ps.length)
  (hbody:∀ (A:Around) (outer:List Env) (s:Shared) (H:Hp) (vs:List V) (Q:VK) (E:XK),Room k (A.deeper (envOfC qual scope s.heap.objs.size f cdv))->sp vs H Q E ->
   ∃ t,PSs (cxOf CX P w K mg base N qual scope f cdv A outer s H E) body t/\t { nx:=fun _ H'=>Q .non H',rt:=Q } (start N vs) H) :
  FnOk P w K mg base CX (k + 1) f (PySem.W.fnOf name qual params body scope dV kV doc pm an cdv ct) ps sp:=by
 refine ⟨len,fun A outer s H args us vs Q E hr e0 hb r hsp=>?_⟩;have hl:=len _ _ _ _ hsp;have KX:K.In s.heap:=e0.mod.kin.keeps fun b o e=>(e0.bs b o e).1;have lim:s.heap.NoLimit:=e0.mod.nolimit.keeps fun b o e=>(e0.bs b o e).1;have hkind:∀ y ∈ ps.zip us,scope.names.lookup y.1=some .local\/(scope.names.lookup y.1=some .cell/\((cellsFrom (s.heap.objs.size + 1) scope.names []).lookup y.1).isSome=true):=fun ⟨n,v⟩ hy=>by
  rcases S.par n (List.of_mem_zip hy).1 with q | q
  ·exact .inl q
  ·exact .inr ⟨q,PySem.W.cellsFrom_some _ _ _ (.inl q)⟩
 refine codeAny_call_function hr.depth (KX _ _ lk) rfl S.co S.gen rfl (PySem.W.codeRec_of KX hcd) (hb _ _ _ _ ?_);refine wpAny_newFunctionEnv_cells S.kind hkind fun env he s1 x=>?_;subst he;refine ⟨lim.keeps x.toInCall.keep,codeAny_func ?_⟩;obtain ⟨t,ht,hq⟩:=hbody A outer s H vs Q E (hr.deeper _) hsp;have I:Inv (cxOf CX P w K mg base N qual scope f cdv A outer s H E) [] (start N vs) H s1:=B0k S hr.hd e0 hl r x;refine wpAny_mono (ht [] s1 (start N vs) H _ I hq) (fun fl s' hs=>?_) fun e s' hs=>hs;have fin:∀ {σ':St} {H':Hp} {v:V} {u:Value},Inv (cxOf CX P w K mg base N qual scope f cdv A outer s H E) [] σ' H' s'->RelV v u->Q v H'->CE outer P w H s Q u s' :=
  fun {σ' H' v u} J rv q=>⟨v,H',J.os,J.bare,J.base,J.hok,rv,q⟩
 cases fl with
 | ret u =>
  obtain ⟨v,σ',H',J,rv,q⟩:=hs;exact fin J rv q
 | next =>
  obtain ⟨σ',H',J,q⟩:=hs;exact fin (v:=V.non) (u:=Value.none) J rfl q
 | brk =>
  obtain ⟨_,_,_,q⟩:=hs;exact False.elim q
 | cont =>
  obtain ⟨_,_,_,q⟩:=hs;exact False.elim q
end L2
namespace L2
open PySem PySem.Spec PyProof.Rows
section
variable {X:Cx} {x:Str} {p pos:Pos} {e:Expr} {es:List Expr} {t:TA} {id T:String} {r:List V->Hp->VK->Prop}
def tCB (r:List V->Hp->VK->Prop) (t:TA):TE:=fun σ H Q=>t σ H fun vs H1=>r vs H1 Q
theorem A3t (hc:CallR X (.builtin id) r) (hg:Gl X x) (hm:X.mg x=none) (hv:bootBuiltins x=some (.builtin id)) (ha:PA X (e :: es) t) (hn:x≠"__name__":=by decide) (hdb:(x == ("__debug__":Str))=false:=by decide)
  (he:starEach (e :: es) X.env=(false,eval e X.env) :: starEach es X.env:=by rfl) (hpl:(backTo pos (starEach es X.env)).any (·.1)=false:=by rfl):PE X (.Call (.Name x p) (e :: es) [] pos) (tCB r t):=by
 intro pins s σ H Q I h;refine wpAny_Call_Name_kw (V2 I hg hm hv ?_ hn hdb);exact PyProof.Rows.callWith_builtin1 (thn (ha pos pins s σ H _ I h) fun us s1 ⟨vs,H1,I1,r1,q1⟩=>hc pins s1 σ H1 vs us Q I1 r1 q1) he hpl
theorem A7f (hc:CallR X (.type T) r) (hg:Gl X x) (hm:X.mg x=none) (hv:bootBuiltins x=some (.type T)) (ha:PA X (e :: es) t) (hn:x≠"__name__":=by decide) (hdb:(x == ("__debug__":Str))=false:=by decide)
  (he:starEach (e :: es) X.env=(false,eval e X.env) :: starEach es X.env:=by rfl) (hpl:(backTo pos (starEach es X.env)).any (·.1)=false:=by rfl):PE X (.Call (.Name x p) (e :: es) [] pos) (tCB r t):=by
 intro pins s σ H Q I h;refine wpAny_Call_Name_kw (V2 I hg hm hv ?_ hn hdb);exact PyProof.Rows.callWith_type1 (thn (ha pos pins s σ H _ I h) fun us s1 ⟨vs,H1,I1,r1,q1⟩=>hc pins s1 σ H1 vs us Q I1 r1 q1) he hpl
end
end L2
namespace HT
open PySem PyProof.Rows
section
open PySem.SeqAt
open PySem.AutoSeq1 (wpAny_loadPart')
open PySem.MeetsSeq PySem.MeetsSeq2 PySem.MeetsSeq3
end
section
variable {prog:Program} {w:World} {A:Around} {E:Value->Shared->Prop} {s:Shared}
def sIx (n d:Nat):Option Int->Nat
 | none=>d
 | some v=>if v < 0 then (v + (n:Int)).toNat else min v.toNat n
theorem sIx_none (n d:Nat):sIx n d none=d:=rfl
theorem sIx_nat (n d k:Nat):sIx n d (some (k:Int))=min k n:=by
 show (if (k:Int) < 0 then ((k:Int) + (n:Int)).toNat else min (k:Int).toNat n)=min k n;rw [if_neg (by omega),Int.toNat_natCast]
end
end HT
namespace L2
open PySem PySem.Spec PyProof.Rows
abbrev TO:=St->Hp->(Option Int->Hp->Prop)->Prop
def PO (X:Cx) (e:Option Expr) (t:TO):Prop :=
 ∀ (pins:List (Addr × Obj)) (s:Shared) (σ:St) (H:Hp) (Q:Option Int->Hp->Prop),Inv X pins σ H s->t σ H Q ->
  wpAny (model X.prog X.w) X.A (evalPart e X.env) (fun u s'=>∃ o H',Inv X pins σ H' s'/\IsPart u o/\Q o H') X.xe s
def A18:TO:=fun _ H Q=>Q none H
def B53 (t:TE):TO:=fun σ H Q=>t σ H fun x H1=>∃ i,x=.int i/\Q (some i) H1
section
variable {X:Cx} {e:Expr} {te:TE} {lo hi:Option Expr} {tl th:TO} {pos p2:Pos}
theorem B60:PO X none A18:=by
 intro pins s σ H Q I h;rw [evalPart_none];exact wpAny_pure ⟨none,H,I,.none,h⟩
theorem B6z (h:PE X e te):PO X (some e) (B53 te):=by
 intro pins s σ H Q I hw;rw [evalPart_some];refine thn (h pins s σ H _ I hw) fun u s1 ⟨x,H1,I1,r1,q1⟩=>?_;obtain ⟨i,rfl,q⟩:=q1;obtain ⟨t,rfl⟩:=r1;exact ⟨some i,H1,I1,.int i t,q⟩
def SlR (X:Cx) (r:V->Option Int->Option Int->Hp->VK->Prop):Prop :=
 ∀ (pins:List (Addr × Obj)) (s:Shared) (σ:St) (H:Hp) (x:V) (v vl vu:Value) (lo hi:Option Int) (sl:Addr) (Q:VK),Inv X pins σ H s->RelV x v->s.heap.IsSliceOf sl vl vu .none->IsPart vl lo->IsPart vu hi->r x lo hi H Q ->
  ∃ T id,typeLookup (.type T) "__getitem__"=pure (some (.builtin id))/\s.TypeIs v T/\wpAny (model X.prog X.w) X.A (getItem v (.ref sl)) (EP X pins σ Q) X.xe s
def tSl (r:V->Option Int->Option Int->Hp->VK->Prop) (te:TE) (tl th:TO):TE:=fun σ H Q=>te σ H fun x H1=>tl σ H1 fun l H2=>th σ H2 fun u H3=>r x l u H3 Q
theorem B18 {r:V->Option Int->Option Int->Hp->VK->Prop} (hr:SlR X r) (he:PE X e te) (hl:PO X lo tl) (hu:PO X hi th):PE X (.Subscript e (.Slice lo hi none p2) pos) (tSl r te tl th):=by
 intro pins s σ H Q I h;refine Subscript_ (thn (he pins s σ H _ I h) fun v s1 ⟨x,H1,I1,r1,q1⟩=>?_);refine wpAny_Slice (thn (hl pins s1 σ H1 _ I1 q1) fun vl s2 ⟨l,H2,I2,pl,q2⟩=>thn (hu pins s2 σ H2 _ I2 q2) fun vu s3 ⟨u,H3,I3,pu,q3⟩=>?_);rw [evalPart_none];refine wpAny_pure ?_;have I4:Inv X pins σ H3 { s3 with heap:=s3.heap.push { cls:=.type "slice",data:=.fields #[vl,vu,.none] } }:=I3.kept (t':=s3.toks) fun b ob q=>Heap.get?_push_of_some _ q;obtain ⟨T,id,hT,ht,hg⟩:=hr pins { s3 with heap:=s3.heap.push { cls:=.type "slice",data:=.fields #[vl,vu,.none] } } σ H3 x v vl vu l u s3.heap.objs.size Q I4 r1 (Heap.IsSliceOf.new ..) pl pu q3;show wpAny (model X.prog X.w) X.A (subscriptTail e (.Slice lo hi none p2) v (.ref s3.heap.objs.size)) (EP X pins σ Q) X.xe { s3 with heap:=s3.heap.push { cls:=.type "slice",data:=.fields #[vl,vu,.none] } };exact tail_any (ops:=[.ref s3.heap.objs.size,v]) ht hT hg (by with_unfolding_all rfl)
def cutV (xs:List V) (lo hi:Option Int):List V:=(xs.drop (HT.sIx xs.length 0 lo)).take (HT.sIx xs.length xs.length hi - HT.sIx xs.length 0 lo)
theorem A2z (xs:List V) (lo hi:Option Int):(cutV xs lo hi).length<=xs.length:=by
 unfold cutV;rw [List.length_take,List.length_drop];omega
theorem Vals.nil_iff {xs:List V} {us:List Value} (r:Vals xs us):us=[] ↔ xs=[]:=by
 cases r with
 | nil=>simp
 | cons _ _=>simp
end
end L2
namespace L2
open PySem PySem.Spec PyProof.Rows
def ixN (n:Nat) (i:Int):Option Nat:=if 0<=i then (if i < n then some i.toNat else none) else if -(n:Int)<=i then some (i + n).toNat else none
def atI {α:Type} (xs:List α) (i:Int):Option α:=(ixN xs.length i).bind fun j=>xs[j]?
theorem B0i {n:Nat} {i:Int} {j:Nat} (h:ixN n i=some j):seqIndex? i n=some j/\j < n/\-(n:Int)<=i/\i < n:=by
 unfold ixN at h;by_cases h0:0<=i
 ·rw [if_pos h0] at h;by_cases h1:i < n
  ·rw [if_pos h1] at h;have e:i.toNat=j:=Option.some.inj h;exact ⟨by rw [seqIndex_of h0 h1,e],by omega,by omega,h1⟩
  ·rw [if_neg h1] at h; cases h
 ·rw [if_neg h0] at h;by_cases h1:-(n:Int)<=i
  ·rw [if_pos h1] at h;have e:(i + n).toNat=j:=Option.some.inj h;exact ⟨by rw [seqIndex_neg (by omega) h1,e],by omega,h1,by omega⟩
  ·rw [if_neg h1] at h; cases h
theorem A26 {α:Type} {xs:List α} {i:Int} {v:α} (h:atI xs i=some v):∃ j,seqIndex? i xs.length=some j/\xs[j]?=some v/\j < xs.length/\-(xs.length:Int)<=i/\i < xs.length:=by
 unfold atI at h;cases e:ixN xs.length i with
 | none=>rw [e] at h; cases h
 | some j =>
  rw [e] at h;obtain ⟨h1,h2,h3,h4⟩:=B0i e;exact ⟨j,h1,h,h2,h3,h4⟩
theorem M0 {α:Type} {xs:List α} {j:Nat} {v:α} (h:xs[j]?=some v):atI xs (j:Int)=some v:=by
 have hj:j < xs.length:=(List.getElem?_eq_some_iff.mp h).1;have e:ixN xs.length (j:Int)=some j:=by
  unfold ixN;rw [if_pos (by omega),if_pos (by omega)]; simp
 unfold atI; rw [e]; exact h
def B1k (b:Expr):Prop:=∀ o i,subscripted b false o i=operate [o,i] (getItem o i)
def IxR (X:Cx) (r:R2):Prop :=
 ∀ (value slice:Expr) (pins:List (Addr × Obj)) (s:Shared) (σ:St) (H:Hp) (x y:V) (v u:Value) (Q:VK),Inv X pins σ H s->RelV x v->RelV y u->r x y H Q ->
  subscripted slice false v u=operate [v,u] (getItem v u)->wpAny (model X.prog X.w) X.A (subscriptTail value slice v u) (EP X pins σ Q) X.xe s
def MtR (X:Cx) (id:String) (r:V->List V->Hp->VK->Prop):Prop :=
 ∀ (pins:List (Addr × Obj)) (s:Shared) (σ:St) (H:Hp) (x:V) (xs:List V) (v:Value) (us:List Value) (Q:VK),Inv X pins σ H s->RelV x v->Vals xs us->r x xs H Q ->
  wpAny (model X.prog X.w) X.A (call (.builtin id) (v :: us)) (EP X pins σ Q) X.xe s
section
variable {X:Cx} {a b:Expr} {ta tb:TE} {pos:Pos}
theorem IxR.or {r r':R2} (h:IxR X r) (h':IxR X r'):IxR X (fun x y H Q=>r x y H Q\/r' x y H Q):=by
 intro value slice pins s σ H x y v u Q I rx ry q hs;rcases q with q | q
 ·exact h value slice pins s σ H x y v u Q I rx ry q hs
 ·exact h' value slice pins s σ H x y v u Q I rx ry q hs
theorem Z6 {r:R2} (hr:IxR X r) (ha:PE X a ta) (hb:PE X b tb) (hs:B1k b):PE X (.Subscript a b pos) (tOp r ta tb):=by
 intro pins s σ H Q I h;exact Subscript_ (binT ha hb I h fun v u s2 x y H2 I2 rx ry q=>hr a b pins s2 σ H2 x y v u Q I2 rx ry q (hs _ _))
def rIxL (K:PySem.W.Frag):R2:=fun x y H Q=>∃ p xs i v,x=.ref p/\y=.int i/\SqL K H p xs/\atI xs i=some v/\Q v H
def rIxT (K:PySem.W.Frag):R2:=fun x y H Q=>∃ p xs i v,x=.ref p/\y=.int i/\SqT K H p xs/\atI xs i=some v/\Q v H
def rIxS:R2:=fun x y H Q=>∃ z i c,x=.str z/\y=.int i/\z.length<=sizeLine/\atI z.cps.toList i=some c/\Q (.str ⟨#[c]⟩) H
theorem ix_list:IxR X (rIxL X.K):=by
 intro value slice pins s σ H x y v u Q I rx ry h hs;obtain ⟨p,xs,i,z,rfl,rfl,hq,he,q⟩:=h;cases rx;obtain ⟨t,rfl⟩:=ry;obtain ⟨its,r,pl,hz⟩:=I.list hq;obtain ⟨j,h1,h2,h3,h4,h5⟩:=A26 he;obtain ⟨w,ew,rw'⟩:=r.get h2;have hl:=r.length;have hn:=X5;have fin:EP X pins σ Q w s:=⟨z,H,I,rw',q⟩;by_cases h0:0<=i
 ·have hj:i.toNat=j:=by
   rw [seqIndex_of h0 h5] at h1;exact Option.some.inj h1
  exact item_listR pl.isList h0 (by omega) (by rw [hj]; simpa using ew) fin hs
 ·have hj:(i + (its.toArray.size:Int)).toNat=j:=by
   rw [seqIndex_neg (by omega) h4] at h1;rw [List.size_toArray,<- hl];exact Option.some.inj h1
  exact subscriptTail_builtinR (x:=w) pl.isList.typeIs slot_list_getitem.lookup
   (wpAny_getItem_list_neg (Q:=fun r s'=>r=w/\EP X pins σ Q r s') pl.isList (by omega) (by rw [List.size_toArray] <;> omega) (by omega) (by rw [hj]; simpa using ew) ⟨rfl,fin⟩) hs
theorem ix_tup:IxR X (rIxT X.K):=by
 intro value slice pins s σ H x y v u Q I rx ry h hs;obtain ⟨p,xs,i,z,rfl,rfl,hq,he,q⟩:=h;cases rx;obtain ⟨t,rfl⟩:=ry;obtain ⟨its,r,pl,hz⟩:=I.tuple hq;obtain ⟨j,h1,h2,h3,h4,h5⟩:=A26 he;obtain ⟨w,ew,rw'⟩:=r.get h2;have hl:=r.length;have hn:=X5;have fin:EP X pins σ Q w s:=⟨z,H,I,rw',q⟩;exact subscriptTail_builtinR (x:=w) pl.typeIs slot_tuple_getitem.lookup
  (getItem_tuple (j:=j) (Q:=fun r s'=>r=w/\EP X pins σ Q r s') pl (by omega) (by omega) (by rw [List.size_toArray,<- hl]; exact h1) (by simpa using ew) ⟨rfl,fin⟩) hs
theorem C1l:IxR X rIxS:=by
 intro value slice pins s σ H x y v u Q I rx ry h hs;obtain ⟨z,i,c,rfl,rfl,hz,he,q⟩:=h;obtain ⟨t,rfl⟩:=rx;obtain ⟨t',rfl⟩:=ry;obtain ⟨j,h1,h2,h3,h4,h5⟩:=A26 he;have hl:z.cps.toList.length=z.length:=by simp [Str.length]
 rw [hl] at h1 h4 h5;have hn:=X5;exact tail_any (typeIs_str s z t) slot_str_getitem.lookup (getItem_str (c:=c) (by
  have e1:decide (i < -(2 ^ 63:Int))=false:=decide_eq_false (by omega);have e2:decide (i ≥ 2 ^ 63)=false:=decide_eq_false (by omega);rw [e1,e2,Bool.or_false]) (by rw [h1]; simpa using h2) ⟨.str ⟨#[c]⟩,H,I.tok _,⟨_,rfl⟩,q⟩) hs
def rIx (K:PySem.W.Frag):R2:=fun x y H Q=>rIxL K x y H Q\/rIxT K x y H Q\/rIxS x y H Q
theorem C1m:IxR X (rIx X.K):=ix_list.or (ix_tup.or C1l)
theorem A5u (its:List Value) (n j:Nat) (u:Value):Obj.mapSeq (·.setIfInBounds j u) { cls:=.type "list",data:=.seq its.toArray n }={ cls:=.type "list",data:=.seq (its.set j u).toArray n }:=by
 simp [Obj.mapSeq]
theorem Inv.lst {pins:List (Addr × Obj)} {σ:St} {H:Hp} {s:Shared} {p:Addr} {xs:List V} (I:Inv X pins σ H s) (h:H p=some (.lst xs)) :
  ∃ (its:List Value) (n:Nat),Vals xs its/\s.heap.get? p=some { cls:=.type "list",data:=.seq its.toArray n }/\xs.length<=sizeLine:=by
 obtain ⟨z,its,n,r,e⟩:=I.hok p _ h;exact ⟨its,n,r,e,z⟩
theorem Inv.lstUpd {pins:List (Addr × Obj)} {σ:St} {H:Hp} {s:Shared} {p:Addr} {xs ys:List V} {its its':List Value} {n n':Nat} {f:Obj->Obj} (I:Inv X pins σ H s) (h:H p=some (.lst xs))
  (ho:s.heap.get? p=some { cls:=.type "list",data:=.seq its.toArray n }) (hf:f { cls:=.type "list",data:=.seq its.toArray n }={ cls:=.type "list",data:=.seq its'.toArray n' }) (r:Vals ys its') (hz:ys.length<=sizeLine) (t:Nat) :
  Inv X pins σ (upd H p (.lst ys)) { s with heap:=s.heap.update p f,toks:=t }:=by
 have e:(s.heap.update p f).get? p=some { cls:=.type "list",data:=.seq its'.toArray n' }:=by
  rw [Heap.get?_update_self f ho (by rw [hf] <;> rfl),hf]
 refine I.write (x:=p) (e:=p) (by rw [h]; trivial) (.inl rfl) (fun b u hb q=>(Heap.get?_update_other _ _ (Ne.symm hb)).trans q) ⟨_,e⟩ ?_;exact ⟨hz,its',n',r,e⟩
def B6k:V->V->V->Hp->(Hp->Prop)->Prop:=fun o i v H Q=>∃ p xs k j,o=.ref p/\i=.int k/\H p=some (.lst xs)/\ixN xs.length k=some j/\Q (upd H p (.lst (xs.set j v)))
theorem I0:PSet X B6k:=by
 intro pins s σ H o i v ov iv u Q I ro ri rv h;obtain ⟨p,xs,k,j,rfl,rfl,hp,hj,q⟩:=h;cases ro;obtain ⟨t,rfl⟩:=ri;obtain ⟨its,n,r,ho,hz⟩:=I.lst hp;obtain ⟨h1,h2,h3,h4⟩:=B0i hj;have hl:=r.length;have hn:=X5;have I':Inv X pins σ (upd H p (.lst (xs.set j v))) { s with heap:=s.heap.update p (Obj.mapSeq (·.setIfInBounds j u)) } :=
  I.lstUpd hp ho (A5u its n j u) (r.set rv j) (by rw [List.length_set]; exact hz) s.toks
 by_cases h0:0<=k
 ·have hk:k.toNat=j:=by
   rw [seqIndex_of h0 h4] at h1;exact Option.some.inj h1
  exact PySem.W.ki_setAt ho h0 (by omega) (by rw [List.size_toArray,<- hl]; exact h4) (by rw [hk]; exact ⟨_,I',q⟩)
 ·have hk:(k + (its.toArray.size:Int)).toNat=j:=by
   rw [seqIndex_neg (by omega) h3] at h1;rw [List.size_toArray,<- hl];exact Option.some.inj h1
  exact PySem.W.ki_setBack ho (by omega) (by rw [List.size_toArray,<- hl]; exact h3) (by omega) (by rw [hk]; exact ⟨_,I',q⟩)
theorem A0r (lo hi:Option Int) (n:Nat):(sliceBounds lo hi none n).1=((HT.sIx n 0 lo:Nat):Int)/\(sliceBounds lo hi none n).2.1=((HT.sIx n n hi:Nat):Int)/\(sliceBounds lo hi none n).2.2=1:=by
 refine ⟨?_,?_,rfl⟩
 ·cases lo with
  | none=>simp [sliceBounds,HT.sIx]
  | some i =>
   simp only [sliceBounds,HT.sIx,Option.getD_none,show (1:Int) > 0 by decide,if_true];by_cases h:i < 0
   ·simp only [h,if_true] <;> omega
   ·simp only [h,if_false] <;> omega
 ·cases hi with
  | none=>simp [sliceBounds,HT.sIx]
  | some i =>
   simp only [sliceBounds,HT.sIx,Option.getD_none,show (1:Int) > 0 by decide,if_true];by_cases h:i < 0
   ·simp only [h,if_true] <;> omega
   ·simp only [h,if_false] <;> omega
theorem Y8 (its:List Value) (lo hi:Option Int):slicePick its.toArray lo hi none=((its.drop (HT.sIx its.length 0 lo)).take (HT.sIx its.length its.length hi - HT.sIx its.length 0 lo)).toArray:=by
 obtain ⟨h1,h2,h3⟩:=A0r lo hi its.toArray.size;unfold slicePick;rw [h1,h2,h3];simp only [sliceRange_one,pick_run,List.size_toArray] <;> rfl
def rSlL (K:PySem.W.Frag):V->Option Int->Option Int->Hp->VK->Prop:=fun x lo hi H Q=>∃ a xs,x=.ref a/\SqL K H a xs/\∀ p,H p=none->Q (.ref p) (upd H p (.lst (cutV xs lo hi)))
theorem B6e:SlR X (rSlL X.K):=by
 intro pins s σ H x v vl vu lo hi sl Q I rx hs pl pu h;obtain ⟨a,xs,rfl,hx,q⟩:=h;cases rx;obtain ⟨its,r,ht,hz⟩:=I.list hx;have hlen:=r.length;refine ⟨"list",_,slot_list_getitem.lookup,ht.isList.typeIs,?_⟩;refine wpAny_getItem_list_slice ht.isList hs pl pu .none (by simp) ?_ (by rw [List.size_toArray] <;> omega)
 rw [Y8,<- hlen];refine ⟨.ref s.heap.objs.size,_,I.laid (t':=s.toks) (o:=.lst (cutV xs lo hi)) (fun b ob q=>Heap.get?_push_of_some _ q) (Nat.le_refl _) ?_,rfl,q _ (I.hok.fresh (Nat.le_refl _))⟩;exact ⟨Nat.le_trans (A2z xs lo hi) hz,_,0,(r.drop (HT.sIx xs.length 0 lo)).take (HT.sIx xs.length xs.length hi - HT.sIx xs.length 0 lo),Heap.get?_push_size _ rfl⟩
theorem call_len_seq:CallR X (.builtin "len") (fun xs H Q=>∃ p ys,xs=[.ref p]/\(SqL X.K H p ys\/SqT X.K H p ys)/\Q (.int ys.length) H):=by
 intro pins s σ H xs us Q I r h;obtain ⟨p,ys,rfl,hq,q⟩:=h;obtain ⟨u,rfl,rx⟩:=A52 r;cases rx;have hn:=X5;rcases hq with hq | hq
 ·obtain ⟨its,r',pl,hz⟩:=I.list hq;have hlen:=r'.length;exact Calls.call_len_list pl.isList (by simp only [List.size_toArray] <;> omega) ⟨.int ys.length,H,I.tok _,⟨s.toks + 1,by rw [List.size_toArray,hlen]⟩,q⟩
 ·obtain ⟨its,r',pl,hz⟩:=I.tuple hq;have hlen:=r'.length;exact len_tuple pl (by simp only [List.size_toArray] <;> omega) ⟨.int ys.length,H,I.tok _,⟨s.toks + 1,by rw [List.size_toArray,hlen]⟩,q⟩
theorem A1w:CallR X (.builtin "len") (fun xs H Q=>∃ z,xs=[.str z]/\z.length<=sizeLine/\Q (.int z.length) H):=by
 intro pins s σ H xs us Q I r h;obtain ⟨z,rfl,hz,q⟩:=h;obtain ⟨u,rfl,t,rfl⟩:=A52 r;have hn:=X5;exact len_str (by omega) ⟨.int z.length,H,I.tok _,⟨_,rfl⟩,q⟩
theorem CallR.or {f:Value} {r r':List V->Hp->VK->Prop} (h:CallR X f r) (h':CallR X f r'):CallR X f (fun xs H Q=>r xs H Q\/r' xs H Q):=by
 intro pins s σ H xs us Q I rs q;rcases q with q | q
 ·exact h pins s σ H xs us Q I rs q
 ·exact h' pins s σ H xs us Q I rs q
def tyV (K:PySem.W.Frag) (T:String) (x:V) (H:Hp):Prop:=match x with
 | .str _=>T="str"
 | .int _=>T="int"
 | .ref p=>(T="list"/\∃ xs,SqL K H p xs)\/(T="tuple"/\∃ o,K.lookup p=some o/\o.cls=.type "tuple"/\o.dict=none) \/
   (T="dict"/\((∃ kvs,H p=some (.dK kvs))\/∃ kvs,H p=some (.dT kvs)))\/(T="set"/\∃ S n,H p=some (.set S n))
 | _=>False
theorem B8u {pins:List (Addr × Obj)} {σ:St} {H:Hp} {s:Shared} {T:String} {x:V} {v:Value} (I:Inv X pins σ H s) (r:RelV x v) (ty:tyV X.K T x H) :
  s.TypeIs v T/\∀ a,v=.ref a->∃ ob,s.heap.get? a=some ob/\ob.dict=none:=by
 cases x with
 | str z =>
  obtain ⟨t,rfl⟩:=r;cases (show T="str" from ty);exact ⟨typeIs_str s z t,fun _ e=>nomatch e⟩
 | int i =>
  obtain ⟨t,rfl⟩:=r;cases (show T="int" from ty);exact ⟨typeIs_int s i t,fun _ e=>nomatch e⟩
 | ref p =>
  cases r;rcases ty with ⟨rfl,xs,hq⟩ | ⟨rfl,o,hk,hc,hd⟩ | ⟨rfl,hk⟩ | ⟨rfl,S,n,hk⟩
  ·obtain ⟨its,_,pl,_⟩:=I.list hq;refine ⟨pl.isList.typeIs,fun a e=>?_⟩;cases e;obtain ⟨o,n,e,c,hd,_⟩:=pl;exact ⟨o,e,hd⟩
  ·refine ⟨⟨o,I.kIn p o hk,hc⟩,fun a e=>?_⟩;cases e;exact ⟨o,I.kIn _ o hk,hd⟩
  ·have z:∃ o,s.heap.get? p=some o/\o.ExactDict:=by
    rcases hk with ⟨kvs,hk⟩ | ⟨kvs,hk⟩
    ·obtain ⟨_,_,_,_,o,_,_,e,ex,_⟩:=I.hok p _ hk;exact ⟨o,e,ex⟩
    ·obtain ⟨_,_,_,_,o,_,_,e,ex,_⟩:=I.hok p _ hk;exact ⟨o,e,ex⟩
   obtain ⟨o,e,ex⟩:=z;refine ⟨⟨o,e,ex.1⟩,fun a e2=>?_⟩;cases e2;exact ⟨o,e,ex.2.1⟩
  ·obtain ⟨o,_,_,_,e,ex,_⟩:=I.hok p _ hk;refine ⟨⟨o,e,ex.1⟩,fun a e2=>?_⟩;cases e2;exact ⟨o,e,ex.2.1⟩
 | _=>exact False.elim ty
def tBM (K:PySem.W.Frag) (T:String) (r:V->List V->Hp->VK->Prop) (to:TE) (t:TA):TE:=fun σ H Q=>to σ H fun x H1=>tyV K T x H1/\t σ H1 fun xs H2=>r x xs H2 Q
variable {o e:Expr} {es:List Expr} {to:TE} {t:TA} {name:Str} {apos cpos:Pos} {T id:String} {r:V->List V->Hp->VK->Prop}
theorem C23 (pa:PlainAttrs T) (slot:Slot T name id) (hty:typeOf (.builtin id)=pure (.type "method_descriptor")) (hm:MtR X id r) (ho:PE X o to) (ha:PA X (e :: es) t)
  (hbase:attributeBase o name X.env (eval o X.env)=eval o X.env:=by rfl)
  (hfew:((backTo cpos (starEach (e :: es) X.env)).all (fun x=>!x.1) && (backToKw cpos (keywordEach [] X.env)).all (fun x=>x.1.isSome)
   && decide ((e :: es).length + ([]:List Keyword).length + (if ([]:List Keyword).isEmpty then 0 else 1) < 30))=true:=by rfl)
  (hline:(apos.endLine == cpos.line)=true:=by rfl) (hs:starEach (e :: es) X.env=(false,eval e X.env) :: starEach es X.env:=by rfl) (hplain:(backTo cpos (starEach es X.env)).any (·.1)=false:=by rfl) :
  PE X (.Call (.Attribute o name apos) (e :: es) [] cpos) (tBM X.K T r to t):=by
 intro pins s σ H Q I h;refine wpAny_Call_method_late hbase hfew hline rfl (thn (ho pins s σ H _ I h) fun v s1 ⟨x,H1,I1,r1,ty,q1⟩=>?_);obtain ⟨h1,h2⟩:=B8u I1 r1 ty;refine ⟨T,id,pa,slot,hty,h1,h2,?_⟩;have hA:=ha cpos pins s1 σ H1 _ I1 q1;rw [hs] at hA ⊢;refine Calls.callWith_builtin (by show (false || (backTo cpos (starEach es X.env)).any (·.1))=false; rw [hplain] <;> rfl) (Calls.evalArgs_plain ?_)
 exact thn hA fun us s2 ⟨vs,H2,I2,r2,q2⟩=>hm pins s2 σ H2 x vs v us Q I2 r1 r2 q2
end
end L2
namespace L2
open PySem PySem.Spec PyProof.Rows
def MtM (X:Cx) (id:String) (r:V->List V->Hp->VK->Prop):Prop :=
 ∀ (pins:List (Addr × Obj)) (s:Shared) (σ:St) (H:Hp) (x:V) (xs:List V) (v:Value) (us:List Value) (Q:VK),Inv X pins σ H s->RelV x v->Vals xs us->r x xs H Q ->
  wpAny (model X.prog X.w) X.A (call (.builtin id) (v :: us)) (EP X pins σ Q) X.xe s
theorem Vals.one:∀ {x:V} {us:List Value},Vals [x] us->∃ u,us=[u]/\RelV x u
 | _,_,.cons r .nil=>⟨_,rfl,r⟩
theorem Vals.two:∀ {x y:V} {us:List Value},Vals [x,y] us->∃ u v,us=[u,v]/\RelV x u/\RelV y v
 | _,_,_,.cons r (.cons q .nil)=>⟨_,_,rfl,r,q⟩
theorem Vals.zero:∀ {us:List Value},Vals [] us->us=[]
 | _,.nil=>rfl
theorem Vals.dropLast {xs:List V} {us:List Value} (h:Vals xs us):Vals xs.dropLast us.dropLast:=by
 induction h with
 | nil=>exact .nil
 | cons r t ih =>
  cases t with
  | nil=>exact .nil
  | cons q t'=>exact .cons r ih
theorem Vals.eraseIdx:∀ {xs:List V} {us:List Value} (i:Nat),Vals xs us->Vals (xs.eraseIdx i) (us.eraseIdx i)
 | _,_,_,.nil=>.nil
 | _,_,0,.cons _ t=>t
 | _,_,i + 1,.cons r t=>.cons r (Vals.eraseIdx i t)
theorem Vals.reverse {xs:List V} {us:List Value} (h:Vals xs us):Vals xs.reverse us.reverse:=by
 induction h with
 | nil=>exact .nil
 | cons r t ih=>rw [List.reverse_cons,List.reverse_cons]; exact Vals.append ih (.cons r .nil)
theorem Vals.rep {xs:List V} {us:List Value} (h:Vals xs us):∀ k:Nat,Vals (List.replicate k xs).flatten (List.replicate k us).flatten
 | 0=>.nil
 | k + 1=>by
  rw [List.replicate_succ,List.replicate_succ,List.flatten_cons,List.flatten_cons];exact Vals.append h (Vals.rep h k)
section
variable {X:Cx} {pins:List (Addr × Obj)} {σ:St} {H:Hp} {s:Shared} {l b:Addr} {xs ys zs:List V}
theorem Inv.lset {its its':List Value} {n:Nat} {f:Array Value->Array Value} {t':Nat} (I:Inv X pins σ H s) (hH:H l=some (.lst xs))
  (e:s.heap.get? l=some { cls:=.type "list",data:=.seq its.toArray n }) (hf:f its.toArray=its'.toArray) (hv:Vals ys its') (hz:ys.length<=sizeLine) :
  Inv X pins σ (upd H l (.lst ys)) { s with heap:=s.heap.update l (Obj.mapSeq f),toks:=t' }:=by
 have q:=PySem.IsL.update e f;rw [hf] at q;refine I.write (x:=l) (e:=l) (by rw [hH]; exact trivial) (.inl rfl) (fun b' u hb hu=>(Heap.get?_update_other s.heap (Obj.mapSeq f) (Ne.symm hb)).trans hu) ⟨_,q⟩ ?_;exact ⟨hz,its',_,hv,q⟩
theorem Inv.lnew {its:List Value} {t':Nat} (I:Inv X pins σ H s) (hv:Vals ys its) (hz:ys.length<=sizeLine) :
  Inv X pins σ (upd H s.heap.objs.size (.lst ys)) { s with heap:=s.heap.push { cls:=.type "list",data:=.seq its.toArray },toks:=t' } :=
 I.laid (fun _ _ q=>Heap.get?_push_of_some _ q) (Nat.le_refl _) ⟨hz,its,0,hv,Heap.get?_push_size _ rfl⟩
theorem Inv.fresh (I:Inv X pins σ H s):H s.heap.objs.size=none:=I.hok.fresh (Nat.le_refl _)
theorem Inv.lstM (I:Inv X pins σ H s) (hH:H l=some (.lst xs)):xs.length<=sizeLine/\∃ (its:List Value) (n:Nat),Vals xs its/\xs.length=its.length/\s.heap.get? l=some { cls:=.type "list",data:=.seq its.toArray n }:=by
 obtain ⟨z,its,n,r,e⟩:=I.hok l _ hH;exact ⟨z,its,n,r,r.length,e⟩
end
section
variable {X:Cx}
def A6s:V->List V->Hp->VK->Prop:=fun x vs H Q=>∃ l xs y,x=.ref l/\vs=[y]/\H l=some (.lst xs)/\xs.length < sizeLine/\Q .non (upd H l (.lst (xs++[y])))
theorem G7:MtM X "list.append" A6s:=by
 intro pins s σ H x vs v us Q I rx rv h;obtain ⟨l,xs,y,rfl,rfl,hH,hz,q⟩:=h;cases rx;obtain ⟨u,rfl,ru⟩:=rv.one;obtain ⟨z,its,n,r,hl,e⟩:=I.lstM hH;refine call_meets F.slot_list_append ⟨_,e,rfl⟩ F.entry_list_append (F.args_list_append_2 _ _) (PySem.list_append l its.toArray n u (by rw [List.size_toArray]; omega)) ⟨e,?_⟩;refine ⟨.non,_,I.lset (its':=its++[u]) hH e (by simp) (r.append (.cons ru .nil)) ?_,rfl,q⟩;rw [List.length_append,List.length_singleton];omega
end
section
variable {prog:Program} {w:World} {A:Around} {E:Value->Shared->Prop} {s:Shared}
end
section
variable {X:Cx}
end
end L2
namespace Att
open PySem PySem.W PySem.Calls PyProof.Rows
theorem V3 {P:Params} {h:Heap}:∀ (ns:List Int) (vs:List Value),WellAll P h vs (ns.map WData.int)->IntsAre vs ns:=by
 intro ns;induction ns with
 | nil =>
  intro vs w;rw [List.map_nil] at w;cases w;exact .nil
 | cons n ns ih =>
  intro vs w;rw [List.map_cons] at w;cases w with
  | cons a b =>
   cases a;exact .cons _ _ (ih _ b)
theorem A6n {l:OpenLaw} {n:Nat} (hn:l.most=some n) {P:Params} {h:Heap} {args:List WData} {vals:List Value}
  (hpre:l.row.toRowW.claim.pre args=true) (hwl:WellAll P h vals args) :
  ∃ a vs ns,vals=[Value.ref a]/\args=[WData.list (ns.map WData.int)]/\h.get? a=some { cls:=.type "list",data:=.seq vs.toArray }/\IntsAre vs ns/\ns.length<=n:=by
 have hsh:WShape.hasAll [] args [.list .int]=true:=(pre_splitW hpre).1;have hc:l.pre.holds [] { args:=args }=true:=(pre_splitW hpre).2;obtain ⟨d,r,rfl,h1,h2⟩:=hasAllW_cons hsh;obtain rfl:=hasAllW_nil h2;obtain ⟨xs,rfl,h3⟩:=hasW_list h1;obtain ⟨ns,rfl⟩:=items_int h3;have hlen:ns.length<=n:=by
  unfold OpenLaw.pre at hc;have h4:(WTm.not (.lt (.lit (.int (n:Int))) (.len (.arg 0)))).holds [] { args:=[.list (ns.map .int)] }=true:=by
   have h4:=(holds_andW hc).1;rw [hn] at h4;exact h4
  have h5:=condW_of h4 (w_not (w_lt w_lit (w_len_list (w_arg rfl))));rw [List.length_map] at h5;refine Nat.le_of_not_lt fun q=>?_;have q':(n:Int) < ((ns.length:Nat):Int):=by omega
  first
   | (rw [decide_eq_true q'] at h5; exact absurd h5 (by decide))
   | (simp at h5; omega)
 cases hwl with
 | cons w1 w2 =>
  cases w2;cases w1 with
  | list ho hall=>exact ⟨_,_,ns,rfl,rfl,ho,V3 ns _ hall,hlen⟩
theorem A7b (l:OpenLaw) (args:List WData):l.row.toRowW.claim.post args (.bool true) args=true :=
 postW_of (r:=l.row.toRowW) (X:=(true == true))
  (show WShape.has [] (.bool true) .bool=true by first | rfl | decide | simp [WShape.has,WShape.arms,WShape.armsAll])
  (show (WTm.eq .res (.lit (.bool true))).value [] { args:=args,res:=some (.bool true),after:=args }=some (.bool (true == true)) from w_eq_bool (w_res rfl) w_lit) rfl
theorem attach_call {l:OpenLaw} {n:Nat} {q:Program} {loose:List Str} {XP:(Str->Option Value)->Heap->Prop} {YP:World->Heap->Prop} {d:DefRec}
  (hn:l.most=some n) (hdf:d.params.defaults=[])
  (call:∀ (w:World) (s₀ s₁:Shared) (mg mb:Str->Option Value) (fa:Addr) (o:Obj) (pm cd doc:Value) (a:Addr) (vs:List Value) (ns:List Int),
   Ground q loose [] XP w s₀ mg mb s₁.heap->YP w s₁.heap ->
   s₁.heap.get? fa=some o->o.data=.func (docDef d.name d.params d.body d.scope pm cd doc)->s₁.heap.CodeRec cd d.name->mg d.name=some (.ref fa) ->
   s₁.heap.get? a=some { cls:=.type "list",data:=.seq vs.toArray }->IntsAre vs ns->ns.length<=n->s₁.gens=#[] ->
   codeAny (model l.prog w) callerA (.call (.ref fa) ⟨[.ref a],[]⟩) (fun r s'=>r=.ok (.ret (.bool true))/\OldK s₁.heap s'.heap/\s'.os=s₁.os/\AllBare s'.gens) s₁) :
  WalkO q loose XP YP l.row.toRowW d [] (fun f vs=>PySem.call f vs):=by
 intro w s₀ s₁ mg mb G Y fa o pm cd doc dV kV ho hd hcd hD hmg hg args vals as hpre hlay hrd hwl hlo;obtain rfl:dV=.none:=Dflts.none hD hdf;obtain rfl:kV=.none:=Dflts.noKw hD;obtain ⟨a,vs,ns,rfl,rfl,hobj,hints,hlen⟩:=A6n hn hpre hwl;refine enter_call (codeAny_mono (call w s₀ s₁ mg mb fa o pm cd doc a vs ns G Y ho (fd_plain hd) hcd hmg hobj hints hlen hg) fun r s' hq=>?_);obtain ⟨rfl,h2,h3,h4⟩:=hq;exact ⟨.inl ⟨.bool true,.bool true,[],rfl,fun _=>rfl,.bool true,A7b l _,fun _=>⟨List.Pairwise.nil,fun _ hm=>(nomatch hm)⟩⟩,h2,h3,h4⟩
section
variable {prog:Program} {w:World} {A:Around} {E:Value->Shared->Prop} {s:Shared} {K:Frag}
end
end Att
namespace L2
open PySem PySem.Spec PyProof.Rows
theorem A0k:∀ {vs:List Value} {ns:List Int},IntsAre vs ns->Vals (ns.map V.int) vs
 | _,_,.nil=>.nil
 | _,_,.cons n t h=>.cons ⟨t,rfl⟩ (A0k h)
def Only (H:Hp):Prop:=∀ b,H b=none\/∃ o xs,H b=some (.frz o (.lst xs))
theorem B2r {P:Program} {w:World} {K:PySem.W.Frag} {mg mb:Str->Option Value} {CX:CXT} {k:Nat} {fa a:Addr} {fd:FuncData} {x:Str} {sp:Sp} {s₁:Shared} {vs:List Value} {ns:List Int}
  (KX:K.In s₁.heap) (hns:s₁.heap.Ns mainGlobals mg) (hb:s₁.heap.Ns builtinsNs mb) (hbb:∀ x:Str,x≠"__name__"->mb x=bootBuiltins x) (hlim:s₁.heap.NoLimit) (hg:s₁.gens=#[])
  (ha:s₁.heap.get? a=some { cls:=.type "list",data:=.seq vs.toArray }) (hi:IntsAre vs ns) (hl:ns.length<=sizeLine) (hr:Room k callerA)
  (F:∀ base:Heap,K.In base->base.Ns mainGlobals mg->FnOk P w K mg base CX k fa fd [x] sp) (hbind:∀ (s:Shared) (u:Value),BindsTo s fd ⟨[u],[]⟩ [(x,u)])
  (hsp:∀ H:Hp,Only H->SqL K H a (ns.map V.int)->sp [.ref a] H (fun v _=>v=.bl true) fun _ _ _=>False)
  (hCX:∀ H e s',CX [] H s₁ (fun _ _ _=>False) e s'->False) :
  codeAny (model P w) callerA (.call (.ref fa) ⟨[.ref a],[]⟩) (fun r s'=>r=.ok (.ret (.bool true))/\OldK s₁.heap s'.heap/\s'.os=s₁.os/\AllBare s'.gens) s₁:=by
 have rv:=A0k hi;have lenV:=hi.length;have core:∀ H:Hp,Only H->SqL K H a (ns.map V.int)->HOk P w H s₁.heap->(∀ b,H b≠none->b=a)->(H a≠none->K.lookup a=none) ->
   codeAny (model P w) callerA (.call (.ref fa) ⟨[.ref a],[]⟩) (fun r s'=>r=.ok (.ret (.bool true))/\OldK s₁.heap s'.heap/\s'.os=s₁.os/\AllBare s'.gens) s₁:=by
  intro H hO hS hok hA hK;have base_of:∀ {b:Addr} {o:Obj},s₁.heap.get? b=some o->H b=none->(hidT s₁.heap H).get? b=some o:=fun e n=>B2v e n;have noA:∀ {b:Addr} {o:Obj} {es:Array DictEntry} {ep:Nat},s₁.heap.get? b=some o->o.data=.dict es ep->H b=none:=fun {b o es ep} e d=>by
   cases q:H b with
   | none=>rfl
   | some u =>
    have e':b=a:=hA b (by rw [q]; simp);subst e';rw [ha] at e; cases e;have d':Data.seq vs.toArray _=Data.dict es ep:=d;cases d'
  have nsK:∀ {b:Addr} {m:Str->Option Value},s₁.heap.Ns b m->(hidT s₁.heap H).Ns b m:=fun {b m} ⟨o,es,ep,e,d,r⟩=>⟨o,es,ep,base_of e (noA e d),d,r⟩;have hKb:K.In (hidT s₁.heap H):=fun b o e=>base_of (KX b o e) (by
   cases q:H b with
   | none=>rfl
   | some u =>
    have e':b=a:=hA b (by rw [q]; simp);subst e';rw [hK (by rw [q]; simp)] at e; cases e)
  have hM:Mod K mg (hidT s₁.heap H):=⟨hKb,nsK hns,⟨mb,nsK hb,hbb⟩,let ⟨mc,h1,h2⟩:=hlim; ⟨mc,nsK h1,h2⟩⟩;have e0:Env0 P w K mg (hidT s₁.heap H) callerA [] s₁ H:=⟨rfl,hM,fun b o e=>B7z e,Nat.le_of_eq (B0m _ _),trivial,fun b hb=>absurd (show b ∈ ([]:List Addr) from hb) (by simp),hok,.of_eq hg⟩;refine codeAny_mono ((F _ hKb (nsK hns)).run callerA [] s₁ H ⟨[.ref a],[]⟩ [.ref a] [.ref a] _ _ hr e0 (hbind s₁ (.ref a)) (.cons rfl .nil) (hsp H hO hS)) fun r s' h=>?_;cases r with
  | error e=>exact (hCX H e s' h).elim
  | ok fl =>
   cases fl with
   | next=>exact False.elim h
   | brk=>exact False.elim h
   | cont=>exact False.elim h
   | ret u =>
    obtain ⟨v,H',os,bare,un,hok',r',q⟩:=h;have q':v=.bl true:=q;subst q';obtain rfl:u=Value.bool true:=r';refine ⟨rfl,OldK.of_keep fun b o e=>?_,os,bare⟩;cases q:H b with
    | none=>exact un.keep b o e q (by intro z; exact absurd (show b ∈ ([]:List Addr) from z) (by simp)) (by simp)
    | some u =>
     rcases hO b with z | ⟨ob,xs,z⟩
     ·rw [q] at z; cases z
     ·have z2:=un.frzs b ob _ z;obtain ⟨e1,_⟩:=hok b _ z;obtain ⟨e2,_⟩:=hok' b _ z2;rw [e] at e1; cases e1;exact e2
 cases hk:K.lookup a with
 | some o =>
  have e:=KX a o hk;rw [ha] at e;cases e;refine core (fun _=>none) (fun _=>.inl rfl) (.inr ⟨_,vs.toArray,_,hk,rfl,rfl,rfl,by rw [List.size_toArray,lenV]; exact hl,by simpa using rv⟩) (fun b u z=>by have z':(none:Option HO)=some u:=z; cases z') (fun b z=>absurd rfl z) fun z=>absurd rfl z
 | none =>
  refine core (fun b=>if b=a then some (.frz { cls:=.type "list",data:=.seq vs.toArray } (.lst (ns.map V.int))) else none) (fun b=>?_) (.inl (.inr ⟨{ cls:=.type "list",data:=.seq vs.toArray },if_pos rfl⟩)) (fun b u z=>?_) (fun b z=>?_) fun _=>hk
  ·by_cases hb:b=a
   ·exact .inr ⟨_,_,if_pos hb⟩
   ·exact .inl (if_neg hb)
  ·by_cases hb:b=a
   ·have z':=(if_pos hb).symm.trans z;cases z';subst hb;exact ⟨ha,by rw [List.length_map]; exact hl,vs,_,rv,ha⟩
   ·have z':=(if_neg hb).symm.trans z;cases z'
  ·by_cases hb:b=a
   ·exact hb
   ·exact absurd (if_neg hb) z
end L2
namespace L2
open PySem PySem.Spec PyProof.Rows
theorem B5w {l:PySem.W.OpenLaw} {n k:Nat} {q:Program} {loose:List Str} {XP:(Str->Option Value)->Heap->Prop} {YP:World->Heap->Prop} {d:DefRec} {K:Params->PySem.W.Frag} {CX:World->CXT} {sp:World->Sp} {x:Str}
  (hn:l.most=some n) (hn2:n<=sizeLine) (hdf:d.params.defaults=[]) (hr:Room k callerA)
  (hY:∀ (w:World) (h:Heap),YP w h->(K w.params).In h)
  (F:∀ (w:World) (mg:Str->Option Value) (fa:Addr) (h:Heap),(K w.params).In h->h.Ns mainGlobals mg->mg d.name=some (.ref fa) ->
   ∃ fd:FuncData,(∀ (s:Shared) (u:Value),BindsTo s fd ⟨[u],[]⟩ [(x,u)]) /\
    ∀ base:Heap,(K w.params).In base->base.Ns mainGlobals mg->FnOk l.prog w (K w.params) mg base (CX w) k fa fd [x] (sp w))
  (hsp:∀ (w:World) (H:Hp) (a:Addr) (ns:List Int),ns.length<=n->Only H->SqL (K w.params) H a (ns.map V.int)->sp w [.ref a] H (fun v _=>v=.bl true) fun _ _ _=>False)
  (hCX:∀ (w:World) (H:Hp) (s:Shared) (e:Value) (s':Shared),CX w [] H s (fun _ _ _=>False) e s'->False) :
  PySem.W.WalkO q loose XP YP l.row.toRowW d [] (fun f vs=>PySem.call f vs):=by
 refine Att.attach_call hn hdf fun w s₀ s₁ mg mb fa o pm cd doc a vs ns G Y ho hd hcd hmg hobj hints hlen hg=>?_;have KX:=hY w _ Y;obtain ⟨fd,hb,hF⟩:=F w mg fa _ KX G.T.g hmg;exact B2r KX G.T.g G.T.b G.T.builtins G.T.nolimit hg hobj hints (Nat.le_trans hlen hn2) hr hF hb (fun H hO hS=>hsp w H a ns hlen hO hS) fun H e s'=>hCX w H s₁ e s'
end L2
namespace L2
open PySem PySem.Spec PyProof.Rows
abbrev CX0:CXT:=fun _ _ _ _ _ _=>False
abbrev E0:XK:=fun _ _ _=>False
theorem C0 {X:Cx}:A5a CX0 X E0:=fun _ _ _ _ _ _ _ h=>h.elim
structure Fun (K:PySem.W.Frag) (x qual:Str) (st:Stmt) (f:Addr) (fd:FuncData):Prop where
 ex:∃ (oc:Value) (od:Option Addr) (kV doc pm:Value) (an:Option Addr) (cdv ct:Value) (osl:Array (Option Value)),
  fd=PySem.W.fnOf x qual (B1 st) (B0 st) (A6 st) .none kV doc pm an cdv ct/\K.lookup f=some ⟨oc,od,.func fd,osl⟩/\PySem.W.codeIn K cdv qual=true
 kp:PySem.W.keepIn K (.ref f)=true
section
variable {P:Program} {w:World} {K:PySem.W.Frag} {mg:Str->Option Value} {base:Heap}
theorem Fun.ok {x qual:Str} {st:Stmt} {f:Addr} {fd:FuncData} {N ps:List Str} {k:Nat} {sp:Sp} (F:Fun K x qual st f fd) (S:FnScope N ps (A6 st)) (len:∀ vs H Q E,sp vs H Q E->vs.length=ps.length)
  (hbody:∀ (cdv:Value) (A:Around) (outer:List Env) (s:Shared) (H:Hp) (vs:List V) (Q:VK) (E:XK),Room k (A.deeper (envOfC qual (A6 st) s.heap.objs.size f cdv))->sp vs H Q E ->
   ∃ t,PSs (cxOf CX0 P w K mg base N qual (A6 st) f cdv A outer s H E).nox (B0 st) t/\t { nx:=fun _ H'=>Q .non H',rt:=Q } (start N vs) H):FnOk P w K mg base CX0 (k + 1) f fd ps sp:=by
 obtain ⟨oc,od,kV,doc,pm,an,cdv,ct,osl,rfl,lk,hcd⟩:=F.ex;refine C3h lk hcd S len fun A outer s H vs Q E hr hsp=>?_;obtain ⟨t,h,q⟩:=hbody cdv A outer s H vs Q E hr hsp;exact ⟨t,h.nox,q⟩
theorem Fun.binds {x qual:Str} {st:Stmt} {f:Addr} {fd:FuncData} {ps:List Str} (F:Fun K x qual st f fd)
  (h:∀ (kV doc pm:Value) (an:Option Addr) (cdv ct:Value) (us:List Value),us.length=ps.length->bindArgs (PySem.W.fnOf x qual (B1 st) (B0 st) (A6 st) .none kV doc pm an cdv ct) ⟨us,[]⟩=pure (ps.zip us)):Binds K fd ps []:=by
 obtain ⟨oc,od,kV,doc,pm,an,cdv,ct,osl,rfl,lk,hcd⟩:=F.ex;exact .all (h kV doc pm an cdv ct)
theorem D6 {x qual:Str} {st:Stmt} {f:Addr} {oc:Value} {od an:Option Addr} {osl:Array (Option Value)} {kV doc pm cdv ct:Value} (l:K.lookup f=some ⟨oc,od,.func (PySem.W.fnOf x qual (B1 st) (B0 st) (A6 st) .none kV doc pm an cdv ct),osl⟩)
  (c:PySem.W.codeIn K cdv qual=true) (k:PySem.W.keepIn K (.ref f)=true):Fun K x qual st f (PySem.W.fnOf x qual (B1 st) (B0 st) (A6 st) .none kV doc pm an cdv ct):=⟨⟨oc,od,kV,doc,pm,an,cdv,ct,osl,rfl,l,c⟩,k⟩
end
theorem A0o {n:Nat} (h:n<=1000):n < sizeLine:=Nat.lt_of_le_of_lt h (by decide)
section
variable {X:Cx}
theorem pv (i:Nat) {x:Str} {pos:Pos} (hN:X.N[i]?=some x:=by rfl) (hv:Vis X.env.scope x:=by first | exact Or.inl rfl | exact Or.inr (Or.inl rfl) | exact Or.inr (Or.inr rfl)) (hd:(x == ("__debug__":Str))=false:=by decide)
  (hcd:(x == ("__classdict__":Str))=false:=by decide):PE X (.Name x pos) (tVar i):=B9j hN hv hd hcd
end
theorem iteF {A B:Prop} (h:B):if false=true then A else B:=by
 rw [if_neg Bool.false_ne_true];exact h
theorem iteT {A B:Prop} (h:A):if true=true then A else B:=by
 rw [if_pos rfl];exact h
theorem ite2 {c A B:Prop} [Decidable c] (h1:c->A) (h2:¬ c->B):if c then A else B:=by
 by_cases h:c
 ·rw [if_pos h];exact h1 h
 ·rw [if_neg h];exact h2 h
def Same (H H':Hp):Prop:=∀ b o,H b=some o->H' b=some o
theorem Same.refl (H:Hp):Same H H:=fun _ _ h=>h
theorem Same.trans {H H1 H2:Hp} (a:Same H H1) (b:Same H1 H2):Same H H2:=fun c o h=>b c o (a c o h)
theorem Same.seq {K:PySem.W.Frag} {H H':Hp} {a:Addr} {xs:List V} (e:Same H H') (h:SqL K H a xs):SqL K H' a xs:=by
 rcases h with (h | ⟨o,h⟩) | h
 ·exact .inl (.inl (e _ _ h))
 ·exact .inl (.inr ⟨o,e _ _ h⟩)
 ·exact .inr h
end L2
namespace My
def Sm (k:Nat) (x:Int):Prop:=x.natAbs < 2 ^ k
theorem Sm.mono {k l:Nat} {x:Int} (h:Sm k x) (e:k<=l):Sm l x:=Nat.lt_of_lt_of_le h (Nat.pow_le_pow_right (by decide) e)
theorem Sm.mul {k l:Nat} {x y:Int} (h:Sm k x) (g:Sm l y):Sm (k + l) (x * y):=by
 unfold Sm at *;rw [Int.natAbs_mul,Nat.pow_add];rcases Nat.eq_zero_or_pos y.natAbs with e | e
 ·rw [e,Nat.mul_zero]; exact Nat.mul_pos (Nat.two_pow_pos _) (Nat.two_pow_pos _)
 ·exact Nat.lt_of_lt_of_le (Nat.mul_lt_mul_of_pos_right h e) (Nat.mul_le_mul_left _ (Nat.le_of_lt g))
theorem Sm.add {k:Nat} {x y:Int} (h:Sm k x) (g:Sm k y):Sm (k + 1) (x + y):=by
 unfold Sm at *;rw [Nat.pow_succ];have:=Int.natAbs_add_le x y;omega
theorem Sm.neg {k:Nat} {x:Int} (h:Sm k x):Sm k (-x):=by
 unfold Sm at *;rw [Int.natAbs_neg]; exact h
theorem Sm.sub {k:Nat} {x y:Int} (h:Sm k x) (g:Sm k y):Sm (k + 1) (x - y):=by
 rw [Int.sub_eq_add_neg]; exact h.add g.neg
theorem Sm.le {k:Nat} {x y:Int} (h:Sm k x) (g:y.natAbs<=x.natAbs):Sm k y:=Nat.lt_of_le_of_lt g h
theorem Sm.log {k:Nat} {x:Int} (h:Sm k x) (hk:0 < k):x.natAbs.log2 < k:=by
 by_cases h0:x.natAbs=0
 ·rw [h0]; exact hk
 ·exact (Nat.log2_lt h0).mpr h
theorem B0p (a b:Int):Int.gcd b (a % b)=Int.gcd a b:=by
 have h:a % b=a + b * (-(a / b)):=by
  have:=Int.emod_def a b;rw [this,Int.mul_neg]; omega
 rw [h,Int.gcd_add_mul_left_right,Int.gcd_comm]
theorem B8d (a b:Int):Int.gcd (if a < 0 then -a else a) (if b < 0 then -b else b)=Int.gcd a b:=by
 unfold Int.gcd;congr 1
 ·split <;> omega
 ·split <;> omega
theorem A4t (a:Int) (h:0<=a):((Int.gcd a 0:Nat):Int)=a:=by
 rw [Int.gcd_zero_right]; omega
def sh (t b:Int):Int:=if b < 0 then -((Int.gcd t b:Nat):Int) else ((Int.gcd t b:Nat):Int)
theorem B83 {t b:Int} (h:b≠0):sh t b≠0:=by
 have:Int.gcd t b≠0:=fun e=>h (Int.gcd_eq_zero_iff.mp e).2;unfold sh; split <;> omega
theorem B84 (t b:Int):(sh t b).natAbs=Int.gcd t b:=by
 unfold sh; split <;> omega
theorem A3i (t b:Int):sh t b ∣ t:=by
 unfold sh; split
 ·exact Int.neg_dvd.mpr (Int.gcd_dvd_left ..)
 ·exact Int.gcd_dvd_left ..
theorem B1q (t b:Int):sh t b ∣ b:=by
 unfold sh; split
 ·exact Int.neg_dvd.mpr (Int.gcd_dvd_right ..)
 ·exact Int.gcd_dvd_right ..
theorem A9g {t b:Int} (h:b≠0):t.fdiv (sh t b)=(Rat.divInt t b).num:=by
 rw [Int.fdiv_eq_ediv_of_dvd (A3i t b),Rat.num_divInt,Int.gcd_comm b t];unfold sh;split
 ·rename_i h1;rw [Int.sign_eq_neg_one_of_neg h1,Int.ediv_neg,Int.neg_one_mul,Int.neg_ediv_of_dvd (Int.gcd_dvd_left ..)]
 ·rename_i h1;rw [Int.sign_eq_one_of_pos (by omega),Int.one_mul]
theorem B72 {t b:Int} (h:b≠0):b.fdiv (sh t b)=((Rat.divInt t b).den:Int):=by
 rw [Int.fdiv_eq_ediv_of_dvd (B1q t b),Rat.den_divInt,if_neg h,Int.gcd_comm b t];unfold sh;split
 ·rename_i h1;rw [Int.ediv_neg,Int.natCast_ediv];have e:(b.natAbs:Int)=-b:=by omega
  rw [e,Int.neg_ediv_of_dvd (Int.gcd_dvd_right ..)]
 ·rename_i h1;rw [Int.natCast_ediv];have e:(b.natAbs:Int)=b:=by omega
  rw [e]
theorem C03 (t b:Int):(Rat.divInt t b).num.natAbs<=t.natAbs:=by
 by_cases h:b=0
 ·subst h; simp [Rat.divInt_zero]
 ·rw [<- A9g h,Int.fdiv_eq_ediv_of_dvd (A3i t b)];have:=Int.natAbs_ediv_le_natAbs t (sh t b);exact this
theorem C18 {t b:Int} (h:b≠0):(Rat.divInt t b).den<=b.natAbs:=by
 rw [Rat.den_divInt,if_neg h];exact Nat.div_le_self _ _
def SmQ (k:Nat) (q:Rat):Prop:=Sm k q.num/\Sm k (q.den:Int)
theorem den0 (q:Rat):(q.den:Int)≠0:=by have:=q.den_nz; omega
theorem denp (q:Rat):0 < (q.den:Int):=by have:=q.den_nz; omega
theorem den2 (p q:Rat):(p.den:Int) * (q.den:Int)≠0:=Int.mul_ne_zero (den0 p) (den0 q)
theorem B9a (p q:Rat):Rat.divInt (p.num * q.den + q.num * p.den) ((p.den:Int) * q.den)=p + q:=by
 rw [<- Rat.divInt_add_divInt _ _ (den0 p) (den0 q),Rat.num_divInt_den,Rat.num_divInt_den]
theorem B88 (p q:Rat):Rat.divInt (p.num * q.den - q.num * p.den) ((p.den:Int) * q.den)=p - q:=by
 rw [<- Rat.divInt_sub_divInt _ _ (den0 p) (den0 q),Rat.num_divInt_den,Rat.num_divInt_den]
theorem B89 (p q:Rat):Rat.divInt (p.num * q.num) ((p.den:Int) * q.den)=p * q:=by
 rw [<- Rat.divInt_mul_divInt,Rat.num_divInt_den,Rat.num_divInt_den]
theorem B6p (p q:Rat):Rat.divInt (p.num * q.den) ((p.den:Int) * q.num)=p / q:=by
 rw [Rat.div_def,Rat.inv_def,<- Rat.divInt_mul_divInt,Rat.num_divInt_den]
def W:LQ->Nat
 | []=>1
 | q :: r=>q.den * W r
def S:LQ->Rat
 | []=>0
 | q :: r=>q + S r
theorem B1j (a b:LQ):S (a++b)=S a + S b:=by
 induction a with
 | nil=>simp only [List.nil_append,S,Rat.zero_add]
 | cons q r ih=>simp only [List.cons_append,S,ih,Rat.add_assoc]
end My
namespace My
def SmR (n d:Nat) (q:Rat):Prop:=Sm n q.num/\Sm d (q.den:Int)
theorem SmR.mono {n d n' d':Nat} {q:Rat} (h:SmR n d q) (h1:n<=n') (h2:d<=d'):SmR n' d' q:=⟨h.1.mono h1,h.2.mono h2⟩
theorem SmR.q {n d:Nat} {q:Rat} (h:SmR n d q) (h1:n<=3900) (h2:d<=3900):SmQ 3900 q:=⟨h.1.mono h1,h.2.mono h2⟩
theorem SmR.low {n d:Nat} {t b:Int} (h:Sm n t) (g:Sm d b) (hb:b≠0):SmR n d (Rat.divInt t b) :=
 ⟨h.le (C03 t b),g.le (by simpa using C18 hb)⟩
theorem SmR.add {a b c e:Nat} {p q:Rat} (h:SmR a b p) (g:SmR c e q):SmR (max (a + e) (c + b) + 1) (b + e) (p + q):=by
 rw [<- B9a];exact SmR.low (((h.1.mul g.2).mono (Nat.le_max_left ..)).add ((g.1.mul h.2).mono (Nat.le_max_right ..))) (h.2.mul g.2) (den2 p q)
theorem SmR.sub {a b c e:Nat} {p q:Rat} (h:SmR a b p) (g:SmR c e q):SmR (max (a + e) (c + b) + 1) (b + e) (p - q):=by
 rw [<- B88];exact SmR.low (((h.1.mul g.2).mono (Nat.le_max_left ..)).sub ((g.1.mul h.2).mono (Nat.le_max_right ..))) (h.2.mul g.2) (den2 p q)
theorem SmR.mul {a b c e:Nat} {p q:Rat} (h:SmR a b p) (g:SmR c e q):SmR (a + c) (b + e) (p * q):=by
 rw [<- B89];exact SmR.low (h.1.mul g.1) (h.2.mul g.2) (den2 p q)
theorem C02 {q:Rat} (h:q≠0):q.num≠0:=fun e=>h (Rat.num_eq_zero.mp e)
theorem A2q {q:Rat} (h:0 < q):0 < q.num:=by
 have:=(Rat.lt_iff 0 q).mp h;simpa using this
theorem SmR.div {a b c e:Nat} {p q:Rat} (h:SmR a b p) (g:SmR c e q) (hq:q≠0):SmR (a + e) (b + c) (p / q):=by
 rw [<- B6p];exact SmR.low (h.1.mul g.2) (h.2.mul g.1) (Int.mul_ne_zero (den0 p) (C02 hq))
theorem Q4 {t b:Int} (h:0<=t) (hb:0 < b):0<=Rat.divInt t b:=(Rat.divInt_nonneg_iff_of_pos_right hb).mpr h
theorem C2x {t b:Int} (h:0 < t) (hb:0 < b):0 < Rat.divInt t b:=by
 refine Rat.lt_of_le_of_ne (Q4 (by omega) hb) fun e=>?_;have h1:Rat.divInt 0 b=Rat.divInt t b:=by rw [Rat.zero_divInt]; exact e
 have:=(Rat.divInt_eq_divInt_iff (by omega) (by omega)).mp h1;have h2:t * b=0:=by simpa using this.symm
 rcases Int.mul_eq_zero.mp h2 with z | z <;> omega
theorem A4d (p q:Rat):decide (p.num * q.den < q.num * p.den)=decide (p < q):=by
 rw [Bool.eq_iff_iff,decide_eq_true_iff,decide_eq_true_iff,Rat.lt_iff]
def Dec:LR->Prop
 | []=>True
 | [_]=>True
 | c :: d :: r=>d.1 < c.1/\Dec (d :: r)
theorem Dec.tail {c:Rat × Rat} {r:LR} (h:Dec (c :: r)):Dec r:=by
 cases r with
 | nil=>trivial
 | cons d r=>exact h.2
theorem Dec.lt {c:Rat × Rat} {r:LR} (h:Dec (c :: r)):∀ d ∈ r,d.1 < c.1:=by
 induction r generalizing c with
 | nil=>intro d hd; exact absurd hd (by simp)
 | cons e r ih =>
  intro d hd;rcases List.mem_cons.mp hd with rfl | hd
  ·exact h.1
  ·have h3:=ih h.2 d hd;have h4:e.1 < c.1:=h.1;grind
theorem Dec.snoc:∀ {r:LR} {c d:Rat × Rat},Dec (r++[c])->d.1 < c.1->Dec (r++[c]++[d])
 | [],c,d,_,h=>⟨h,trivial⟩
 | [e],c,d,hd,h=>⟨hd.1,h,trivial⟩
 | e :: f :: r,c,d,hd,h=>⟨hd.1,Dec.snoc (r:=f :: r) hd.2 h⟩
theorem Dec.get:∀ {l:LR} {i j:Nat} {c d:Rat × Rat},Dec l->l[i]?=some c->l[j]?=some d->i < j->d.1 < c.1
 | [],i,j,c,d,_,h,_,_=>by simp at h
 | e :: r,0,j + 1,c,d,hd,h,g,_=>by
  have h':e=c:=by simpa using h
  subst h';exact hd.lt d (List.mem_of_getElem? (by simpa using g))
 | e :: r,i + 1,j + 1,c,d,hd,h,g,hij=>Dec.get (l:=r) hd.tail (by simpa using h) (by simpa using g) (by omega)
end My
namespace L2
open PySem PySem.Spec PyProof.Rows
section
variable {X:Cx}
theorem X9 {x:Int} (h:My.Sm 8000 x):Builtin.Int.intBits x<=2 ^ 20:=by
 have e:(2:Nat) ^ 20=1048576:=by decide
 have h2:=h.log (by decide);unfold Builtin.Int.intBits;split <;> omega
def B8p (i j:Int):Prop:=My.Sm 8000 i/\My.Sm 8000 j
def C3l (_ j:Int):Prop:=j≠0/\My.Sm 8000 j
theorem E7:OpR X (binaryOp .Mult) (rI B8p fun i j=>.int (i * j)):=opI fun _ _ _ _ _ _ _ hc q=>mul_int q (.of_bits (X9 hc.1) (X9 hc.2))
theorem J2:OpR X (binaryOp .FloorDiv) (rI C3l fun i j=>.int (i.fdiv j)):=opI fun _ _ _ _ _ _ _ hc q =>
 floordiv_int hc.1 q (.inl (PyProof.noPylong_of_log2 (Nat.lt_of_lt_of_le (hc.2.log (by decide)) (by decide))))
def kitB (T c:String):Option Bool:=if (Value.type T == Value.type c)=true then some true else if PySem.W.kitMeta c=true then (fastBuiltinMro T).map (·.contains (Value.type c)) else none
theorem B2s (K:PySem.W.Frag) {T c:String} {b:Bool} (h:kitB T c=some b):PySem.W.kitOne K (.type T) (.type c)=some b:=h
def TyV (K:PySem.W.Frag) (H:Hp) (x:V) (T:String):Prop:=match x with
 | .non=>T="NoneType"
 | .bl _=>T="bool"
 | .int _=>T="int"
 | .str _=>T="str"
 | .ref a=>(T="list"/\∃ xs,SqL K H a xs)\/(T="tuple"/\∃ xs,SqT K H a xs)\/(T="dict"/\∃ kvs,H a=some (.dK kvs))
 | _=>False
theorem A20:CallR X (.builtin "isinstance") (fun xs H Q=>∃ x c T b,xs=[x,.ty c]/\TyV X.K H x T/\kitB T c=some b/\Q (.bl b) H):=by
 intro pins s σ H xs us Q I r h;obtain ⟨x,c,T,b,rfl,ty,e,q⟩:=h;obtain ⟨u,v,rfl,ru,rv⟩:=Vals.two r;cases (show v=Value.type c from rv);have fin:∀ tk,EP X pins σ Q (.bool b) { s with toks:=tk }:=fun tk=>⟨.bl b,H,I.tok tk,rfl,q⟩;have e':=B2s X.K e;cases x with
 | non=>cases (show T=_ from ty); cases (show u=Value.none from ru); exact PySem.W.kia_one PySem.W.kitx_none I.kIn True.intro e' (fun z=>nomatch z) fin
 | bl y=>cases (show T=_ from ty); cases (show u=Value.bool y from ru); exact PySem.W.kia_one PySem.W.kitx_bool I.kIn True.intro e' (fun z=>nomatch z) fin
 | int i=>cases (show T=_ from ty); obtain ⟨t,q'⟩:=(show ∃ t,u=Value.int i t from ru); cases q'; exact PySem.W.kia_one PySem.W.kitx_int I.kIn True.intro e' (fun z=>nomatch z) fin
 | str y=>cases (show T=_ from ty); obtain ⟨t,q'⟩:=(show ∃ t,u=Value.str y t from ru); cases q'; exact PySem.W.kia_one PySem.W.kitx_str I.kIn True.intro e' (fun z=>nomatch z) fin
 | ref a =>
  cases (show u=Value.ref a from ru);rcases (show _\/_\/_ from ty) with ⟨rfl,xs,h⟩ | ⟨rfl,xs,h⟩ | ⟨rfl,kvs,h⟩
  ·obtain ⟨its,_,⟨o,n,h1,h2,_⟩,_⟩:=I.list h;exact PySem.W.kia_one PySem.W.kitx_list I.kIn ⟨o,h1,h2⟩ e' (fun z=>nomatch z) fin
  ·obtain ⟨its,_,⟨o,h1,h2,_⟩,_⟩:=I.tuple h;exact PySem.W.kia_one PySem.W.kitx_tuple I.kIn ⟨o,h1,h2⟩ e' (fun z=>nomatch z) fin
  ·obtain ⟨_,_,vs,_,p⟩:=(show ObjOk X.prog X.w H s.heap a (.dK kvs) from I.hok a _ h);obtain ⟨o,es,ep,h1,h2,_⟩:=p;exact PySem.W.kia_one PySem.W.kitx_dict I.kIn ⟨o,h1,h2.1⟩ e' (fun z=>nomatch z) fin
 | byt _=>exact (show False from ty).elim
 | flt _=>exact (show False from ty).elim
 | ty _=>exact (show False from ty).elim
end
def encV:V->PyData
 | .int i=>.int i
 | .str x=>.str x
 | _=>.none
def encK:Key->PyData
 | .inl i=>.int i
 | .inr x=>.str x
def A2w (p:Key × V):PyData × PyData:=(encK p.1,encV p.2)
def NSI (xs:List V):Prop:=∀ c i,xs≠[V.str c,V.int i]
def SqD (K:PySem.W.Frag) (H:Hp) (a:Addr) (xs:List V):Prop:=SqT K H a xs/\(H a=some (.tup xs)\/NSI xs)
theorem SqD.of {K:PySem.W.Frag} {H:Hp} {a:Addr} {xs:List V} (h:H a=some (.tup xs)):SqD K H a xs:=⟨SqT.of h,.inl h⟩
mutual
inductive Den (K:PySem.W.Frag) (H:Hp):V->PyData->Prop
 | non:Den K H .non .none
 | bl (b:Bool):Den K H (.bl b) (.bool b)
 | int (i:Int):Den K H (.int i) (.int i)
 | str (x:Str):Den K H (.str x) (.str x)
 | lst {a:Addr} {xs:List V} {ds:LP}:SqL K H a xs->DenAll K H xs ds->Den K H (.ref a) (.list ds)
 | tup {a:Addr} {xs:List V} {ds:LP}:SqD K H a xs->DenAll K H xs ds->Den K H (.ref a) (.tuple ds)
 | dct {a:Addr} {kvs:List (Key × V)}:H a=some (.dK kvs)->Den K H (.ref a) (.dict (kvs.map A2w))
inductive DenAll (K:PySem.W.Frag) (H:Hp):List V->LP->Prop
 | nil:DenAll K H [] []
 | cons {x:V} {xs:List V} {d:PyData} {ds:LP}:Den K H x d->DenAll K H xs ds->DenAll K H (x :: xs) (d :: ds)
end
section
variable {X:Cx} {pins:List (Addr × Obj)} {σ:St} {H:Hp} {s:Shared}
mutual
theorem Den.reads (I:Inv X pins σ H s):∀ {x:V} {d:PyData} {u:Value},Den X.K H x d->RelV x u->d.canLay0=true->∃ as,Reads s.heap u d as
 | _,_,u,.non,r,_=>by cases (show u=Value.none from r); exact ⟨_,.none⟩
 | _,_,u,.bl b,r,_=>by cases (show u=Value.bool b from r); exact ⟨_,.bool b⟩
 | _,_,u,.int i,r,_=>by obtain ⟨t,q⟩:=(show ∃ t,u=Value.int i t from r); cases q; exact ⟨_,.int i t⟩
 | _,_,u,.str x,r,_=>by obtain ⟨t,q⟩:=(show ∃ t,u=Value.str x t from r); cases q; exact ⟨_,.str x t⟩
 | _,_,u,.lst (a:=a) h ds,r,cl=>by
  cases (show u=Value.ref a from r);obtain ⟨its,rv,⟨o,n,h1,h2,_,h3⟩,_⟩:=I.list h;obtain ⟨as,q⟩:=DenAll.reads I ds rv cl;exact ⟨_,.list h1 h2 h3 (by simpa using q)⟩
 | _,_,u,.tup (a:=a) h ds,r,cl=>by
  cases (show u=Value.ref a from r);obtain ⟨its,rv,⟨o,h1,h2,n,h3⟩,_⟩:=I.tuple h.1;obtain ⟨as,q⟩:=DenAll.reads I ds rv cl;exact ⟨_,.tuple h1 h2 h3 (by simpa using q)⟩
 | _,_,_,.dct _,_,cl=>absurd (show false=true from cl) Bool.false_ne_true
theorem DenAll.reads (I:Inv X pins σ H s):∀ {xs:List V} {ds:LP} {us:List Value},DenAll X.K H xs ds->Vals xs us->PyData.canLayAll0 ds=true->∃ as,ReadsAll s.heap us ds as
 | _,_,_,.nil,.nil,_=>⟨_,.nil⟩
 | _,d :: ds,_,.cons h t,.cons r rs,cl=>by
  have cl':(d.canLay0 && PyData.canLayAll0 ds)=true:=cl;rw [Bool.and_eq_true] at cl';obtain ⟨as,q⟩:=Den.reads I h r cl'.1;obtain ⟨bs,q'⟩:=DenAll.reads I t rs cl'.2;exact ⟨_,.cons q q'⟩
end
end
section
variable {X:Cx}
def rEqD (K:PySem.W.Frag):R2:=fun x y H Q=>∃ dx dy,Den K H x dx/\Den K H y dy/\dx.canLay0=true/\dy.canLay0=true/\dx.depth<=60/\Q (.bl (PyData.eqv dx dy)) H
def rNeD (K:PySem.W.Frag):R2:=fun x y H Q=>∃ dx dy,Den K H x dx/\Den K H y dy/\dx.canLay0=true/\dy.canLay0=true/\dx.depth<=60/\Q (.bl (!PyData.eqv dx dy)) H
theorem C0t (hu:X.A.units + 64 < cLine):OpR X (compareOp .Eq) (rEqD X.K):=by
 intro pins s σ H x y v u Q I rx ry h;obtain ⟨dx,dy,h1,h2,c1,c2,hd,q⟩:=h;obtain ⟨as,r1⟩:=h1.reads I rx c1;obtain ⟨bs,r2⟩:=h2.reads I ry c2;exact PySem.SeqAt.compareEq_reads r1 r2 c1 c2 (by omega) ⟨.bl _,H,I,rfl,q⟩
theorem C0p (hu:X.A.units + 64 < cLine):OpR X (compareOp .NotEq) (rNeD X.K):=by
 intro pins s σ H x y v u Q I rx ry h;obtain ⟨dx,dy,h1,h2,c1,c2,hd,q⟩:=h;obtain ⟨as,r1⟩:=h1.reads I rx c1;obtain ⟨bs,r2⟩:=h2.reads I ry c2;exact PySem.SeqAt.compareNe_reads r1 r2 c1 c2 (by omega) ⟨.bl _,H,I,rfl,q⟩
end
def Kp (p:Addr) (H H':Hp):Prop:=∀ b o,b≠p->H b=some o->H' b=some o
theorem Kp.upd {p:Addr} {H:Hp} {o:HO}:Kp p H (upd H p o):=fun b u n e=>by rw [D8 n]; exact e
theorem Kp.trans {p:Addr} {H H1 H2:Hp} (a:Kp p H H1) (b:Kp p H1 H2):Kp p H H2:=fun c o n e=>b c o n (a c o n e)
theorem Kp.refl {p:Addr} {H:Hp}:Kp p H H:=fun _ _ _ e=>e
theorem Same.kp {p:Addr} {H H':Hp} (a:Same H H'):Kp p H H':=fun b o _ e=>a b o e
theorem Same.upd {p:Addr} {H:Hp} {o:HO} (h:H p=none):Same H (upd H p o):=fun b u e=>by rw [D8 (F5 e h)]; exact e
theorem SqT.same {K:PySem.W.Frag} {H H':Hp} {a:Addr} {xs:List V} (e:Same H H') (h:SqT K H a xs):SqT K H' a xs:=by
 rcases h with (h | ⟨o,h⟩) | h
 ·exact .inl (.inl (e _ _ h))
 ·exact .inl (.inr ⟨o,e _ _ h⟩)
 ·exact .inr h
theorem at0 {α:Type} {x:α} {xs:List α}:atI (x :: xs) 0=some x:=M0 (j:=0) rfl
theorem at1 {α:Type} {x y:α} {xs:List α}:atI (x :: y :: xs) 1=some y:=M0 (j:=1) rfl
theorem at2 {α:Type} {x y z:α} {xs:List α}:atI (x :: y :: z :: xs) 2=some z:=M0 (j:=2) rfl
theorem at3 {α:Type} {x y z w:α} {xs:List α}:atI (x :: y :: z :: w :: xs) 3=some w:=M0 (j:=3) rfl
end L2
namespace L2
open PySem PySem.Spec PyProof.Rows
theorem A1r {prog:Program} {w:World} {A:Around} {R:Result->Shared->Prop} {s:Shared} {elt target iter:Expr} {ifs:List Expr} {scope:Scope} {pos:Pos} {it acc:Value} {env:Env} (I:Nat->Shared->Prop)
    (turn:∀ n s,I n s->wpAny (model prog w) A (pyNext it) (fun r s₁=>match r with
      | none=>R (.ok .next) s₁
      | some v=>wpAny (model prog w) A (letOwnedTupleGo target it v) (fun _ s₁'=>wpAny (model prog w) A (assign target env v) (fun _ s₂ =>
          wpAny (model prog w) A (forIn ifs true fun c r=>if r=true then do let ok <- isTrue c env (eval c env); pure (ForInStep.yield ok) else pure (ForInStep.yield r)) (fun ok s₃ =>
            if ok=true then wpAny (model prog w) A (eval elt env) (fun x s₄ =>
              wpAny (model prog w) A (call (.builtin "list.append") [acc,x]) (fun _ s₅=>∃ m,m < n/\I m s₅) (fun _ _=>False) s₄) (fun _ _=>False) s₃
            else ∃ m,m < n/\I m s₃) (fun _ _=>False) s₂) (fun _ _=>False) s₁') (fun _ _=>False) s₁) (fun _ _=>False) s)
    (n:Nat) (h:I n s):codeAny (model prog w) A (.compLoop (.ListComp elt [⟨target,iter,ifs,0⟩] scope pos) 0 it acc env) R s:=by
  refine codeAny_loop rfl I (fun n s hI=>?_) n h;show wpAny _ A ((compTurn (.ListComp elt [⟨target,iter,ifs,0⟩] scope pos) 0 it acc env).onRaise (fun x=>do noteFrame x env; theTreesLotGoes x)) _ _ s;refine wpAny_noted ?_;rw [compTurn_list];refine wpAny_bind (wpAny_standAt (wpAny_bind (wpAny_mono (turn n s hI) (fun r s₁ h₁=>?_) fun _ _ h'=>h'.elim)));cases r with
  | none=>exact wpAny_pure h₁
  | some v =>
    refine wpAny_bind (wpAny_mono h₁ (fun _ s₁' h₁'=>?_) fun _ _ h'=>h'.elim);refine wpAny_bind (wpAny_mono h₁' (fun _ s₂ h₂=>wpAny_bind (wpAny_mono h₂ (fun ok s₃ h₃=>?_) fun _ _ h'=>h'.elim)) fun _ _ h'=>h'.elim);cases ok with
    | false=>exact wpAny_pure ⟨rfl,h₃⟩
    | true =>
      exact wpAny_bind (wpAny_bind (wpAny_mono h₃ (fun x s₄ h₄=>wpAny_bind (wpAny_mono h₄ (fun _ s₅ h₅=>wpAny_pure (wpAny_pure ⟨rfl,h₅⟩)) fun _ _ h'=>h'.elim)) fun _ _ h'=>h'.elim))
def PTs (X:Cx) (ifs:List Expr) (t:TT):Prop :=
 ∀ (pins:List (Addr × Obj)) (s:Shared) (σ:St) (H:Hp) (Q:Bool->Hp->Prop),Inv X pins σ H s->t σ H Q ->
  wpAny (model X.prog X.w) X.A (forIn ifs true fun c r=>if r=true then do let ok <- isTrue c X.env (eval c X.env); pure (ForInStep.yield ok) else pure (ForInStep.yield r)) (TP X pins σ Q) X.xe s
def tYes:TT:=fun _ H Q=>Q true H
theorem B6t {X:Cx}:PTs X [] tYes:=fun pins s σ H Q I h=>wpAny_tests_nil ⟨H,I,h⟩
theorem B6s {X:Cx} {c:Expr} {t:TT} (h:PT X c t):PTs X [c] t:=fun pins s σ H Q I hw=>wpAny_tests_one (h pins s σ H Q I hw)
def Cx.block (X:Cx) (scope:Scope) (cl:List (Str × Addr)) (N':List Str) (s2:Shared) (H2:Hp) (fp:List Addr):Cx where
 prog:=X.prog
 w:=X.w
 K:=X.K
 mg:=X.mg
 base:=X.base
 A:=X.A
 N:=N'
 s₀:=s2
 H₀:=H2
 env:=compEnvC scope cl s2.heap.objs.size X.env
 outer:=X.stack
 stack:=X.stack
 ex:=fp
 fn:=fun _=>false
 calm:=X.calm
 pn:=[]
 xe:=fun _ _=>False
structure CompSc (X:Cx) (scope:Scope) (cl:List (Str × Addr)) (N':List Str) (cap:List (Option Nat)):Prop where
 clos:closureFor scope X.env=pure cl
 sub:∀ x c,cl.lookup x=some c->X.env.cells.lookup x=some c
 has:∀ x,((relabel scope X.env).names.lookup x=some .cell\/(relabel scope X.env).names.lookup x=some .free)->∃ c,cl.lookup x=some c
 kind:scope.kind=.function
 cell:∀ y ∈ scope.names,y.2≠.cell
 names:∀ y ∈ scope.names,y.2=.local->scope.names.lookup y.1=some .local
 nd:N'.Nodup
 len:cap.length=N'.length
 noloc:∀ x c,cl.lookup x=some c->X.env.kindOf x≠some .local
 capt:∀ (i:Nat) (x:Str) (j:Nat),N'[i]?=some x->cap[i]?=some (some j)->X.N[j]?=some x/\((relabel scope X.env).names.lookup x=some .cell\/(relabel scope X.env).names.lookup x=some .free)/\Vis X.env.scope x/\∃ c,cl.lookup x=some c
def capσ (cap:List (Option Nat)) (σ:St):St:=cap.map fun o=>o.bind fun j=>(σ[j]?).join
section
variable {X:Cx} {pins:List (Addr × Obj)} {σ:St} {H:Hp} {s:Shared} {scope:Scope} {cl:List (Str × Addr)} {N':List Str} {cap:List (Option Nat)} {fp:List Addr}
theorem B25 (I:Inv X pins σ H s) (C:CompSc X scope cl N' cap) (hf:∀ b ∈ fp,FpOk X pins H b) (ho:∀ b ∈ fp,∃ o,s.heap.get? b=some o):(X.block scope cl N' s H fp).Ok where
 mod:=I.ok.mod
 kind:=C.kind
 glob:=I.ok.glob
 blt:=I.ok.blt
 above:=Nat.le_refl _
 inj:=fun x y c h1 h2=>I.ok.inj x y c (C.sub x c h1) (C.sub y c h2)
 has:=fun x h=>C.has x h
 cab:=fun x c h _=>absurd (show false=true from h) Bool.false_ne_true
 hd:=I.ok.hd
 frames:=I.ok.frames
 stk:=.inl rfl
 exf:=fun b hb=>⟨fun z=>by
  obtain ⟨o,e⟩:=ho b hb;exact absurd (Heap.lt_size e) (by rw [z]; exact Nat.lt_irrefl _),fun x c h=>(hf b hb).2.2.2.2.1 x c (C.sub x c h)⟩
 bs:=I.bs
 bsz:=Nat.le_trans I.ok.bsz I.sz
 noex:=fun b o e hb=>by
  rcases (hf b hb).2.2.2.1 with z | z
  ·exact I.ok.noex b o e z
  ·exact absurd (Nat.lt_of_lt_of_le (Heap.lt_size e) (Nat.le_trans I.ok.bsz z)) (Nat.lt_irrefl _)
 exfs:=fun b hb z=>by
  rcases List.mem_cons.mp (I.stkSub b z) with e | e
  ·exact (hf b hb).2.1 e
  ·exact (hf b hb).2.2.1 e
 funs:=I.stack
 frf:=I.stkFree
theorem B1b {h1:Heap} {tk:Nat} {m:Str->Option Value} (I:Inv X pins σ H s) (C:CompSc X scope cl N' cap) (hf:∀ b ∈ fp,FpOk X pins H b) (ho:∀ b ∈ fp,∃ o,s.heap.get? b=some o)
  (hn:h1.Ns s.heap.objs.size m) (hk:∀ b o,s.heap.get? b=some o->h1.get? b=some o):Inv (X.block scope cl N' s H fp) [] (capσ cap σ) H { s with heap:=h1,toks:=tk } where
 ok:=B25 I C hf ho
 os:=rfl
 bare:=I.bare
 base:=Un.kept hk
 loc:=⟨m,hn,fun i x v h1' h2 h3=>by
  unfold capσ at h2;rw [List.getElem?_map] at h2;cases e:cap[i]? with
  | none=>rw [e] at h2; cases h2
  | some o =>
   rw [e] at h2;cases o with
   | none=>cases h2
   | some j =>
    obtain ⟨q1,q2,q3,c,q4⟩:=C.capt i x j h1' e;have hv:(σ[j]?).join=some v:=Option.some.inj h2;have hσ:σ[j]?=some (some v):=by
     cases z:σ[j]? with
     | none=>rw [z] at hv; cases hv
     | some y=>rw [z] at hv; cases (show y=some v from hv); rfl
    obtain ⟨m0,hn0,hl0⟩:=I.loc;obtain ⟨u,r,l⟩:=hl0 j x v q1 hσ q3;refine ⟨u,r,.inr ⟨q2,c,q4,?_⟩⟩;rcases l with ⟨l1,_⟩ | ⟨_,c',l2,l3⟩
    ·exact absurd l1 (C.noloc x c q4)
    ·have:=C.sub x c q4;rw [l2] at this;cases this;exact l3.keeps hk⟩
 cell:=fun x c h=>by
  obtain ⟨v,z⟩:=I.cell x c (C.sub x c h);exact ⟨v,z.keeps hk⟩
 free:=I.hok.fresh (Nat.le_refl _)
 freeC:=fun x c h=>I.freeC x c (C.sub x c h)
 pin:=fun p hp=>absurd (show p ∈ ([]:List (Addr × Obj)) from hp) (by simp)
 hok:=I.hok.kept hk
 len:=by unfold capσ; rw [List.length_map]; exact C.len
theorem B1a {H':Hp} {s':Shared} {h':Heap} {σ':St} {pl:List (Addr × Obj)} (I:Inv X pins σ H s) (J:Inv (X.block scope cl N' s H fp) pl σ' H' s') (hf:∀ b ∈ fp,FpOk X pins H b) (hs:Heap.SameBut s.heap.objs.size s'.heap h') :
  Inv X pins σ H' { s' with heap:=h' }:=by
 have ne:∀ b o,s.heap.get? b=some o->b≠s.heap.objs.size:=fun b o e=>Nat.ne_of_lt (Heap.lt_size e);have B:Un (frs X.stack) fp H H' s.heap s'.heap:=J.base;refine I.call' (s':={ s' with heap:=h' }) (ch:=fp) J.os ⟨fun b o e n h1 h2=>?_,fun b o e n h1 h2=>?_,B.free,fun b o e h2=>?_,B.tups,B.frzs,B.tbls⟩ ?_ J.bare (fun b hb=>?_)
 ·show h'.get? b=some o;rw [hs.2 b (ne b o e)]; exact B.keep b o e n h1 h2
 ·show ∃ sl,h'.get? b=_;rw [hs.2 b (ne b o e)]; exact B.slot b o e n h1 h2
 ·show ∃ o',h'.get? b=_;rw [hs.2 b (ne b o e)]; exact B.there b o e h2
 ·intro b u e;have hfree:H' s.heap.objs.size=none:=J.free;have nC:∀ c v,H' c=some v->c≠s.heap.objs.size:=fun c v q z=>by rw [z,hfree] at q; cases q
  refine (J.hok b u e).stay (fun c v hc q=>?_) (fun _ q=>q) fun _ _ q=>q;show h'.get? c=some v;have:c≠s.heap.objs.size:=by
   rcases hc with z | z
   ·rw [z]; exact nC b u e
   ·exact nC c _ z
  rw [hs.2 c this]; exact q
 ·obtain ⟨f0,f1,f2,f3,f4,f5⟩:=hf b hb;exact ⟨f3,f1,f4,f5⟩
end
def A45 (J:It) (g:TG) (tt:TT) (te:TE) (D:Addr) (Fin:Hp->Prop) (σ0:St) (H1:Hp):Prop :=
 ∃ W:Nat->Nat->St->Hp->List V->Prop,(∃ m,W 0 m σ0 (upd H1 D (.lst [])) [])/\∀ i m σ' H' ys,W i m σ' H' ys->H' D=some (.lst ys)/\ys.length < sizeLine /\
  ((J.stop i H'/\Fin H')\/(J.go i H'/\∀ x H2,J.yld i H' x H2->g x σ' H2 fun σ2 H3=>tt σ2 H3 fun b H4=>if b=true then
   te σ2 H4 fun y H5=>∃ zs,H5 D=some (.lst zs)/\zs.length < sizeLine/\∃ m',m' < m/\W (i + 1) m' σ2 (upd H5 D (.lst (zs++[y]))) (zs++[y])
   else ∃ m',m' < m/\W (i + 1) m' σ2 H4 ys))
def B58 (wi:TI) (g:TG) (tt:TT) (te:TE) (cap:List (Option Nat)):TE:=fun σ H Q=>wi σ H fun J H1=>∀ D,H1 D=none->A45 J g tt te D (fun H'=>Q (.ref D) H') (capσ cap σ) H1
section
variable {X:Cx} {scope:Scope} {cl:List (Str × Addr)} {N':List Str} {cap:List (Option Nat)} {elt tg iter:Expr} {ifs:List Expr} {wi:TI} {g:TG} {tt:TT} {te:TE} {pos:Pos}
theorem A1y {pins:List (Addr × Obj)} {σ:St} {H2:Hp} {s2:Shared} {it:Addr} {fp:List Addr} {tn:Nat->Heap->Prop} {J:It} {E:Value->Shared->Prop} {RR:Value->Addr->Result->Shared->Prop} {Fin:Addr->Hp->Prop}
  (hc:X.calm=true) (C:CompSc X scope cl N' cap) (I2:Inv X pins σ H2 s2) (T:Turn X.prog X.w X.K tg J fp it tn) (st2:tn 0 s2.heap) (f2:∀ b ∈ fp,FpOk X pins H2 b)
  (hg:∀ s3 H3 fp,PG (X.block scope cl N' s3 H3 fp) tg g) (ht:∀ s3 H3 fp,PTs (X.block scope cl N' s3 H3 fp) ifs tt) (he:∀ s3 H3 fp,PE (X.block scope cl N' s3 H3 fp) elt te)
  (go:∀ D,H2 D=none->A45 J g tt te D (Fin D) (capσ cap σ) H2)
  (out:∀ (D C:Addr) (s':Shared) (m:Str->Option Value) (H':Hp),s'.heap.Ns C m->C≠X.env.locals->H' C=none->X.s₀.heap.objs.size<=C->(∀ x c,X.env.cells.lookup x=some c->c≠C)->(∀ p ∈ X.pn++pins,p.1≠C)->Fin D H'->Inv X pins σ H' s'->RR (.ref D) C (.ok .next) s') :
  wpAny (model X.prog X.w) X.A (newList []) (fun acc s₃=>wpAny (model X.prog X.w) X.A (newFunctionEnv scope X.env.globals cl [] X.env.qual none .none (some X.env)) (fun cenv s₄ =>
   codeAny (model X.prog X.w) X.A (.compStart (.ListComp elt [⟨tg,iter,ifs,0⟩] scope pos) 0 (.ref it) acc { cenv with scope:=relabel scope X.env }) (RR acc cenv.locals) s₄) E s₃) E s2:=by
 refine wpAny_newObj_type (wpAny_newFunctionEnv C.cell (by intro y hy; simp at hy) (fun h₁ hns₁ hsb₁=>?_) C.kind);have hD:H2 s2.heap.objs.size=none:=I2.hok.fresh (Nat.le_refl _);obtain ⟨W,⟨m0,w0⟩,turn⟩:=go _ hD;have I3:Inv X pins σ (upd H2 s2.heap.objs.size (.lst [])) { s2 with heap:=s2.heap.push { cls:=.type "list",dict:=none,data:=.seq ([]:List Value).toArray } } :=
  I2.laid (t':=s2.toks) (o:=.lst []) (fun b u e=>Heap.get?_push_of_some _ e) (Nat.le_refl _) ⟨Nat.zero_le _,[],0,.nil,Heap.get?_push_size _ rfl⟩
 have f3:∀ b ∈ fp,FpOk X pins (upd H2 s2.heap.objs.size (.lst [])) b:=fun b hb=>by
  obtain ⟨f0,fr⟩:=f2 b hb;obtain ⟨o,e,_⟩:=T.obj _ _ st2 b hb;exact ⟨by rw [D8 (Nat.ne_of_lt (Heap.lt_size e))]; exact f0,fr⟩
 generalize hs3:({ s2 with heap:=s2.heap.push { cls:=.type "list",dict:=none,data:=.seq ([]:List Value).toArray } }:Shared)=s3 at hns₁ hsb₁ I3 ⊢;have o3:∀ b o,s2.heap.get? b=some o->s3.heap.get? b=some o:=fun b o e=>by rw [<- hs3]; exact Heap.get?_push_of_some _ e
 have hk:∀ b o,s3.heap.get? b=some o->h₁.get? b=some o:=fun b o e=>by
  rw [hsb₁.2 b (Nat.ne_of_lt (Heap.lt_size e))]; exact Heap.get?_push_of_some _ e
 have st3:tn 0 s3.heap:=T.keep _ _ _ st2 fun b _ o e=>o3 b o e;have ho:∀ b ∈ fp,∃ o,s3.heap.get? b=some o:=fun b hb=>let ⟨o,e,_⟩:=T.obj _ _ st3 b hb; ⟨o,e⟩;have I4:=B1b (tk:=s3.toks + ([]:List (Str × Value)).length) I3 C f3 ho hns₁ hk;have st4:tn 0 h₁:=T.keep _ _ _ st3 fun b _ o e=>hk b o e;have hX:∀ {H':Hp} {pl:List (Addr × Obj)},(∀ b ∈ fp,H' b=none)->(∀ p ∈ pl,p.1 ∉ fp)->∀ b ∈ fp,FpOk (X.block scope cl N' s3 (upd H2 s2.heap.objs.size (.lst [])) fp) pl H' b:=fun {H' pl} hn hp b hb=>by
  refine ⟨hn b hb,I4.ok.exf b hb |>.1,I4.ok.exfs b hb,.inl hb,(I4.ok.exf b hb).2,fun p hp' z=>?_⟩;have hp'':p ∈ pl:=by simpa [Cx.block] using hp'
  exact hp p hp'' (by rw [z]; exact hb)
 have fr3:∀ b ∈ fp,(upd H2 s2.heap.objs.size (.lst [])) b=none:=fun b hb=>(f3 b hb).1;have loop:∀ s₅:Shared,s₅={ s3 with heap:=h₁,toks:=s3.toks + ([]:List (Str × Value)).length } ->
   codeAny (model X.prog X.w) X.A (.compLoop (.ListComp elt [⟨tg,iter,ifs,0⟩] scope pos) 0 (.ref it) (.ref s2.heap.objs.size) (compEnvC scope cl s3.heap.objs.size X.env)) (RR (.ref s2.heap.objs.size) s3.heap.objs.size) s₅:=by
  rintro s₅ rfl;refine A1r (fun n s'=>∃ i σ' H' ys,Inv (X.block scope cl N' s3 (upd H2 s2.heap.objs.size (.lst [])) fp) [] σ' H' s'/\tn i s'.heap/\(∀ b ∈ fp,H' b=none)/\W i n σ' H' ys) ?_ m0 ⟨0,_,_,[],I4,st4,fr3,w0⟩;rintro n s6 ⟨i,σ6,H6,ys,I6,st6,fr6,w6⟩;obtain ⟨hl6,hz6,hgo⟩:=turn i n σ6 H6 ys w6;rcases hgo with ⟨stop,fin⟩ | ⟨go',step⟩
  ·refine wpAny_mono (T.done (X.block scope cl N' s3 (upd H2 s2.heap.objs.size (.lst [])) fp) rfl rfl rfl hc i [] s6 σ6 H6 (fun _ _=>False) I6 (hX fr6 (fun _ z=>nomatch z)) st6 stop) (fun r s7 ⟨hr,I7⟩=>?_) fun _ _ z=>z.elim;subst hr;obtain ⟨m7,hn7,_⟩:=id I7.loc;refine out _ _ s7 m7 H6 hn7 (Nat.ne_of_gt I3.lt) I7.free I3.sz (fun x c e z=>?_) (fun p hp z=>?_) fin (B1a I3 I7 f3 (.refl ..))
   ·obtain ⟨v,q⟩:=I3.cell x c e;exact absurd q.lt (by rw [z]; exact Nat.lt_irrefl _)
   ·exact absurd (Heap.lt_size (I3.pin p hp).1) (by rw [z]; exact Nat.lt_irrefl _)
  ·refine wpAny_mono (T.item (X.block scope cl N' s3 (upd H2 s2.heap.objs.size (.lst [])) fp) rfl rfl rfl hc i [] s6 σ6 H6 (fun _ _=>False) I6 (hX fr6 (fun _ z=>nomatch z)) st6 go') (fun r s7 ⟨u,hr,h7⟩=>?_) fun _ _ z=>z.elim;subst hr;refine wpAny_mono h7 (fun _ s8 ⟨x,H8,I8,r8,y8,st8,fr8⟩=>?_) fun _ _ z=>z.elim;have I8':=I8.pinned (hX fr8 (fun _ z=>nomatch z)) (T.obj _ _ st8);have again:∀ {s9:Shared} {σ9:St} {H9:Hp},Inv (X.block scope cl N' s3 (upd H2 s2.heap.objs.size (.lst [])) fp) ([]++A02 fp s8.heap) σ9 H9 s9->∀ {zs:List V},(∃ m',m' < n/\W (i + 1) m' σ9 H9 zs) ->
     ∃ m,m < n/\∃ i σ' H' ys,Inv (X.block scope cl N' s3 (upd H2 s2.heap.objs.size (.lst [])) fp) [] σ' H' s9/\tn i s9.heap/\(∀ b ∈ fp,H' b=none)/\W i m σ' H' ys:=fun {s9 σ9 H9} I9 {zs} ⟨m',hm,w9⟩=>by
    refine ⟨m',hm,i + 1,σ9,H9,zs,I9.unpinned,T.keep _ _ _ st8 fun b hb o e=>(I9.pin (b,o) (List.mem_append_right _ (List.mem_append_right _ (O7 hb e)))).1,fun b hb=>?_,w9⟩;obtain ⟨o,e,d⟩:=T.obj _ _ st8 b hb;exact (I9.pin (b,o) (List.mem_append_right _ (List.mem_append_right _ (O7 hb e)))).2.1
   refine wpAny_mono (hg _ _ _ _ s8 σ6 H8 x u _ I8' r8 (step x H8 y8)) (fun _ s9 ⟨σ9,H9,I9,q9⟩=>?_) fun _ _ z=>z.elim;refine wpAny_mono (ht _ _ _ _ s9 σ9 H9 _ I9 q9) (fun ok s10 ⟨H10,I10,q10⟩=>?_) fun _ _ z=>z.elim;cases ok with
   | false=>exact again I10 q10
   | true =>
    rw [if_pos rfl];refine wpAny_mono (he _ _ _ _ s10 σ9 H10 _ I10 q10) (fun yv s11 ⟨y,H11,I11,r11,zs,hz,hlen,q11⟩=>?_) fun _ _ z=>z.elim;refine wpAny_mono (G7 (X:=X.block scope cl N' s3 (upd H2 s2.heap.objs.size (.lst [])) fp) _ s11 σ9 H11 (.ref s2.heap.objs.size) [y] (.ref s2.heap.objs.size) [yv] (fun _ H'=>∃ m',m' < n/\W (i + 1) m' σ9 H' (zs++[y])) I11 rfl (.cons r11 .nil) ⟨_,zs,y,rfl,rfl,hz,hlen,q11⟩) (fun _ s12 ⟨_,H12,I12,_,q12⟩=>?_) fun _ _ z=>z.elim;exact again I12 q12
 exact codeAny_compStart_list (loop _ rfl) (T.self _ 0 _ _ _ st4 (loop _ rfl))
theorem B68 (hc:X.calm=true) (C:CompSc X scope cl N' cap) (hi:PI X tg iter wi) (hg:∀ s3 H3 fp,PG (X.block scope cl N' s3 H3 fp) tg g) (ht:∀ s3 H3 fp,PTs (X.block scope cl N' s3 H3 fp) ifs tt)
  (he:∀ s3 H3 fp,PE (X.block scope cl N' s3 H3 fp) elt te) (hs:∀ x,foldedSetIterable iter X.env x=pure x:=by intro _; rfl):PE X (.ListComp elt [⟨tg,iter,ifs,0⟩] scope pos) (B58 wi g tt te cap):=by
 intro pins s σ H Q I h;rw [eval_ListComp];refine wpAny_comprehension_free (use:=none) rfl hs C.clos C.kind C.names (thn (hi pins s σ H _ I h) fun v s1 h1=>thn h1 fun itv s2 h2=>?_);obtain ⟨it,fp,tn,J,H2,e,I2,T,st2,f2,go⟩:=h2;subst e;refine A1y (RR:=fun acc C=>compPost (model X.prog X.w) X.A X.xe none (EP X pins σ Q) acc C) (Fin:=fun D H'=>Q (.ref D) H') hc C I2 T st2 f2 hg ht he go ?_;intro D C' s' m H' hn n1 n2 n3 n4 n5 fin inv;exact ⟨m,hn,fun h' hs'=>⟨.ref D,H',inv.turned (t':=s'.toks) (fun b o hb e=>(hs'.2 b hb).trans e) n2 n1 (.inr n3) n4 n5,rfl,fin⟩⟩
end
end L2
namespace L2
open PySem PySem.Spec PyProof.Rows
def A1t (env:Env):List (Str × NameKind)->List (Str × Addr)->List (Str × Addr)
 | [],acc=>acc
 | (n,k) :: r,acc=>A1t env r (if (k == .free)=true then (n,(env.cells.lookup n).getD 0) :: acc else acc)
theorem A0h {env:Env}:∀ (l:List (Str × NameKind)) (acc:List (Str × Addr)),(∀ p ∈ l,p.2=.free->(env.cells.lookup p.1).isSome=true) ->
  (forIn l acc (fun x s=>match x with
   | (name,kind)=>if (kind == NameKind.free)=true then do
     let a <- cellOf env name
     pure (ForInStep.yield ((name,a) :: s))
    else pure (ForInStep.yield s)):Sem (List (Str × Addr)))=pure (A1t env l acc)
 | [],acc,_=>rfl
 | (n,k) :: r,acc,h=>by
  rw [List.forIn_cons];have hr:=fun p hp=>h p (List.mem_cons_of_mem _ hp);by_cases hk:(k == NameKind.free)=true
  ·have h1:=h (n,k) List.mem_cons_self (by simpa using hk);obtain ⟨c,hc⟩:=Option.isSome_iff_exists.mp h1;have hc:env.cells.lookup n=some c:=hc;have e1:cellOf env n=pure c:=by unfold cellOf; rw [hc]
   simp only [hk,if_true,e1,pure_bind];rw [A0h r _ hr];show _=pure (A1t env r (if (k == .free)=true then (n,(env.cells.lookup n).getD 0) :: acc else acc));rw [if_pos hk,hc];rfl
  ·simp only [hk,Bool.false_eq_true,if_false,pure_bind];rw [A0h r _ hr];show _=pure (A1t env r (if (k == .free)=true then (n,(env.cells.lookup n).getD 0) :: acc else acc));rw [if_neg hk]
theorem A1s {env:Env}:∀ (l:List (Str × NameKind)) (acc:List (Str × Addr)) (p:Str × Addr),p ∈ A1t env l acc->p ∈ acc\/((p.1,NameKind.free) ∈ l/\p.2=(env.cells.lookup p.1).getD 0)
 | [],acc,p,h=>.inl h
 | (n,k) :: r,acc,p,h=>by
  rcases A1s r _ p h with z | ⟨z,e⟩
  ·by_cases hk:(k == NameKind.free)=true
   ·rw [if_pos hk] at z;rcases List.mem_cons.mp z with rfl | z
    ·right;have:k=.free:=by simpa using hk
     subst this;exact ⟨List.mem_cons_self,rfl⟩
    ·exact .inl z
   ·rw [if_neg hk] at z;exact .inl z
  ·exact .inr ⟨List.mem_cons_of_mem _ z,e⟩
theorem V6 {env:Env}:∀ (l:List (Str × NameKind)) (acc:List (Str × Addr)) (x:Str),((∃ c,(x,c) ∈ acc)\/(x,NameKind.free) ∈ l)->∃ c,(x,c) ∈ A1t env l acc
 | [],acc,x,h=>by
  rcases h with h | h
  ·exact h
  ·exact absurd h (by simp)
 | (n,k) :: r,acc,x,h=>by
  refine V6 r _ x ?_;rcases h with ⟨c,h⟩ | h
  ·left;by_cases hk:(k == NameKind.free)=true
   ·rw [if_pos hk]; exact ⟨c,List.mem_cons_of_mem _ h⟩
   ·rw [if_neg hk]; exact ⟨c,h⟩
  ·rcases List.mem_cons.mp h with e | h
   ·left;cases e;rw [if_pos (by rfl)];exact ⟨_,List.mem_cons_self⟩
   ·exact .inr h
theorem N4 {β:Type} {x:Str}:∀ {l:List (Str × β)} {c:β},(x,c) ∈ l->∃ c',l.lookup x=some c'
 | (n,d) :: r,c,h=>by
  by_cases e:x=n
  ·subst e; exact ⟨d,by simp [List.lookup_cons]⟩
  ·rcases List.mem_cons.mp h with z | z
   ·cases z; exact absurd rfl e
   ·obtain ⟨c',q⟩:=N4 z;refine ⟨c',?_⟩;rw [List.lookup_cons];have:(x == n)=false:=by simpa using e
    rw [this]; exact q
theorem O9 {scope:Scope} {env:Env} {x:Str} {k:NameKind} (hcell:∀ y ∈ scope.names,y.2≠.cell) (h:(relabel scope env).names.lookup x=some k) (hk:k=.cell\/k=.free):(x,NameKind.free) ∈ scope.names:=by
 have h1:=PySem.mem_of_lookup h;obtain ⟨⟨n,k'⟩,hm,e⟩:=List.mem_map.mp (show (x,k) ∈ scope.names.map _ from h1);dsimp only at e;split at e
 ·rename_i q;cases e;simp only [Bool.and_eq_true] at q;have:k'=.free:=by simpa using q.1.1
  subst this;exact hm
 ·cases e;rcases hk with rfl | rfl
  ·exact absurd rfl (hcell _ hm)
  ·exact hm
theorem N8 {env:Env} {x:Str}:∀ {l:List (Str × NameKind)},l.lookup x=some .free ->
  (l.map fun (n,k)=>if (k == NameKind.free && env.scope.kind == .function && env.kindOf n == some .cell) then (n,NameKind.cell) else (n,k)).lookup x=some .cell \/
  (l.map fun (n,k)=>if (k == NameKind.free && env.scope.kind == .function && env.kindOf n == some .cell) then (n,NameKind.cell) else (n,k)).lookup x=some .free
 | [],h=>by simp at h
 | (n,k) :: r,h=>by
  rw [List.lookup_cons] at h;rw [List.map_cons];dsimp only;by_cases e:(x == n)=true
  ·rw [e] at h;have hk:k=.free:=by simpa using h
   subst hk;by_cases q:(NameKind.free == NameKind.free && env.scope.kind == .function && env.kindOf n == some .cell)=true
   ·left; rw [if_pos q,List.lookup_cons,e]
   ·right; rw [if_neg q,List.lookup_cons,e]
  ·have e':(x == n)=false:=by simpa using e
   rw [e'] at h;have:=N8 (env:=env) h;by_cases q:(k == NameKind.free && env.scope.kind == .function && env.kindOf n == some .cell)=true
   ·rw [if_pos q,List.lookup_cons,e']; exact this
   ·rw [if_neg q,List.lookup_cons,e']; exact this
theorem A0t {scope:Scope} {env:Env} {x:Str} (h:scope.names.lookup x=some .free):(relabel scope env).names.lookup x=some .cell\/(relabel scope env).names.lookup x=some .free:=N8 h
theorem F3 {X:Cx} {scope:Scope} {N':List Str} {cap:List (Option Nat)}
  (h1:scope.names.all (fun p=>!(p.2 == .free) || ((X.env.cells.lookup p.1).isSome && !(X.env.kindOf p.1 == some .local)))=true)
  (hk:scope.kind=.function) (h2:scope.names.all (fun p=>!(p.2 == .cell))=true) (h3:scope.names.all (fun p=>!(p.2 == .local) || scope.names.lookup p.1 == some .local)=true)
  (nd:N'.Nodup) (len:cap.length=N'.length)
  (h4:(N'.zip cap).all (fun q=>match q.2 with | none=>true | some j=>(X.N[j]? == some q.1) && (scope.names.lookup q.1 == some .free) && (X.env.scope.names.lookup q.1 == some .cell || X.env.scope.names.lookup q.1 == some .free))=true) :
  CompSc X scope (A1t X.env scope.names []) N' cap:=by
 have hfree:∀ p ∈ scope.names,p.2=.free->(X.env.cells.lookup p.1).isSome=true/\X.env.kindOf p.1≠some .local:=fun p hp e=>by
  have:=List.all_eq_true.mp h1 p hp;rw [e] at this;have this:((X.env.cells.lookup p.1).isSome && !(X.env.kindOf p.1 == some .local))=true:=this;rw [Bool.and_eq_true] at this;refine ⟨this.1,fun z=>?_⟩;rw [z] at this;exact absurd this.2 (by decide)
 have hcell:∀ y ∈ scope.names,y.2≠.cell:=fun y hy e=>by
  have:=List.all_eq_true.mp h2 y hy;rw [e] at this;exact absurd this (by decide)
 have memsub:∀ x c,(A1t X.env scope.names []).lookup x=some c->(x,NameKind.free) ∈ scope.names/\X.env.cells.lookup x=some c:=fun x c h=>by
  rcases A1s _ _ _ (PySem.mem_of_lookup h) with z | ⟨z,e⟩
  ·exact absurd z (by simp)
  ·refine ⟨z,?_⟩;obtain ⟨c',hc'⟩:=Option.isSome_iff_exists.mp (hfree _ z rfl).1;have hc':X.env.cells.lookup x=some c':=hc';have e:c=(X.env.cells.lookup x).getD 0:=e;rw [hc'] at e ⊢;exact congrArg some e.symm
 refine ⟨?_,fun x c h=>(memsub x c h).2,fun x h=>?_,hk,hcell,fun y hy e=>?_,nd,len,fun x c h=>(hfree _ (memsub x c h).1 rfl).2,fun i x j hi hc=>?_⟩
 ·unfold closureFor;show (forIn scope.names [] _ >>= fun r=>pure r)=_;rw [A0h scope.names [] fun p hp e=>(hfree p hp e).1];rfl
 ·have hm:(x,NameKind.free) ∈ scope.names:=by
   rcases h with h | h
   ·exact O9 hcell h (.inl rfl)
   ·exact O9 hcell h (.inr rfl)
  obtain ⟨c,hc⟩:=V6 (env:=X.env) scope.names [] x (.inr hm);exact N4 hc
 ·have:=List.all_eq_true.mp h3 y hy;rw [e] at this;simpa using this
 ·have hz:(x,some j) ∈ N'.zip cap:=by
   refine List.mem_iff_getElem?.mpr ⟨i,?_⟩;rw [List.getElem?_zip_eq_some];exact ⟨hi,hc⟩
  have:=List.all_eq_true.mp h4 _ hz;simp only [Bool.and_eq_true,Bool.or_eq_true,beq_iff_eq] at this;obtain ⟨⟨q1,q2⟩,q3⟩:=this;refine ⟨q1,A0t q2,?_,?_⟩
  ·rcases q3 with q | q
   ·exact .inr (.inl q)
   ·exact .inr (.inr q)
  ·obtain ⟨c,hc⟩:=V6 (env:=X.env) scope.names [] x (.inr (PySem.mem_of_lookup q2));exact N4 hc
def Y6 (wi:TI) (g:TG) (tt:TT) (te:TE) (cap:List (Option Nat)) (i:Nat):TS:=fun D σ H=>wi σ H fun J H1=>∀ l,H1 l=none->A45 J g tt te l (fun H'=>D.nx (σ.set i (some (.ref l))) H') (capσ cap σ) H1
section
variable {X:Cx} {scope:Scope} {cl:List (Str × Addr)} {N':List Str} {cap:List (Option Nat)} {elt tg iter:Expr} {ifs:List Expr} {wi:TI} {g:TG} {tt:TT} {te:TE} {pos spos py:Pos} {y:Str} {i:Nat}
theorem A5f (hc:X.calm=true) (hN:X.N.Nodup) (hi:X.N[i]?=some y) (hy:X.env.scope.names.lookup y=some .local) (C:CompSc X scope cl N' cap) (hit:PI X tg iter wi) (hg:∀ s3 H3 fp,PG (X.block scope cl N' s3 H3 fp) tg g)
  (ht:∀ s3 H3 fp,PTs (X.block scope cl N' s3 H3 fp) ifs tt) (he:∀ s3 H3 fp,PE (X.block scope cl N' s3 H3 fp) elt te)
  (hsw:swapsWith (.ListComp elt [⟨tg,iter,ifs,0⟩] scope pos) (some (.Name y py)) spos.line X.env=pure true) (hs:∀ x,foldedSetIterable iter X.env x=pure x:=by intro _; rfl) :
  PS X (.Assign [.Name y py] (.ListComp elt [⟨tg,iter,ifs,0⟩] scope pos) spos) (Y6 wi g tt te cap i):=by
 intro pins s σ H D I h;rw [exec_Assign_Name_used _ _ _ _ hsw];refine wpAny_bind (wpAny_standAt (wpAny_bind ?_));show wpAny _ X.A (do let _ <- comprehension (.ListComp elt [⟨tg,iter,ifs,0⟩] scope pos) scope X.env _ (newList []) false (eval iter X.env) (some (assign (.Name y py) X.env))) _ _ s;refine wpAny_bind (wpAny_mono (wpAny_comprehension_free (use:=some (assign (.Name y py) X.env)) (Q:=fun _ s'=>SP X pins D .next s') rfl hs C.clos C.kind C.names
  (thn (hit pins s σ H _ I h) fun v s1 h1=>thn h1 fun itv s2 h2=>?_)) (fun _ s' hq=>wpAny_pure (wpAny_pure hq)) fun _ _ e=>e)
 obtain ⟨it,fp,tn,J,H2,e,I2,T,st2,f2,go⟩:=h2;subst e;refine A1y (RR:=fun acc C=>compPost (model X.prog X.w) X.A X.xe (some (assign (.Name y py) X.env)) (fun _ s'=>SP X pins D .next s') acc C) (Fin:=fun l H'=>D.nx (σ.set i (some (.ref l))) H') hc C I2 T st2 f2 hg ht he go ?_;intro l C' s' m H' hn n1 n2 n3 n4 n5 fin inv;show wpAny _ X.A (assign (.Name y py) X.env (.ref l)) _ _ _;refine wpAny_assign_Name (A0n (v:=.ref l) inv hN hi (.inl hy) rfl (fun s'' I'' ⟨a,sb,ha⟩=>?_) (.inr hy));have na:C'≠a:=by
  rcases ha with e | e
  ·rw [e]; exact n1
  ·exact (n4 _ _ e).symm
 exact ⟨m,hn.sameBut sb na,fun h' hs'=>⟨_,H',I''.turned (t':=s''.toks) (fun b o hb e=>(hs'.2 b hb).trans e) n2 n1 (.inr n3) n4 n5,fin⟩⟩
end
section
variable {X:Cx} {K:PySem.W.Frag}
theorem B2t (h:X.K=K):IxR X (rIxL K):=by subst h; exact ix_list
theorem B64 {pos:Pos} {es:List Expr} {k:Nat} {t:TGs} {n:Nat} (h:X.K=K) (hc:X.calm=true) (hg:PGs X es t)
  (hn:(assignEach es X.env).length=n:=by rfl) (hst:(assignEach es X.env).findIdx? (·.1)=none:=by rfl):PG X (.Tuple es k pos) (gTup K n t):=by subst h; exact B9i hc hg hn hst
end
end L2
namespace Prf
open PySem L2 My
abbrev Hpp:=L2.Hp
structure StAt (H:Hpp) (p:Addr):Prop where
 ex:∃ (c m:Int) (f:Bool),H p=some (.lst [.int c,.int m,.bl f])/\0<=m/\m < 2147483648
theorem StAt.same {H H':Hpp} {p:Addr} (h:StAt H p) (e:Same H H'):StAt H' p:=by
 obtain ⟨c,m,f,h,r⟩:=h.ex; exact ⟨c,m,f,e _ _ h,r⟩
theorem StAt.kp {H H':Hpp} {p l:Addr} (h:StAt H p) (n:p≠l) (e:Kp l H H'):StAt H' p:=by
 obtain ⟨c,m,f,h,r⟩:=h.ex; exact ⟨c,m,f,e _ _ n h,r⟩
def A6k:Sp:=fun vs H Q _=>∃ (p:Addr) (n:Int),vs=[.ref p,.int n]/\StAt H p/\0 < n/\Sm 4000 n/\∀ d H',0<=d->d < n->StAt H' p->Kp p H H'->Q (.int d) H'
def B6c (K:PySem.W.Frag):Sp:=fun vs H Q _=>∃ (a:Addr) (ns:List Int),vs=[.ref a]/\SqL K H a (ns.map V.int)/\ns.length<=63/\∀ H',Q (.bl true) H'
theorem sm32 {m:Int} (h0:0<=m) (h1:m < 2147483648):Sm 8000 m:=Sm.mono (k:=32) (by unfold Sm; omega) (by decide)
theorem W6 {m:Int} (n:Nat) (h:m.natAbs < 2 ^ 64:=by decide):Sm 8000 m:=Sm.mono (k:=64) h (by decide)
theorem A0p {k:Nat} {t b:Int} (h:Sm k b) (hb:b≠0):Sm k ((Int.gcd t b:Nat):Int):=by
 have h1:Int.gcd t b ∣ b.natAbs:=Nat.gcd_dvd_right _ _;have h2:=Nat.le_of_dvd (by omega) h1;exact h.le (by simpa using h2)
theorem B80 {k:Nat} {t b:Int} (h:Sm k b) (hb:b≠0):Sm k (sh t b):=by
 have h1:Int.gcd t b ∣ b.natAbs:=Nat.gcd_dvd_right _ _;have h2:=Nat.le_of_dvd (by omega) h1;exact h.le (by rw [B84]; exact h2)
end Prf
namespace Prf
open PySem L2 My
theorem V5 (n:Nat) (h:(n:Int)<=1000000:=by decide):CPow 10 (n:Int):=⟨by omega,h,by decide⟩
theorem sm4 (n:Int) (h:n.natAbs < 2 ^ 64:=by decide):Sm 4000 n:=Sm.mono (k:=64) h (by decide)
theorem B81 (b:Bool):Sm 8000 (if b=true then (1:Int) else 0):=by cases b <;> exact W6 0
theorem B47:kitB "tuple" "tuple"=some true:=by decide +kernel
theorem B5h:kitB "int" "bool"=some false:=by decide +kernel
end Prf
namespace Prf
open PySem L2 My
inductive R2L {α:Type} (P:Addr->α->Prop):List V->List α->Prop
 | nil:R2L P [] []
 | cons {a:Addr} {q:α} {rs:List V} {qs:List α}:P a q->R2L P rs qs->R2L P (.ref a :: rs) (q :: qs)
section
variable {α:Type} {P P':Addr->α->Prop}
theorem R2L.get:∀ {rs qs} {i:Nat} {x:V},R2L P rs qs->rs[i]?=some x->∃ a q,x=.ref a/\qs[i]?=some q/\P a q
 | _,_,_,_,.nil,e=>by simp at e
 | _,_,0,_,.cons h _,e=>by simp at e; subst e; exact ⟨_,_,rfl,rfl,h⟩
 | _,_,i + 1,x,.cons _ t,e=>by
  obtain ⟨a,q,h1,h2,h3⟩:=R2L.get (i:=i) (x:=x) t (by simpa using e);exact ⟨a,q,h1,by simpa using h2,h3⟩
end
structure OfOk (cs:LR) (a b c d:Nat):Prop where
 ne:1<=cs.length
 le:cs.length<=5
 dec:Dec cs
 sm:∀ x ∈ cs,SmR a b x.1/\SmR c d x.2
def dq (q:Rat):PyData:=.tuple [.int q.num,.int q.den]
def dcn (c:Rat × Rat):PyData:=.tuple [dq c.1,dq c.2]
theorem M1 {k:Nat} {z:Int} {B:Nat} (h0:-(B:Int)<=z) (h1:z<=B) (hB:B < 2 ^ k):Sm k z:=by
 unfold Sm; omega
end Prf
set_option maxHeartbeats 4000000
namespace L2
open PySem
theorem SqD.same {K:PySem.W.Frag} {F F':Hp} {a:Addr} {xs:List V} (e:Same F F') (h:SqD K F a xs):SqD K F' a xs:=⟨SqT.same e h.1,h.2.imp (e _ _) id⟩
mutual
theorem Den.same {K:PySem.W.Frag} {F F':Hp} (e:Same F F'):∀ {v:V} {x:PyData},Den K F v x->Den K F' v x
 | _,_,.non=>.non
 | _,_,.bl b=>.bl b
 | _,_,.int i=>.int i
 | _,_,.str x=>.str x
 | _,_,.lst h t=>.lst (e.seq h) (DenAll.same e t)
 | _,_,.tup h t=>.tup (SqD.same e h) (DenAll.same e t)
 | _,_,.dct h=>.dct (e _ _ h)
theorem DenAll.same {K:PySem.W.Frag} {F F':Hp} (e:Same F F'):∀ {vs:List V} {xs:LP},DenAll K F vs xs->DenAll K F' vs xs
 | _,_,.nil=>.nil
 | _,_,.cons h t=>.cons (Den.same e h) (DenAll.same e t)
end
section
variable {K:PySem.W.Frag} {F:Hp}
theorem Den.intE {v:V} {i:Int} (h:Den K F v (.int i)):v=.int i:=by cases h; rfl
theorem Den.blE {v:V} {b:Bool} (h:Den K F v (.bool b)):v=.bl b:=by cases h; rfl
theorem Den.strE {v:V} {s:Str} (h:Den K F v (.str s)):v=.str s:=by cases h; rfl
theorem Den.nonE {v:V} (h:Den K F v .none):v=.non:=by cases h; rfl
theorem Den.tupE {v:V} {xs:LP} (h:Den K F v (.tuple xs)):∃ a vs,v=.ref a/\SqT K F a vs/\DenAll K F vs xs:=by cases h with | tup h t=>exact ⟨_,_,rfl,h.1,t⟩
theorem Den.pairE {v:V} {c:Str} {i:Int} (h:Den K F v (.tuple [.str c,.int i])):∃ a,v=.ref a/\F a=some (.tup [.str c,.int i]):=by
 cases h with
 | tup h t =>
  cases t with
  | cons h1 t=>cases t with
   | cons h2 t =>
    cases t; cases h1; cases h2;exact ⟨_,rfl,h.2.resolve_right fun z=>z _ _ rfl⟩
theorem Den.lstE {v:V} {xs:LP} (h:Den K F v (.list xs)):∃ a vs,v=.ref a/\SqL K F a vs/\DenAll K F vs xs:=by cases h; exact ⟨_,_,rfl,‹_›,‹_›⟩
theorem DenAll.len:∀ {vs:List V} {xs:LP},DenAll K F vs xs->vs.length=xs.length
 | _,_,.nil=>rfl
 | _,_,.cons _ t=>congrArg (· + 1) (DenAll.len t)
theorem DenAll.get:∀ {vs:List V} {xs:LP} {i:Nat} {v:V},DenAll K F vs xs->vs[i]?=some v->∃ x,xs[i]?=some x/\Den K F v x
 | _,_,_,_,.nil,e=>by simp at e
 | _,_,0,_,.cons h _,e=>by simp at e; subst e; exact ⟨_,rfl,h⟩
 | _,_,i + 1,v,.cons _ t,e=>by
  obtain ⟨x,h1,h2⟩:=DenAll.get (i:=i) (v:=v) t (by simpa using e);exact ⟨x,by simpa using h1,h2⟩
theorem DenAll.at:∀ {vs:List V} {xs:LP} {i:Nat} {x:PyData},DenAll K F vs xs->xs[i]?=some x->∃ v,vs[i]?=some v/\Den K F v x
 | _,_,_,_,.nil,e=>by simp at e
 | _,_,0,_,.cons h _,e=>by simp at e; subst e; exact ⟨_,rfl,h⟩
 | _,_,i + 1,x,.cons _ t,e=>by
  obtain ⟨v,h1,h2⟩:=DenAll.at (i:=i) (x:=x) t (by simpa using e);exact ⟨v,by simpa using h1,h2⟩
theorem DenAll.app:∀ {vs us:List V} {xs ys:LP},DenAll K F vs xs->DenAll K F us ys->DenAll K F (vs++us) (xs++ys)
 | _,_,_,_,.nil,h=>h
 | _,_,_,_,.cons h t,h'=>.cons h (DenAll.app t h')
theorem DenAll.drop:∀ {vs:List V} {xs:LP} (n:Nat),DenAll K F vs xs->DenAll K F (vs.drop n) (xs.drop n)
 | _,_,0,h=>by simpa using h
 | _,_,_ + 1,.nil=>by simpa using DenAll.nil
 | _,_,n + 1,.cons _ t=>by simpa using DenAll.drop n t
theorem DenAll.take:∀ {vs:List V} {xs:LP} (n:Nat),DenAll K F vs xs->DenAll K F (vs.take n) (xs.take n)
 | _,_,0,_=>by simpa using DenAll.nil
 | _,_,_ + 1,.nil=>by simpa using DenAll.nil
 | _,_,n + 1,.cons h t=>by simpa using DenAll.cons h (DenAll.take n t)
theorem DenAll.dropLast {vs:List V} {xs:LP} (h:DenAll K F vs xs):DenAll K F vs.dropLast xs.dropLast:=by
 rw [List.dropLast_eq_take,List.dropLast_eq_take,h.len]; exact h.take _
theorem DenAll.atIE {vs:List V} {xs:LP} {i:Int} {x:PyData} (h:DenAll K F vs xs) (e:L2.atI xs i=some x):∃ v,L2.atI vs i=some v/\Den K F v x:=by
 unfold L2.atI at *;rw [h.len];cases q:ixN xs.length i with
 | none=>rw [q] at e; cases e
 | some j=>rw [q] at e; exact DenAll.at h e
end
end L2
namespace Pu
open PySem L2 My Prf
abbrev Frag:=PySem.W.Frag
inductive OT where
 | leaf (x:PyData) | nd (b:Bool) (a:Addr) (k:OT) | nil | cons (h t:OT)
def OT.fp:OT->List Addr
 | .leaf _=>[]
 | .nd _ a k=>a :: k.fp
 | .nil=>[]
 | .cons h t=>h.fp++t.fp
def OT.dat:OT->LP
 | .leaf x=>[x]
 | .nd true _ k=>[.list k.dat]
 | .nd false _ k=>[.tuple k.dat]
 | .nil=>[]
 | .cons h t=>h.dat++t.dat
def OT.put (a:Addr) (n:OT):OT->OT
 | .leaf x=>.leaf x
 | .nd b a' k=>.nd b a' (if a'=a then n else OT.put a n k)
 | .nil=>.nil
 | .cons h t=>.cons (OT.put a n h) (OT.put a n t)
inductive SV where
 | d (x:PyData) | own (xs:LP) | bor (xs:LP) | st | tr (t:OT) | bt (t:OT) | al (a:Addr) | dk (ks:List (Str × Int))
def SV.foot (v:V):SV->Addr->Prop
 | .own _,a=>v=.ref a
 | .dk _,a=>v=.ref a
 | .tr t,a=>a ∈ t.fp
 | _,_=>False
def SV.isRes:SV->Bool
 | .bor _=>false
 | .bt _=>false
 | .al _=>false
 | _=>true
abbrev PEnv:=List (Option SV)
structure Wd where
 M:Addr->Prop
 H:Hpp
 F:Hpp
structure Wd.Ok (w:Wd):Prop where
 sub:Same w.F w.H
 st:∀ p,w.M p->StAt w.H p
 nf:∀ p,w.M p->w.F p=none
structure Lw (w w':Wd):Prop where
 f:Same w.F w'.F
 h:∀ b o,w.H b=some o->¬ w.M b->w'.H b=some o
 m:∀ b,w.M b->w'.M b
 mn:∀ b,w'.M b->w.M b\/w.H b=none
 dom:∀ b,w'.H b=none->w.H b=none
structure Le (w w':Wd):Prop extends Lw w w' where
 n:∀ a o,w'.F a=some o->w.F a=some o\/w.H a=none
theorem Lw.refl (w:Wd):Lw w w:=⟨Same.refl _,fun _ _ h _=>h,fun _ h=>h,fun _ h=>.inl h,fun _ h=>h⟩
theorem Le.refl (w:Wd):Le w w:=⟨Lw.refl w,fun _ _ h=>.inl h⟩
theorem Lw.nm {w w':Wd} (a:Lw w w') {b:Addr} (h:w.H b≠none) (n:¬ w.M b):¬ w'.M b:=fun z=>(a.mn b z).elim n h
theorem Lw.trans {w w1 w2:Wd} (a:Lw w w1) (b:Lw w1 w2):Lw w w2 :=
 ⟨a.f.trans b.f,fun c o h n=>b.h c o (a.h c o h n) (a.nm (by rw [h]; simp) n),fun c h=>b.m c (a.m c h),
  fun c h=>(b.mn c h).elim (a.mn c) fun z=>.inr (a.dom c z),fun c h=>a.dom c (b.dom c h)⟩
theorem Le.trans {w w1 w2:Wd} (a:Le w w1) (b:Le w1 w2):Le w w2 :=
 ⟨a.toLw.trans b.toLw,fun c o h=>(b.n c o h).elim (a.n c o) fun z=>.inr (a.dom c z)⟩
theorem Le.fnone {w w':Wd} (a:Le w w') {l:Addr} (h:w.F l=none) (h':w.H l≠none):w'.F l=none:=by
 cases q:w'.F l with
 | none=>rfl
 | some o =>
  rcases a.n l o q with z | z
  ·rw [h] at z; cases z
  ·exact absurd z h'
structure Ct where
 K:Frag
 w0:Wd
 Z:Addr->Prop
def VV (K:Frag) (w:Wd) (v:V) (x:PyData):Prop:=Den K w.F v x\/∃ l vs xs,v=.ref l/\x=.list xs/\w.H l=some (.lst vs)/\¬ w.M l/\DenAll K w.F vs xs
def ho:Bool->List V->HO
 | true,vs=>.lst vs
 | false,vs=>.tup vs
def Tre (K:Frag) (w:Wd):OT->List V->Prop
 | .leaf x,vs=>∃ v,vs=[v]/\Den K w.F v x
 | .nd b a k,vs=>vs=[.ref a]/\∃ us,w.H a=some (ho b us)/\Tre K w k us
 | .nil,vs=>vs=[]
 | .cons h t,vs=>∃ v r,vs=v :: r/\Tre K w h [v]/\Tre K w t r
theorem Tre.mono {K:Frag} {w w':Wd} (a:Lw w w'):∀ {t:OT} {vs:List V},Tre K w t vs->(∀ a ∈ t.fp,¬ w.M a)->Tre K w' t vs
 | .leaf _,_,⟨v,e,h⟩,_=>⟨v,e,Den.same a.f h⟩
 | .nd _ p _,_,⟨e,us,h,k⟩,n=>⟨e,us,a.h _ _ h (n p (by simp [OT.fp])),Tre.mono a k fun q hq=>n q (by simp [OT.fp,hq])⟩
 | .nil,_,e,_=>e
 | .cons _ _,_,⟨v,r,e,h,t⟩,n=>⟨v,r,e,Tre.mono a h fun q hq=>n q (by simp [OT.fp,hq]),Tre.mono a t fun q hq=>n q (by simp [OT.fp,hq])⟩
theorem Tre.sameF {K:Frag} {M:Addr->Prop} {H F F':Hpp} (e:Same F F'):∀ {t:OT} {vs:List V},Tre K ⟨M,H,F⟩ t vs->Tre K ⟨M,H,F'⟩ t vs
 | .leaf _,_,⟨v,q,h⟩=>⟨v,q,Den.same e h⟩
 | .nd _ _ _,_,⟨q,us,h,k⟩=>⟨q,us,h,Tre.sameF e k⟩
 | .nil,_,q=>q
 | .cons _ _,_,⟨v,r,q,h,t⟩=>⟨v,r,q,Tre.sameF e h,Tre.sameF e t⟩
def VR (c:Ct) (w:Wd) (v:V):SV->Prop
 | .d x=>Den c.K w.F v x
 | .own xs=>∃ l vs,v=.ref l/\w.H l=some (.lst vs)/\w.F l=none/\¬ w.M l/\c.w0.H l=none/\DenAll c.K w.F vs xs
 | .bor xs=>Den c.K w.F v (.list xs)\/∃ l vs,v=.ref l/\c.w0.H l=some (.lst vs)/\¬ c.w0.M l/\DenAll c.K w.F vs xs
 | .st=>∃ p,v=.ref p/\w.M p
 | .tr t=>Tre c.K w t [v]/\(∀ a ∈ t.fp,w.H a≠none/\w.F a=none/\¬ w.M a/\c.w0.H a=none)/\t.fp.Nodup
 | .bt t=>Tre c.K ⟨c.w0.M,c.w0.H,w.F⟩ t [v]/\∀ a ∈ t.fp,¬ c.w0.M a
 | .al a=>v=.ref a
 | .dk ks=>∃ l,v=.ref l/\w.H l=some (.dT (ks.map fun k=>([Sum.inr k.1,Sum.inl k.2],V.bl true)))/\w.F l=none/\¬ w.M l/\c.w0.H l=none
theorem B1m {H:Hpp} {p b:Addr} {o:HO} (h:upd H p o b=none):H b=none:=by
 unfold upd at h; split at h
 ·cases h
 ·exact h
theorem VR.foot {c:Ct} {w:Wd} {v:V} {a:Addr}:∀ {s:SV},VR c w v s->s.foot v a->w.H a≠none/\w.F a=none/\¬ w.M a/\c.w0.H a=none
 | .own _,⟨l,vs,e,h1,h2,h3,h4,_⟩,f=>by
  have:V.ref l=.ref a:=e.symm.trans f;cases this;exact ⟨by rw [h1]; simp,h2,h3,h4⟩
 | .dk _,⟨l,e,h1,h2,h3,h4⟩,f=>by
  have:V.ref l=.ref a:=e.symm.trans f;cases this;exact ⟨by rw [h1]; simp,h2,h3,h4⟩
 | .tr _,h,f=>h.2.1 a f
theorem VV.mono {K:Frag} {w w':Wd} {v:V} {x:PyData} (a:Lw w w') (h:VV K w v x):VV K w' v x:=by
 rcases h with h | ⟨l,vs,xs,e,e',h1,h2,h3⟩
 ·exact .inl (Den.same a.f h)
 ·exact .inr ⟨l,vs,xs,e,e',a.h _ _ h1 h2,a.nm (by rw [h1]; simp) h2,DenAll.same a.f h3⟩
theorem VV.den {K:Frag} {w:Wd} {v:V} {x:PyData} (o:w.Ok) (h:VV K w v x):Den K w.H v x:=by
 rcases h with h | ⟨l,vs,xs,e,e',h1,h2,h3⟩
 ·exact Den.same o.sub h
 ·rw [e,e']; exact .lst (SqL.of h1) (DenAll.same o.sub h3)
theorem VR.mono {c:Ct} {w w':Wd} {v:V} (a:Le w w'):∀ {s:SV},VR c w v s->VR c w' v s
 | .d _,h=>Den.same a.f h
 | .own xs,⟨l,vs,e,h1,h2,h3,h4,h5⟩=>⟨l,vs,e,a.h _ _ h1 h3,a.fnone h2 (by rw [h1]; simp),a.nm (by rw [h1]; simp) h3,h4,DenAll.same a.f h5⟩
 | .bor xs,.inl h=>.inl (Den.same a.f h)
 | .bor xs,.inr ⟨l,vs,e,h1,h2,h3⟩=>.inr ⟨l,vs,e,h1,h2,DenAll.same a.f h3⟩
 | .st,⟨p,e,h⟩=>⟨p,e,a.m p h⟩
 | .bt t,⟨h,o⟩=>⟨h.sameF a.f,o⟩
 | .al _,h=>h
 | .dk _,⟨l,e,h1,h2,h3,h4⟩=>⟨l,e,a.h _ _ h1 h3,a.fnone h2 (by rw [h1]; simp),a.nm (by rw [h1]; simp) h3,h4⟩
 | .tr t,⟨h,o,d⟩=>⟨h.mono a.toLw fun q hq=>(o q hq).2.2.1,fun q hq=>let ⟨h1,h2,h3,h4⟩:=o q hq; ⟨fun z=>h1 (a.dom q z),a.fnone h2 h1,a.nm h1 h3,h4⟩,d⟩
theorem Tre.writ {K:Frag} {w:Wd} {l:Addr} {wo:HO}:∀ {t:OT} {vs:List V},Tre K w t vs->l ∉ t.fp->Tre K ⟨w.M,upd w.H l wo,w.F⟩ t vs
 | .leaf _,_,h,_=>h
 | .nd _ p _,_,⟨e,ys,h,k⟩,n=>⟨e,ys,by show upd w.H l _ p=_; rw [D8 (fun z=>n (by simp [OT.fp,z]))]; exact h,Tre.writ k fun q=>n (by simp [OT.fp,q])⟩
 | .nil,_,e,_=>e
 | .cons _ _,_,⟨v,r,e,h,t⟩,n=>⟨v,r,e,Tre.writ h fun q=>n (by simp [OT.fp,q]),Tre.writ t fun q=>n (by simp [OT.fp,q])⟩
theorem VR.writ {c:Ct} {w:Wd} {v:V} {l:Addr} {wo:HO} (hl:w.H l≠none):∀ {s:SV},VR c w v s->¬ s.foot v l->VR c ⟨w.M,upd w.H l wo,w.F⟩ v s
 | .d _,h,_=>h
 | .own _,⟨l',vs,e,k1,k2,k3,k4,k5⟩,n=>⟨l',vs,e,by show upd w.H l _ l'=_; rw [D8 (fun z=>n (by rw [<- z]; exact e))]; exact k1,k2,k3,k4,k5⟩
 | .bor _,h,_=>h
 | .st,h,_=>h
 | .bt _,h,_=>h
 | .al _,h,_=>h
 | .dk _,⟨l',e,k1,k2,k3,k4⟩,n=>⟨l',e,by show upd w.H l _ l'=_; rw [D8 (fun z=>n (by rw [<- z]; exact e))]; exact k1,k2,k3,k4⟩
 | .tr _,⟨h,o,d⟩,n=>⟨h.writ n,fun a ha=>⟨fun z=>(o a ha).1 (B1m z),(o a ha).2⟩,d⟩
structure EnvOk (c:Ct) (w:Wd) (env:PEnv) (σ:St):Prop where
 wok:w.Ok
 le0:Le c.w0 w
 len:env.length=σ.length
 at':∀ (i:Nat) s,env[i]?=some (some s)->∃ v,σ[i]?=some (some v)/\VR c w v s
 own:∀ (i j:Nat) s t v u a,env[i]?=some (some s)->env[j]?=some (some t)->σ[i]?=some (some v)->σ[j]?=some (some u)->s.foot v a->t.foot u a->i=j
 zf:∀ a,c.Z a->w.F a=none/\w.H a≠none/\¬ w.M a
 zo:∀ a (j:Nat) t u,c.Z a->env[j]?=some (some t)->σ[j]?=some (some u)->¬ t.foot u a
def New (c:Ct) (env:PEnv) (σ:St) (v:V) (s:SV):Prop:=∀ a,s.foot v a->(∀ (j:Nat) t u,env[j]?=some (some t)->σ[j]?=some (some u)->¬ t.foot u a)/\¬ c.Z a
theorem EnvOk.look {c:Ct} {w:Wd} {env:PEnv} {σ:St} (E:EnvOk c w env σ) {j:Nat} {t:SV} {u:V} (h:env[j]?=some (some t)) (hu:σ[j]?=some (some u)):VR c w u t:=by
 obtain ⟨v,h1,h2⟩:=E.at' j t h;rw [hu] at h1; cases h1; exact h2
theorem EnvOk.fresh {c:Ct} {w:Wd} {env:PEnv} {σ:St} (E:EnvOk c w env σ) {p:Addr} (hp:w.H p=none):(∀ (j:Nat) t u,env[j]?=some (some t)->σ[j]?=some (some u)->¬ t.foot u p)/\¬ c.Z p :=
 ⟨fun _ _ _ h hu f=>((E.look h hu).foot f).1 hp,fun z=>(E.zf p z).2.1 hp⟩
theorem Lw.hsome {w w':Wd} (a:Lw w w') {l:Addr} (h:w.H l≠none):w'.H l≠none:=fun z=>h (a.dom l z)
theorem EnvOk.mono {c:Ct} {w w':Wd} {env:PEnv} {σ:St} (E:EnvOk c w env σ) (ok:w'.Ok) (a:Le w w'):EnvOk c w' env σ :=
 ⟨ok,E.le0.trans a,E.len,fun i s e=>let ⟨v,h1,h2⟩:=E.at' i s e; ⟨v,h1,h2.mono a⟩,E.own,fun b z=>let ⟨h1,h2,h3⟩:=E.zf b z; ⟨a.fnone h1 h2,a.hsome h2,a.nm h2 h3⟩,E.zo⟩
structure Res (c:Ct) (w:Wd) (env:PEnv) (σ:St) (w':Wd) (v:V) (s:SV):Prop where
 ev:EnvOk c w' env σ
 lw:Lw w w'
 val:VR c w' v s
 new:New c env σ v s
 res:s.isRes=true
theorem Res.data {c:Ct} {w:Wd} {env:PEnv} {σ:St} {v:V} {x:PyData} (E:EnvOk c w env σ) (h:Den c.K w.F v x):Res c w env σ w v (.d x) :=
 ⟨E,Lw.refl w,h,fun _ e=>(nomatch e),rfl⟩
def Wd.tup (w:Wd) (p:Addr) (o:HO):Wd:=⟨w.M,upd w.H p o,upd w.F p o⟩
def Wd.lay (w:Wd) (p:Addr) (o:HO):Wd:=⟨w.M,upd w.H p o,w.F⟩
theorem Wd.Ok.fnone {w:Wd} (o:w.Ok) {p:Addr} (h:w.H p=none):w.F p=none:=by
 cases q:w.F p with
 | none=>rfl
 | some u=>have:=o.sub p u q; rw [h] at this; cases this
theorem Wd.Ok.mne {w:Wd} (o:w.Ok) {p q:Addr} (h:w.H p=none) (hq:w.M q):q≠p:=by
 obtain ⟨c,m,f,e,_⟩:=(o.st q hq).ex;exact F5 e h
theorem P2 {H:Hpp} {p b:Addr} {o:HO} (h:upd H p o b=none):H b=none:=by
 unfold upd at h; split at h
 ·cases h
 ·exact h
theorem Wd.tup_ok {w:Wd} {p:Addr} {o:HO} (ok:w.Ok) (h:w.H p=none):(w.tup p o).Ok :=
 ⟨fun b u e=>by
  show upd w.H p o b=some u;have e':upd w.F p o b=some u:=e;unfold upd at e' ⊢;split at e'
  ·rename_i z; rw [if_pos z]; exact e'
  ·rename_i z; rw [if_neg z]; exact ok.sub b u e',
  fun q hq=>(ok.st q hq).same (Same.upd h),fun q hq=>by
  show upd w.F p o q=none;rw [D8 (ok.mne h hq)]; exact ok.nf q hq⟩
theorem Wd.lay_ok {w:Wd} {p:Addr} {o:HO} (ok:w.Ok) (h:w.H p=none):(w.lay p o).Ok :=
 ⟨ok.sub.trans (Same.upd h),fun q hq=>(ok.st q hq).same (Same.upd h),ok.nf⟩
theorem Wd.tup_le {w:Wd} {p:Addr} {o:HO} (ok:w.Ok) (h:w.H p=none):Le w (w.tup p o) :=
 ⟨⟨Same.upd (ok.fnone h),fun b u e _=>Same.upd h b u e,fun _ z=>z,fun _ z=>.inl z,fun b z=>P2 z⟩,fun a u e=>by
  have e':upd w.F p o a=some u:=e;unfold upd at e';split at e'
  ·rename_i z; rw [z]; exact .inr h
  ·exact .inl e'⟩
theorem Wd.lay_le {w:Wd} {p:Addr} {o:HO} (h:w.H p=none):Le w (w.lay p o) :=
 ⟨⟨Same.refl _,fun b u e _=>Same.upd h b u e,fun _ z=>z,fun _ z=>.inl z,fun b z=>P2 z⟩,fun a u e=>.inl e⟩
theorem Res.tup {c:Ct} {w:Wd} {env:PEnv} {σ:St} {p:Addr} {vs:List V} {xs:LP} (E:EnvOk c w env σ) (h:w.H p=none) (hd:DenAll c.K w.F vs xs):Res c w env σ (w.tup p (.tup vs)) (.ref p) (.d (.tuple xs)) :=
 ⟨E.mono (Wd.tup_ok E.wok h) (Wd.tup_le E.wok h),(Wd.tup_le E.wok h).toLw,.tup (SqD.of D7) (DenAll.same (Wd.tup_le E.wok h).f hd),fun _ e=>(nomatch e),rfl⟩
theorem Res.lst {c:Ct} {w:Wd} {env:PEnv} {σ:St} {p:Addr} {vs:List V} {xs:LP} (E:EnvOk c w env σ) (h:w.H p=none) (hd:DenAll c.K w.F vs xs):Res c w env σ (w.lay p (.lst vs)) (.ref p) (.own xs) :=
 ⟨E.mono (Wd.lay_ok E.wok h) (Wd.lay_le h),(Wd.lay_le h).toLw,⟨p,vs,rfl,D7,E.wok.fnone h,fun z=>E.wok.mne h z rfl,E.le0.dom p h,hd⟩,
  fun a f=>(by
  have:V.ref p=.ref a:=f;cases this;exact E.fresh h),rfl⟩
theorem Res.frz {c:Ct} {w w1:Wd} {env:PEnv} {σ:St} {v:V} {xs:LP} (R:Res c w env σ w1 v (.own xs)):∃ w',w'.H=w1.H/\EnvOk c w' env σ/\Lw w w'/\Den c.K w'.F v (.list xs):=by
 obtain ⟨E,lw,⟨l,vs,e,h1,h2,h3,h4,h5⟩,new,_⟩:=R;subst e;obtain ⟨n1,n2⟩:=new l rfl;have up:Same w1.F (upd w1.F l (.lst vs)):=Same.upd h2;have lw':Lw w1 ⟨w1.M,w1.H,upd w1.F l (.lst vs)⟩:=⟨up,fun _ _ h _=>h,fun _ h=>h,fun _ h=>.inl h,fun _ h=>h⟩;refine ⟨⟨w1.M,w1.H,upd w1.F l (.lst vs)⟩,rfl,⟨⟨fun b u q=>?_,E.wok.st,fun p hp=>?_⟩,⟨E.le0.toLw.trans lw',fun a u q=>?_⟩,E.len,fun i s q=>?_,E.own,fun a za=>?_,E.zo⟩,lw.trans lw',.lst (SqL.of D7) (DenAll.same up h5)⟩
 ·have q':upd w1.F l (.lst vs) b=some u:=q;unfold upd at q';split at q'
  ·rename_i z; rw [z]; exact h1.trans q'
  ·exact E.wok.sub b u q'
 ·show upd w1.F l (.lst vs) p=none;rw [D8 (fun z=>h3 (by rw [<- z]; exact hp))]; exact E.wok.nf p hp
 ·have q':upd w1.F l (.lst vs) a=some u:=q;unfold upd at q';split at q'
  ·rename_i z; rw [z]; exact .inr h4
  ·exact E.le0.n a u q'
 ·obtain ⟨v,g1,g2⟩:=E.at' i s q;refine ⟨v,g1,?_⟩;cases s with
  | d x=>exact Den.same up g2
  | own ys =>
   obtain ⟨l',us,e',k1,k2,k3,k4,k5⟩:=g2;subst e';refine ⟨l',us,rfl,k1,?_,k3,k4,DenAll.same up k5⟩;show upd w1.F l (.lst vs) l'=none;rw [D8 (fun z=>n1 i _ _ q g1 (by subst z; rfl))]; exact k2
  | bor ys =>
   rcases g2 with g | ⟨l',us,e',k1,k2,k3⟩
   ·exact .inl (Den.same up g)
   ·exact .inr ⟨l',us,e',k1,k2,DenAll.same up k3⟩
  | st=>exact g2
  | bt t=>exact ⟨g2.1.sameF up,g2.2⟩
  | al a=>exact g2
  | dk ks =>
   obtain ⟨l',e',k1,k2,k3,k4⟩:=g2;subst e';refine ⟨l',rfl,k1,?_,k3,k4⟩;show upd w1.F l (.lst vs) l'=none;rw [D8 (fun z=>n1 i _ _ q g1 (by subst z; rfl))]; exact k2
  | tr t =>
   obtain ⟨k1,k2,k3⟩:=g2;refine ⟨k1.mono lw' fun p hp=>(k2 p hp).2.2.1,fun p hp=>⟨(k2 p hp).1,?_,(k2 p hp).2.2⟩,k3⟩;show upd w1.F l (.lst vs) p=none;rw [D8 (fun z=>n1 i _ _ q g1 (by subst z; exact hp))]; exact (k2 p hp).2.1
 ·obtain ⟨z1,z2,z3⟩:=E.zf a za;refine ⟨?_,z2,z3⟩;show upd w1.F l (.lst vs) a=none;rw [D8 (fun z=>n2 (by subst z; exact za))]; exact z1
theorem EnvOk.set {c:Ct} {w:Wd} {env:PEnv} {σ:St} {v:V} {s:SV} {i:Nat} (E:EnvOk c w env σ) (h:VR c w v s) (new:New c env σ v s) :
  EnvOk c w (env.set i (some s)) (σ.set i (some v)):=by
 have hl:=E.len;have hd:∀ {j:Nat} {t:SV} {u:V},(env.set i (some s))[j]?=some (some t)->(σ.set i (some v))[j]?=some (some u)->(i=j/\t=s/\u=v)\/(i≠j/\env[j]?=some (some t)/\σ[j]?=some (some u)):=by
  intro j t u q q';rw [List.getElem?_set] at q q';by_cases e:i=j
  ·subst e;rw [if_pos rfl] at q q';split at q
   ·rename_i z;rw [if_pos (by omega)] at q';cases q; cases q'; exact .inl ⟨rfl,rfl,rfl⟩
   ·cases q
  ·rw [if_neg e] at q q';exact .inr ⟨e,q,q'⟩
 refine ⟨E.wok,E.le0,by simpa using hl,fun j t q=>?_,fun j k s1 t1 v1 u1 a q1 q2 q3 q4 f1 f2=>?_,E.zf,fun a j t u za q q'=>?_⟩
 ·rw [List.getElem?_set] at q ⊢;by_cases e:i=j
  ·subst e;rw [if_pos rfl] at q ⊢;split at q
   ·rename_i z;rw [if_pos (by omega)];cases q;exact ⟨v,rfl,h⟩
   ·cases q
  ·rw [if_neg e] at q ⊢;exact E.at' j t q
 ·rcases hd q1 q3 with ⟨e1,rfl,rfl⟩ | ⟨e1,p1,p3⟩
  ·rcases hd q2 q4 with ⟨e2,rfl,rfl⟩ | ⟨e2,q2,q4⟩
   ·exact e1.symm.trans e2
   ·exact absurd f2 ((new a f1).1 k _ _ q2 q4)
  ·rcases hd q2 q4 with ⟨e2,rfl,rfl⟩ | ⟨e2,p2,p4⟩
   ·exact absurd f1 ((new a f2).1 j _ _ p1 p3)
   ·exact E.own j k _ _ _ _ a p1 p2 p3 p4 f1 f2
 ·rcases hd q q' with ⟨_,rfl,rfl⟩ | ⟨_,q,q'⟩
  ·exact fun f=>(new a f).2 za
  ·exact E.zo a j t u za q q'
end Pu
namespace Pu
open PySem L2 My Prf
abbrev PX:=PEnv->(SV->PEnv->Prop)->Prop
abbrev PDt:=PEnv->(PyData->PEnv->Prop)->Prop
abbrev PTt:=PEnv->(Bool->PEnv->Prop)->Prop
abbrev PAr:=PEnv->(LP->PEnv->Prop)->Prop
abbrev PAs:=PEnv->(List SV->PEnv->Prop)->Prop
theorem Res.pre {c:Ct} {w w1 w2:Wd} {env:PEnv} {σ:St} {v:V} {s:SV} (a:Lw w w1) (R:Res c w1 env σ w2 v s):Res c w env σ w2 v s:=⟨R.ev,a.trans R.lw,R.val,R.new,R.res⟩
class RE (K:Frag) (te:TE) (pe:outParam PX):Prop where
 ok:∀ (c:Ct) (w:Wd) (env:PEnv) (σ:St) (Qp:SV->PEnv->Prop) (Q:VK),c.K=K->EnvOk c w env σ->pe env Qp->(∀ v s env' w',Res c w env' σ w' v s->Qp s env'->Q v w'.H)->te σ w.H Q
class RD (K:Frag) (te:TE) (pd:outParam PDt):Prop where
 ok:∀ (c:Ct) (w:Wd) (env:PEnv) (σ:St) (Qp:PyData->PEnv->Prop) (Q:VK),c.K=K->EnvOk c w env σ->pd env Qp->(∀ v x env' w',EnvOk c w' env' σ->Lw w w'->Den K w'.F v x->Qp x env'->Q v w'.H)->te σ w.H Q
class RW (K:Frag) (te:TE) (pd:outParam PDt):Prop where
 ok:∀ (c:Ct) (w:Wd) (env:PEnv) (σ:St) (Qp:PyData->PEnv->Prop) (Q:VK),c.K=K->EnvOk c w env σ->pd env Qp->(∀ v x env' w',EnvOk c w' env' σ->Lw w w'->VV K w' v x->Qp x env'->Q v w'.H)->te σ w.H Q
def SV.asD (s:SV) (k:PyData->Prop):Prop:=match s with
 | .d x=>k x
 | .own xs=>k (.list xs)
 | _=>False
def pdat (pe:PX) (env:PEnv) (Q:PyData->PEnv->Prop):Prop:=pe env fun s e=>s.asD fun x=>Q x e
instance B6i {K:Frag} {te:TE} {pe:PX} [h:RE K te pe]:RD K te (pdat pe) where
 ok:=by
  rintro c w env σ Qp Q rfl E p k;refine h.ok c w env σ _ Q rfl E p fun v s env' w' R q=>?_;cases s with
  | d x=>exact k v x env' w' R.ev R.lw R.val q
  | own xs =>
   obtain ⟨w2,e,E2,l2,d2⟩:=R.frz;rw [<- e];exact k v _ env' w2 E2 l2 d2 q
  | bor xs=>exact (show False from q).elim
  | st=>exact (show False from q).elim
  | tr t=>exact (show False from q).elim
  | bt t=>exact (show False from q).elim
  | al t=>exact (show False from q).elim
  | dk t=>exact (show False from q).elim
instance (priority:=low) rw_of {K:Frag} {te:TE} {pd:PDt} [h:RD K te pd]:RW K te pd where
 ok:=fun c w env σ Qp Q e E p k=>h.ok c w env σ Qp Q e E p fun v x env' w' E' l d q=>k v x env' w' E' l (.inl d) q
def pVar (i:Nat) (env:PEnv) (Q:SV->PEnv->Prop):Prop:=match env[i]? with
 | some (some (.d x))=>Q (.d x) env
 | some (some (.own xs))=>Q (.d (.list xs)) (env.set i (some (.d (.list xs))))
 | some (some .st)=>Q .st env
 | _=>False
def B7c (i:Nat) (env:PEnv) (Q:PyData->PEnv->Prop):Prop:=match env[i]? with
 | some (some (.d x))=>Q x env
 | some (some (.own xs))=>Q (.list xs) env
 | some (some (.bor xs))=>Q (.list xs) env
 | _=>False
theorem EnvOk.frz {c:Ct} {w:Wd} {env:PEnv} {σ:St} {i:Nat} {xs:LP} (E:EnvOk c w env σ) (h:env[i]?=some (some (.own xs))) :
  ∃ w' v,w'.H=w.H/\σ[i]?=some (some v)/\EnvOk c w' (env.set i (some (.d (.list xs)))) σ/\Lw w w'/\Den c.K w'.F v (.list xs):=by
 obtain ⟨v,hv,hV⟩:=E.at' i _ h;have hV':=hV;obtain ⟨l,vs,e,h1,h2,h3,h4,h5⟩:=hV';have up:∀ {j:Nat} {t:SV},(env.set i none)[j]?=some (some t)->i≠j/\env[j]?=some (some t):=by
  intro j t q;rw [List.getElem?_set] at q;split at q
  ·split at q <;> cases q
  ·rename_i z; exact ⟨z,q⟩
 have E':EnvOk c w (env.set i none) σ:=⟨E.wok,E.le0,by simpa using E.len,fun j s q=>E.at' j s (up q).2,fun j k s t v u a q1 q2=>E.own j k s t v u a (up q1).2 (up q2).2,E.zf,fun a j t u za q=>E.zo a j t u za (up q).2⟩;have R:Res c w (env.set i none) σ w v (.own xs):=⟨E',Lw.refl w,hV,fun a f=>⟨fun j t u q z g=>(up q).1 (E.own i j _ _ _ _ a h (up q).2 hv z f g),fun za=>E.zo a i _ _ za h hv f⟩,rfl⟩;obtain ⟨w',e',E2,l2,d2⟩:=R.frz;refine ⟨w',v,e',hv,?_,l2,d2⟩;have E3:=E2.set (i:=i) (v:=v) (s:=.d (.list xs)) d2 (fun _ z=>nomatch z);rw [List.set_set] at E3;have hi:i < σ.length:=(List.getElem?_eq_some_iff.mp hv).1
 rwa [show σ.set i (some v)=σ by
  refine List.ext_getElem? fun j=>?_;rw [List.getElem?_set];split
  ·rename_i z; subst z; simp [hv]
  ·rfl] at E3
instance re_var {K:Frag} {i:Nat}:RE K (tVar i) (pVar i) where
 ok:=by
  rintro c w env σ Qp Q rfl E p k;unfold pVar at p;split at p
  ·rename_i x e;obtain ⟨v,h1,h2⟩:=E.at' i _ e;exact ⟨v,h1,k v _ env w (Res.data E h2) p⟩
  ·rename_i xs e;obtain ⟨w',v,e',hv,E',l,d⟩:=E.frz e;refine ⟨v,hv,?_⟩;rw [<- e'];exact k v (.d (.list xs)) _ w' ⟨E',l,d,fun _ z=>(nomatch z),rfl⟩ p
  ·rename_i e;obtain ⟨v,h1,h2⟩:=E.at' i _ e;exact ⟨v,h1,k v _ env w ⟨E,Lw.refl w,h2,fun _ z=>(nomatch z),rfl⟩ p⟩
  ·exact p.elim
theorem VR.vv {c:Ct} {w:Wd} {v:V} {xs:LP} (l:Le c.w0 w) (h:VR c w v (.bor xs)):VV c.K w v (.list xs):=by
 rcases h with h | ⟨l',vs,e,h1,h2,h3⟩
 ·exact .inl h
 ·exact .inr ⟨l',vs,xs,e,rfl,l.h _ _ h1 h2,l.nm (by rw [h1]; simp) h2,h3⟩
instance rw_var {K:Frag} {i:Nat}:RW K (tVar i) (B7c i) where
 ok:=by
  rintro c w env σ Qp Q rfl E p k;unfold B7c at p;split at p
  ·rename_i x e;obtain ⟨v,h1,h2⟩:=E.at' i _ e;exact ⟨v,h1,k v _ env w E (Lw.refl w) (.inl h2) p⟩
  ·rename_i xs e;obtain ⟨v,h1,l,vs,e',g1,g2,g3,g4,g5⟩:=E.at' i _ e;exact ⟨v,h1,k v _ env w E (Lw.refl w) (.inr ⟨l,vs,xs,e',rfl,g1,g3,g5⟩) p⟩
  ·rename_i xs e;obtain ⟨v,h1,h2⟩:=E.at' i _ e;exact ⟨v,h1,k v _ env w E (Lw.refl w) (h2.vv E.le0) p⟩
  ·exact p.elim
def pC (x:PyData) (env:PEnv) (Q:SV->PEnv->Prop):Prop:=Q (.d x) env
theorem Q2 {K:Frag} {v:V} {x:PyData} (h:∀ F,Den K F v x):RE K (tC v) (pC x) where
 ok:=by
  rintro c w env σ Qp Q rfl E p k;exact k _ _ env w (Res.data E (h _)) p
instance re_int {K:Frag} {i:Int}:RE K (tC (.int i)) (pC (.int i)):=Q2 fun _=>.int i
instance re_bl {K:Frag} {b:Bool}:RE K (tC (.bl b)) (pC (.bool b)):=Q2 fun _=>.bl b
instance re_non {K:Frag}:RE K (tC .non) (pC .none):=Q2 fun _=>.non
instance re_str {K:Frag} {x:Str}:RE K (tC (.str x)) (pC (.str x)):=Q2 fun _=>.str x
class GD (K:Frag) (a:Addr) (x:outParam PyData):Prop where
 ok:∀ F,Den K F (.ref a) x
instance re_glob {K:Frag} {a:Addr} {x:PyData} [h:GD K a x]:RE K (tC (.ref a)) (pC x):=Q2 h.ok
class RO (K:Frag) (r:R2) (pr:outParam (PyData->PyData->(SV->Prop)->Prop)):Prop where
 ok:∀ (c:Ct) (w:Wd) (env:PEnv) (σ:St) (x y:V) (dx dy:PyData) (Qp:SV->Prop) (Q:VK),c.K=K->EnvOk c w env σ->VV K w x dx->VV K w y dy->pr dx dy Qp->(∀ v s w',Res c w env σ w' v s->Qp s->Q v w'.H)->r x y w.H Q
def pOp (pr:PyData->PyData->(SV->Prop)->Prop) (pa pb:PDt) (env:PEnv) (Q:SV->PEnv->Prop):Prop:=pa env fun x e1=>pb e1 fun y e2=>pr x y fun s=>Q s e2
instance re_op {K:Frag} {r:R2} {ta tb:TE} {pr:PyData->PyData->(SV->Prop)->Prop} {pa pb:PDt} [h:RO K r pr] [ha:RW K ta pa] [hb:RW K tb pb]:RE K (tOp r ta tb) (pOp pr pa pb) where
 ok:=by
  rintro c w env σ Qp Q rfl E p k;refine ha.ok c w env σ _ _ rfl E p fun x dx e1 w1 E1 l1 v1 q1=>?_;refine hb.ok c w1 e1 σ _ _ rfl E1 q1 fun y dy e2 w2 E2 l2 v2 q2=>?_;exact h.ok c w2 e2 σ x y dx dy _ _ rfl E2 (v1.mono l2) v2 q2 fun v s w' R q=>k v s e2 w' (R.pre (l1.trans l2)) q
class SG (g:Int->Int->V) (gd:outParam (Int->Int->PyData)):Prop where
 ok:∀ i j K F,Den K F (g i j) (gd i j)
instance sg_int {f:Int->Int->Int}:SG (fun i j=>.int (f i j)) (fun i j=>.int (f i j)):=⟨fun _ _ _ _=>.int _⟩
instance sg_bl {f:Int->Int->Bool}:SG (fun i j=>.bl (f i j)) (fun i j=>.bool (f i j)):=⟨fun _ _ _ _=>.bl _⟩
def pI (C:Int->Int->Prop) (gd:Int->Int->PyData) (x y:PyData) (Q:SV->Prop):Prop:=match x,y with
 | .int i,.int j=>C i j/\Q (.d (gd i j))
 | _,_=>False
def pI0 (gd:Int->Int->PyData) (x y:PyData) (Q:SV->Prop):Prop:=match x,y with
 | .int i,.int j=>Q (.d (gd i j))
 | _,_=>False
theorem VV.intE {K:Frag} {w:Wd} {v:V} {i:Int} (h:VV K w v (.int i)):v=.int i:=by
 rcases h with h | ⟨l,vs,xs,e,e',_⟩
 ·exact h.intE
 ·cases e'
theorem VV.blE {K:Frag} {w:Wd} {v:V} {b:Bool} (h:VV K w v (.bool b)):v=.bl b:=by
 rcases h with h | ⟨l,vs,xs,e,e',_⟩
 ·exact h.blE
 ·cases e'
instance ro_I {K:Frag} {C:Int->Int->Prop} {g:Int->Int->V} {gd:Int->Int->PyData} [s:SG g gd]:RO K (rI C g) (pI C gd) where
 ok:=by
  rintro c w env σ x y dx dy Qp Q rfl E vx vy p k;unfold pI at p;split at p
  ·rename_i i j;exact ⟨i,j,vx.intE,vy.intE,p.1,k _ _ w (Res.data E (s.ok i j _ _)) p.2⟩
  ·exact p.elim
instance ro_I0 {K:Frag} {g:Int->Int->V} {gd:Int->Int->PyData} [s:SG g gd]:RO K (rI0 g) (pI0 gd) where
 ok:=by
  rintro c w env σ x y dx dy Qp Q rfl E vx vy p k;unfold pI0 at p;split at p
  ·rename_i i j;exact ⟨i,j,vx.intE,vy.intE,k _ _ w (Res.data E (s.ok i j _ _)) p⟩
  ·exact p.elim
def pEqD (x y:PyData) (Q:SV->Prop):Prop:=x.canLay0=true/\y.canLay0=true/\x.depth<=60/\Q (.d (.bool (PyData.eqv x y)))
def pNeD (x y:PyData) (Q:SV->Prop):Prop:=x.canLay0=true/\y.canLay0=true/\x.depth<=60/\Q (.d (.bool (!PyData.eqv x y)))
def isNo:PyData->Bool
 | .none=>true
 | _=>false
def rIsN:R2:=fun x y H Q=>y=.non/\Q (.bl (decide (x=.non))) H
theorem B7w {X:Cx}:OpR X (compareOp .Is) rIsN:=C0q
theorem Den.no {K:Frag} {F:Hpp} {v:V} {x:PyData} (h:Den K F v x):decide (v=.non)=isNo x:=by cases h <;> rfl
theorem VV.no {K:Frag} {w:Wd} {v:V} {x:PyData} (h:VV K w v x):decide (v=.non)=isNo x:=by
 rcases h with h | ⟨l,vs,xs,e,e',_⟩
 ·exact Den.no h
 ·subst e; subst e'; rfl
def pIsN (x y:PyData) (Q:SV->Prop):Prop:=y=.none/\Q (.d (.bool (isNo x)))
def B96 (x y:PyData) (Q:SV->Prop):Prop:=y=.none/\Q (.d (.bool (!isNo x)))
theorem VV.nonE {K:Frag} {w:Wd} {v:V} (h:VV K w v .none):v=.non:=by
 rcases h with h | ⟨l,vs,xs,e,e',_⟩
 ·exact h.nonE
 ·cases e'
instance ro_isN {K:Frag}:RO K rIsN pIsN where
 ok:=by
  rintro c w env σ x y dx dy Qp Q rfl E vx vy ⟨rfl,p⟩ k;refine ⟨vy.nonE,k _ _ w (Res.data E ?_) p⟩;rw [vx.no]; exact .bl _
def pGet (xs:LP) (i:Int) (Q:SV->Prop):Prop:=match atI xs i with
 | some z=>Q (.d z)
 | none=>False
def pIx (x y:PyData) (Q:SV->Prop):Prop:=match x,y with
 | .list xs,.int i=>pGet xs i Q
 | .tuple xs,.int i=>pGet xs i Q
 | _,_=>False
theorem VV.lst {K:Frag} {w:Wd} {v:V} {xs:LP} (o:w.Ok) (h:VV K w v (.list xs)):∃ a vs,v=.ref a/\SqL K w.H a vs/\DenAll K w.F vs xs:=by
 rcases h with h | ⟨l,vs,ys,e,e',h1,h2,h3⟩
 ·obtain ⟨a,vs,e,h1,h2⟩:=h.lstE;exact ⟨a,vs,e,o.sub.seq h1,h2⟩
 ·cases e'; exact ⟨l,vs,e,SqL.of h1,h3⟩
theorem VV.tup {K:Frag} {w:Wd} {v:V} {xs:LP} (o:w.Ok) (h:VV K w v (.tuple xs)):∃ a vs,v=.ref a/\SqT K w.H a vs/\DenAll K w.F vs xs:=by
 rcases h with h | ⟨l,vs,ys,e,e',h1,h2,h3⟩
 ·obtain ⟨a,vs,e,h1,h2⟩:=h.tupE;exact ⟨a,vs,e,SqT.same o.sub h1,h2⟩
 ·cases e'
instance ro_ix {K:Frag}:RO K (rIx K) pIx where
 ok:=by
  rintro c w env σ x y dx dy Qp Q rfl E vx vy p k;unfold pIx at p;split at p
  ·rename_i xs i;unfold pGet at p;split at p
   ·rename_i z hz;obtain ⟨a,vs,e,h1,h2⟩:=vx.lst E.wok;obtain ⟨v,g1,g2⟩:=h2.atIE hz;exact .inl ⟨a,vs,i,v,e,vy.intE,h1,g1,k _ _ w (Res.data E g2) p⟩
   ·exact p.elim
  ·rename_i xs i;unfold pGet at p;split at p
   ·rename_i z hz;obtain ⟨a,vs,e,h1,h2⟩:=vx.tup E.wok;obtain ⟨v,g1,g2⟩:=h2.atIE hz;exact .inr (.inl ⟨a,vs,i,v,e,vy.intE,h1,g1,k _ _ w (Res.data E g2) p⟩)
   ·exact p.elim
  ·exact p.elim
theorem A8 {X:Cx} {K:Frag} (h:X.K=K):IxR X (rIx K):=by subst h; exact C1m
def pU (gd:Int->PyData) (x:PyData) (Q:SV->Prop):Prop:=match x with
 | .int i=>Q (.d (gd i))
 | _=>False
def pUn (f:PyData->(SV->Prop)->Prop) (pa:PDt) (env:PEnv) (Q:SV->PEnv->Prop):Prop:=pa env fun x e=>f x fun s=>Q s e
instance re_neg {K:Frag} {ta:TE} {pa:PDt} {f:Int->Int} [ha:RW K ta pa]:RE K (tUn (rU fun i=>.int (f i)) ta) (pUn (pU fun i=>.int (f i)) pa) where
 ok:=by
  rintro c w env σ Qp Q rfl E p k;refine ha.ok c w env σ _ _ rfl E p fun x dx e1 w1 E1 l1 v1 q1=>?_;unfold pU at q1;split at q1
  ·rename_i i;exact ⟨i,v1.intE,k _ _ e1 w1 ((Res.data E1 (.int _)).pre l1) q1⟩
  ·exact q1.elim
inductive VVs (K:Frag) (w:Wd):List V->LP->Prop
 | nil:VVs K w [] []
 | cons {v:V} {x:PyData} {vs:List V} {xs:LP}:VV K w v x->VVs K w vs xs->VVs K w (v :: vs) (x :: xs)
class RAv (K:Frag) (ta:TA) (pa:outParam PAr):Prop where
 ok:∀ (c:Ct) (w:Wd) (env:PEnv) (σ:St) (Qp:LP->PEnv->Prop) (Q:List V->Hpp->Prop),c.K=K->EnvOk c w env σ->pa env Qp->(∀ vs xs env' w',EnvOk c w' env' σ->Lw w w'->VVs K w' vs xs->Qp xs env'->Q vs w'.H)->ta σ w.H Q
class RAd (K:Frag) (ta:TA) (pa:outParam PAr):Prop where
 ok:∀ (c:Ct) (w:Wd) (env:PEnv) (σ:St) (Qp:LP->PEnv->Prop) (Q:List V->Hpp->Prop),c.K=K->EnvOk c w env σ->pa env Qp->(∀ vs xs env' w',EnvOk c w' env' σ->Lw w w'->DenAll K w'.F vs xs->Qp xs env'->Q vs w'.H)->ta σ w.H Q
def pNil (env:PEnv) (Q:LP->PEnv->Prop):Prop:=Q [] env
def L0 (pa:PDt) (pr:PAr) (env:PEnv) (Q:LP->PEnv->Prop):Prop:=pa env fun x e1=>pr e1 fun xs e2=>Q (x :: xs) e2
instance rav_nil {K:Frag}:RAv K tNil pNil:=⟨fun c w env σ Qp Q _ E p k=>k [] [] env w E (Lw.refl w) .nil p⟩
instance rad_nil {K:Frag}:RAd K tNil pNil:=⟨fun c w env σ Qp Q _ E p k=>k [] [] env w E (Lw.refl w) .nil p⟩
instance rav_cons {K:Frag} {ta:TE} {tr:TA} {pa:PDt} {pr:PAr} [ha:RW K ta pa] [hr:RAv K tr pr]:RAv K (N2 ta tr) (L0 pa pr) where
 ok:=by
  rintro c w env σ Qp Q rfl E p k;refine ha.ok c w env σ _ _ rfl E p fun x dx e1 w1 E1 l1 v1 q1=>?_;refine hr.ok c w1 e1 σ _ _ rfl E1 q1 fun vs xs e2 w2 E2 l2 v2 q2=>?_;exact k _ _ e2 w2 E2 (l1.trans l2) (.cons (v1.mono l2) v2) q2
instance rad_cons {K:Frag} {ta:TE} {tr:TA} {pa:PDt} {pr:PAr} [ha:RD K ta pa] [hr:RAd K tr pr]:RAd K (N2 ta tr) (L0 pa pr) where
 ok:=by
  rintro c w env σ Qp Q rfl E p k;refine ha.ok c w env σ _ _ rfl E p fun x dx e1 w1 E1 l1 v1 q1=>?_;refine hr.ok c w1 e1 σ _ _ rfl E1 q1 fun vs xs e2 w2 E2 l2 v2 q2=>?_;exact k _ _ e2 w2 E2 (l1.trans l2) (.cons (Den.same l2.f v1) v2) q2
def pTup (pa:PAr) (env:PEnv) (Q:SV->PEnv->Prop):Prop:=pa env fun xs e=>xs.length<=1000/\Q (.d (.tuple xs)) e
def pLst (pa:PAr) (env:PEnv) (Q:SV->PEnv->Prop):Prop:=pa env fun xs e=>xs.length<=1000/\Q (.own xs) e
instance re_tup {K:Frag} {ta:TA} {pa:PAr} [ha:RAd K ta pa]:RE K (tTup ta) (pTup pa) where
 ok:=by
  rintro c w env σ Qp Q rfl E p k;refine ha.ok c w env σ _ _ rfl E p fun vs xs e1 w1 E1 l1 v1 q1=>⟨?_,fun p hp=>?_⟩
  ·rw [v1.len]; exact Nat.le_of_lt (A0o q1.1)
  ·exact k _ _ e1 _ ((Res.tup E1 hp v1).pre l1) q1.2
instance re_lst {K:Frag} {ta:TA} {pa:PAr} [ha:RAd K ta pa]:RE K (tLst ta) (pLst pa) where
 ok:=by
  rintro c w env σ Qp Q rfl E p k;refine ha.ok c w env σ _ _ rfl E p fun vs xs e1 w1 E1 l1 v1 q1=>⟨?_,fun p hp=>?_⟩
  ·rw [v1.len]; exact Nat.le_of_lt (A0o q1.1)
  ·exact k _ _ e1 _ ((Res.lst E1 hp v1).pre l1) q1.2
class RB (K:Frag) (r:List V->Hpp->VK->Prop) (pr:outParam (LP->(SV->Prop)->Prop)):Prop where
 ok:∀ (c:Ct) (w:Wd) (env:PEnv) (σ:St) (vs:List V) (xs:LP) (Qp:SV->Prop) (Q:VK),c.K=K->EnvOk c w env σ->VVs K w vs xs->pr xs Qp->(∀ v s w',Res c w env σ w' v s->Qp s->Q v w'.H)->r vs w.H Q
def pCB (pr:LP->(SV->Prop)->Prop) (pa:PAr) (env:PEnv) (Q:SV->PEnv->Prop):Prop:=pa env fun xs e=>pr xs fun s=>Q s e
instance re_cb {K:Frag} {r:List V->Hpp->VK->Prop} {ta:TA} {pr:LP->(SV->Prop)->Prop} {pa:PAr} [h:RB K r pr] [ha:RAv K ta pa]:RE K (tCB r ta) (pCB pr pa) where
 ok:=by
  rintro c w env σ Qp Q rfl E p k;refine ha.ok c w env σ _ _ rfl E p fun vs xs e1 w1 E1 l1 v1 q1=>?_;exact h.ok c w1 e1 σ vs xs _ _ rfl E1 v1 q1 fun v s w' R q=>k v s e1 w' (R.pre l1) q
def rAbs:List V->Hpp->VK->Prop:=fun xs H Q=>∃ i,xs=[.int i]/\Q (.int (if i < 0 then -i else i)) H
def rMax:List V->Hpp->VK->Prop:=fun xs H Q=>∃ i j,xs=[.int i,.int j]/\Q (.int (if j > i then j else i)) H
def rMin:List V->Hpp->VK->Prop:=fun xs H Q=>∃ i j,xs=[.int i,.int j]/\Q (.int (if j < i then j else i)) H
def rIsi (K:Frag):List V->Hpp->VK->Prop:=fun xs H Q=>∃ x c T b,xs=[x,.ty c]/\TyV K H x T/\kitB T c=some b/\Q (.bl b) H
section
variable {X:Cx}
theorem A1x:CallR X (.builtin "abs") rAbs:=B21
theorem A1v (hc:X.calm=true):CallR X (.builtin "max") rMax:=B05 hc
theorem A1u (hc:X.calm=true):CallR X (.builtin "min") rMin:=B04 hc
theorem O2 {K:Frag} (h:X.K=K):CallR X (.builtin "isinstance") (rIsi K):=by subst h; exact A20
end
def pLen (xs:LP) (Q:SV->Prop):Prop:=match xs with
 | [.list ys]=>Q (.d (.int ys.length))
 | [.tuple ys]=>Q (.d (.int ys.length))
 | _=>False
def pAbs (xs:LP) (Q:SV->Prop):Prop:=match xs with
 | [.int i]=>Q (.d (.int (if i < 0 then -i else i)))
 | _=>False
def pMax (xs:LP) (Q:SV->Prop):Prop:=match xs with
 | [.int i,.int j]=>Q (.d (.int (if j > i then j else i)))
 | _=>False
def pMin (xs:LP) (Q:SV->Prop):Prop:=match xs with
 | [.int i,.int j]=>Q (.d (.int (if j < i then j else i)))
 | _=>False
def pInt (xs:LP) (Q:SV->Prop):Prop:=match xs with
 | [.int i]=>Q (.d (.int i))
 | [.bool k]=>Q (.d (.int (if k then 1 else 0)))
 | _=>False
def B30 (xs:LP) (Q:SV->Prop):Prop:=match xs with
 | [.list ys]=>Q (.own ys)
 | [.tuple ys]=>Q (.own ys)
 | _=>False
instance rb_abs {K:Frag}:RB K rAbs pAbs where
 ok:=by
  rintro c w env σ vs xs Qp Q rfl E vv p k;unfold pAbs at p;split at p
  ·cases vv with | cons h t=>cases t; exact ⟨_,by rw [h.intE],k _ _ w (Res.data E (.int _)) p⟩
  ·exact p.elim
instance rb_max {K:Frag}:RB K rMax pMax where
 ok:=by
  rintro c w env σ vs xs Qp Q rfl E vv p k;unfold pMax at p;split at p
  ·cases vv with | cons h t=>cases t with | cons h' t=>cases t; exact ⟨_,_,by rw [h.intE,h'.intE],k _ _ w (Res.data E (.int _)) p⟩
  ·exact p.elim
instance rb_min {K:Frag}:RB K rMin pMin where
 ok:=by
  rintro c w env σ vs xs Qp Q rfl E vv p k;unfold pMin at p;split at p
  ·cases vv with | cons h t=>cases t with | cons h' t=>cases t; exact ⟨_,_,by rw [h.intE,h'.intE],k _ _ w (Res.data E (.int _)) p⟩
  ·exact p.elim
def tyD:PyData->String
 | .none=>"NoneType"
 | .bool _=>"bool"
 | .int _=>"int"
 | .str _=>"str"
 | .list _=>"list"
 | .tuple _=>"tuple"
 | .dict _=>"dict"
theorem Den.ty {K:Frag} {H:Hpp} {v:V} {x:PyData} (h:Den K H v x):TyV K H v (tyD x):=by
 cases h with
 | non=>rfl
 | bl=>rfl
 | int=>rfl
 | str=>rfl
 | lst h _=>exact .inl ⟨rfl,_,h⟩
 | tup h _=>exact .inr (.inl ⟨rfl,_,h.1⟩)
 | dct h=>exact .inr (.inr ⟨rfl,_,h⟩)
def pIsi (c:String) (pa:PDt) (env:PEnv) (Q:SV->PEnv->Prop):Prop:=pa env fun x e=>match kitB (tyD x) c with
 | some b=>Q (.d (.bool b)) e
 | none=>False
instance (priority:=high) re_isi {K:Frag} {ta:TE} {pa:PDt} {c:String} [ha:RW K ta pa]:RE K (tCB (rIsi K) (N2 ta (N2 (tC (.ty c)) tNil))) (pIsi c pa) where
 ok:=by
  rintro ct w env σ Qp Q rfl E p k;refine ha.ok ct w env σ _ _ rfl E p fun x dx e1 w1 E1 l1 v1 q1=>?_;split at q1
  ·rename_i b hb;exact ⟨x,c,_,b,rfl,Den.ty (v1.den E1.wok),hb,k _ _ e1 w1 ((Res.data E1 (.bl _)).pre l1) q1⟩
  ·exact q1.elim
end Pu
namespace Pu
open PySem L2 My Prf
class RT (K:Frag) (tt:TT) (pt:outParam PTt):Prop where
 ok:∀ (c:Ct) (w:Wd) (env:PEnv) (σ:St) (Qp:Bool->PEnv->Prop) (Q:Bool->Hpp->Prop),c.K=K->EnvOk c w env σ->pt env Qp->(∀ b env' w',EnvOk c w' env' σ->Lw w w'->Qp b env'->Q b w'.H)->tt σ w.H Q
def asB (x:PyData) (k:Bool->Prop):Prop:=match x with
 | .bool b=>k b
 | _=>False
def B2c (pa:PDt) (env:PEnv) (Q:Bool->PEnv->Prop):Prop:=pa env fun x e=>asB x fun b=>Q b e
instance rt_test {K:Frag} {ta:TE} {pa:PDt} [ha:RW K ta pa]:RT K (B52 ta) (B2c pa) where
 ok:=by
  rintro c w env σ Qp Q rfl E p k;refine ha.ok c w env σ _ _ rfl E p fun x dx e1 w1 E1 l1 v1 q1=>?_;unfold asB at q1;split at q1
  ·exact ⟨_,v1.blE,k _ e1 w1 E1 l1 q1⟩
  ·exact q1.elim
instance rt_B {K:Frag} {ta:TE} {pa:PDt} [ha:RW K ta pa]:RT K (tB ta) (B2c pa) where
 ok:=by
  rintro c w env σ Qp Q rfl E p k;refine ha.ok c w env σ _ _ rfl E p fun x dx e1 w1 E1 l1 v1 q1=>?_;unfold asB at q1;split at q1
  ·exact ⟨_,v1.blE,k _ e1 w1 E1 l1 q1⟩
  ·exact q1.elim
def pYes (env:PEnv) (Q:Bool->PEnv->Prop):Prop:=Q true env
instance rt_yes {K:Frag}:RT K tYes pYes:=⟨fun c w env σ Qp Q _ E p k=>k true env w E (Lw.refl w) p⟩
def pNot (pa:PTt) (env:PEnv) (Q:Bool->PEnv->Prop):Prop:=pa env fun b e=>Q (!b) e
def pAnd (pa pb:PTt) (env:PEnv) (Q:Bool->PEnv->Prop):Prop:=pa env fun b e=>if b=true then pb e Q else Q false e
def pOr (pa pb:PTt) (env:PEnv) (Q:Bool->PEnv->Prop):Prop:=pa env fun b e=>if b=true then Q true e else pb e Q
instance rt_not {K:Frag} {ta:TT} {pa:PTt} [ha:RT K ta pa]:RT K (tNot ta) (pNot pa) where
 ok:=by
  rintro c w env σ Qp Q rfl E p k;exact ha.ok c w env σ _ _ rfl E p fun b e1 w1 E1 l1 q1=>k _ e1 w1 E1 l1 q1
instance rt_and {K:Frag} {ta tb:TT} {pa pb:PTt} [ha:RT K ta pa] [hb:RT K tb pb]:RT K (tAnd ta tb) (pAnd pa pb) where
 ok:=by
  rintro c w env σ Qp Q rfl E p k;refine ha.ok c w env σ _ _ rfl E p fun b e1 w1 E1 l1 q1=>?_;cases b with
  | true=>exact hb.ok c w1 e1 σ _ _ rfl E1 q1 fun b e2 w2 E2 l2 q2=>k _ e2 w2 E2 (l1.trans l2) q2
  | false=>exact k _ e1 w1 E1 l1 q1
instance rt_or {K:Frag} {ta tb:TT} {pa pb:PTt} [ha:RT K ta pa] [hb:RT K tb pb]:RT K (tOr ta tb) (pOr pa pb) where
 ok:=by
  rintro c w env σ Qp Q rfl E p k;refine ha.ok c w env σ _ _ rfl E p fun b e1 w1 E1 l1 q1=>?_;cases b with
  | false=>exact hb.ok c w1 e1 σ _ _ rfl E1 q1 fun b e2 w2 E2 l2 q2=>k _ e2 w2 E2 (l1.trans l2) q2
  | true=>exact k _ e1 w1 E1 l1 q1
def B7i (pa:PDt) (env:PEnv) (Q:SV->PEnv->Prop):Prop:=pa env fun x e=>asB x fun b=>Q (.d (.bool (!b))) e
def B7u (pa:PDt) (pb:PX) (env:PEnv) (Q:SV->PEnv->Prop):Prop:=pa env fun x e=>asB x fun b=>if b=true then pb e Q else Q (.d (.bool false)) e
def pOrV (pa:PDt) (pb:PX) (env:PEnv) (Q:SV->PEnv->Prop):Prop:=pa env fun x e=>asB x fun b=>if b=true then Q (.d (.bool true)) e else pb e Q
instance re_notV {K:Frag} {ta:TE} {pa:PDt} [ha:RW K ta pa]:RE K (B54 ta) (B7i pa) where
 ok:=by
  rintro c w env σ Qp Q rfl E p k;refine ha.ok c w env σ _ _ rfl E p fun x dx e1 w1 E1 l1 v1 q1=>?_;unfold asB at q1;split at q1
  ·exact ⟨_,v1.blE,k _ _ e1 w1 ((Res.data E1 (.bl _)).pre l1) q1⟩
  ·exact q1.elim
instance re_andV {K:Frag} {ta tb:TE} {pa:PDt} {pb:PX} [ha:RW K ta pa] [hb:RE K tb pb]:RE K (B59 ta tb) (B7u pa pb) where
 ok:=by
  rintro c w env σ Qp Q rfl E p k;refine ha.ok c w env σ _ _ rfl E p fun x dx e1 w1 E1 l1 v1 q1=>?_;unfold asB at q1;split at q1
  ·rename_i b;refine ⟨_,v1.blE,?_⟩;cases b with
   | true=>exact hb.ok c w1 e1 σ _ _ rfl E1 q1 fun v s e2 w2 R q2=>k _ _ e2 w2 (R.pre l1) q2
   | false=>exact k _ _ e1 w1 ((Res.data E1 (.bl _)).pre l1) q1
  ·exact q1.elim
instance re_orV {K:Frag} {ta tb:TE} {pa:PDt} {pb:PX} [ha:RW K ta pa] [hb:RE K tb pb]:RE K (tOrV ta tb) (pOrV pa pb) where
 ok:=by
  rintro c w env σ Qp Q rfl E p k;refine ha.ok c w env σ _ _ rfl E p fun x dx e1 w1 E1 l1 v1 q1=>?_;unfold asB at q1;split at q1
  ·rename_i b;refine ⟨_,v1.blE,?_⟩;cases b with
   | false=>exact hb.ok c w1 e1 σ _ _ rfl E1 q1 fun v s e2 w2 R q2=>k _ _ e2 w2 (R.pre l1) q2
   | true=>exact k _ _ e1 w1 ((Res.data E1 (.bl _)).pre l1) q1
  ·exact q1.elim
def pIfE (pt:PTt) (pa pb:PX) (env:PEnv) (Q:SV->PEnv->Prop):Prop:=pt env fun b e=>if b=true then pa e Q else pb e Q
instance re_if {K:Frag} {tt:TT} {ta tb:TE} {pt:PTt} {pa pb:PX} [ht:RT K tt pt] [ha:RE K ta pa] [hb:RE K tb pb]:RE K (tIf tt ta tb) (pIfE pt pa pb) where
 ok:=by
  rintro c w env σ Qp Q rfl E p k;refine ht.ok c w env σ _ _ rfl E p fun b e1 w1 E1 l1 q1=>?_;cases b with
  | true=>exact ha.ok c w1 e1 σ _ _ rfl E1 q1 fun v s e2 w2 R q2=>k _ _ e2 w2 (R.pre l1) q2
  | false=>exact hb.ok c w1 e1 σ _ _ rfl E1 q1 fun v s e2 w2 R q2=>k _ _ e2 w2 (R.pre l1) q2
inductive Md where
 | dat | vw | st | bt
def TV (K:Frag) (w:Wd) (v:V) (t:OT):Prop:=Tre K w t [v]/\∀ a ∈ t.fp,¬ w.M a
theorem Tre.has {K:Frag} {w:Wd}:∀ {t:OT} {vs:List V},Tre K w t vs->∀ a ∈ t.fp,w.H a≠none
 | .leaf _,_,_,_,z=>nomatch z
 | .nd _ p _,_,⟨_,_,h,k⟩,a,z=>(List.mem_cons.mp z).elim (fun e=>by rw [e,h]; simp) (Tre.has k a)
 | .nil,_,_,_,z=>nomatch z
 | .cons _ _,_,⟨_,_,_,h,t⟩,a,z=>(List.mem_append.mp z).elim (Tre.has h a) (Tre.has t a)
inductive Args (K:Frag) (w:Wd):List Md->List V->List SV->Prop
 | nil:Args K w [] [] []
 | dat {v:V} {x:PyData} {md:List Md} {vs:List V} {as:List SV}:Den K w.F v x->Args K w md vs as->Args K w (.dat :: md) (v :: vs) (.d x :: as)
 | vw {v:V} {xs:LP} {md:List Md} {vs:List V} {as:List SV}:VV K w v (.list xs)->Args K w md vs as->Args K w (.vw :: md) (v :: vs) (.bor xs :: as)
 | bt {v:V} {t:OT} {md:List Md} {vs:List V} {as:List SV}:TV K w v t->Args K w md vs as->Args K w (.bt :: md) (v :: vs) (.bt t :: as)
 | st {v:V} {md:List Md} {vs:List V} {as:List SV}:(∃ p,v=.ref p/\w.M p)->Args K w md vs as->Args K w (.st :: md) (v :: vs) (.st :: as)
theorem Args.len {K:Frag} {w:Wd}:∀ {md vs as},Args K w md vs as->vs.length=md.length
 | _,_,_,.nil=>rfl
 | _,_,_,.dat _ t=>congrArg (· + 1) (Args.len t)
 | _,_,_,.vw _ t=>congrArg (· + 1) (Args.len t)
 | _,_,_,.st _ t=>congrArg (· + 1) (Args.len t)
 | _,_,_,.bt _ t=>congrArg (· + 1) (Args.len t)
abbrev PSp:=List SV->(SV->Prop)->Prop
def noZ:Addr->Prop:=fun _=>False
def spOf (K:Frag) (md:List Md) (psp:PSp):Sp:=fun vs H Q _=>∃ (w:Wd) (as:List SV) (Qp:SV->Prop),w.H=H/\w.Ok/\Args K w md vs as/\psp as Qp /\
 ∀ v s w',w'.Ok->Le w w'->VR ⟨K,w,noZ⟩ w' v s->s.isRes=true->Qp s->Q v w'.H
theorem spOf.len {K:Frag} {md:List Md} {psp:PSp} {n:Nat} (h:md.length=n):∀ vs H Q E,spOf K md psp vs H Q E->vs.length=n:=by
 rintro vs H Q E ⟨w,as,Qp,_,_,a,_⟩;exact a.len.trans h
class RAm (K:Frag) (md:List Md) (ta:TA) (pa:outParam PAs):Prop where
 ok:∀ (c:Ct) (w:Wd) (env:PEnv) (σ:St) (Qp:List SV->PEnv->Prop) (Q:List V->Hpp->Prop),c.K=K->EnvOk c w env σ->pa env Qp->(∀ vs as env' w',EnvOk c w' env' σ->Lw w w'->Args K w' md vs as->Qp as env'->Q vs w'.H)->ta σ w.H Q
def B7j (env:PEnv) (Q:List SV->PEnv->Prop):Prop:=Q [] env
def A75 (pa:PDt) (pr:PAs) (env:PEnv) (Q:List SV->PEnv->Prop):Prop:=pa env fun x e1=>pr e1 fun as e2=>Q (.d x :: as) e2
def asL (x:PyData) (k:LP->Prop):Prop:=match x with
 | .list xs=>k xs
 | _=>False
def A74 (pa:PDt) (pr:PAs) (env:PEnv) (Q:List SV->PEnv->Prop):Prop:=pa env fun x e1=>asL x fun xs=>pr e1 fun as e2=>Q (.bor xs :: as) e2
def isSt (o:Option (Option SV)) (k:Prop):Prop:=match o with
 | some (some .st)=>k
 | _=>False
def A33 (i:Nat) (pr:PAs) (env:PEnv) (Q:List SV->PEnv->Prop):Prop:=isSt env[i]? (pr env fun as e2=>Q (.st :: as) e2)
instance ram_nil {K:Frag}:RAm K [] tNil B7j:=⟨fun c w env σ Qp Q _ E p k=>k [] [] env w E (Lw.refl w) .nil p⟩
instance ram_dat {K:Frag} {md:List Md} {ta:TE} {tr:TA} {pa:PDt} {pr:PAs} [ha:RD K ta pa] [hr:RAm K md tr pr]:RAm K (.dat :: md) (N2 ta tr) (A75 pa pr) where
 ok:=by
  rintro c w env σ Qp Q rfl E p k;refine ha.ok c w env σ _ _ rfl E p fun x dx e1 w1 E1 l1 v1 q1=>?_;refine hr.ok c w1 e1 σ _ _ rfl E1 q1 fun vs xs e2 w2 E2 l2 v2 q2=>?_;exact k _ _ e2 w2 E2 (l1.trans l2) (.dat (Den.same l2.f v1) v2) q2
instance ram_vw {K:Frag} {md:List Md} {ta:TE} {tr:TA} {pa:PDt} {pr:PAs} [ha:RW K ta pa] [hr:RAm K md tr pr]:RAm K (.vw :: md) (N2 ta tr) (A74 pa pr) where
 ok:=by
  rintro c w env σ Qp Q rfl E p k;refine ha.ok c w env σ _ _ rfl E p fun x dx e1 w1 E1 l1 v1 q1=>?_;unfold asL at q1;split at q1
  ·refine hr.ok c w1 e1 σ _ _ rfl E1 q1 fun vs xs e2 w2 E2 l2 v2 q2=>?_;exact k _ _ e2 w2 E2 (l1.trans l2) (.vw (v1.mono l2) v2) q2
  ·exact q1.elim
instance ram_st {K:Frag} {md:List Md} {i:Nat} {tr:TA} {pr:PAs} [hr:RAm K md tr pr]:RAm K (.st :: md) (N2 (tVar i) tr) (A33 i pr) where
 ok:=by
  rintro c w env σ Qp Q rfl E p k;unfold A33 isSt at p;split at p
  ·rename_i e;obtain ⟨v,h1,h2⟩:=E.at' i _ e;refine ⟨v,h1,?_⟩;refine hr.ok c w env σ _ _ rfl E p fun vs xs e2 w2 E2 l2 v2 q2=>?_;obtain ⟨q,e',hm⟩:=h2;exact k _ _ e2 w2 E2 l2 (.st ⟨q,e',l2.m _ hm⟩ v2) q2
  ·exact p.elim
def C0m (psp:PSp) (pa:PAs) (env:PEnv) (Q:SV->PEnv->Prop):Prop:=pa env fun as e=>psp as fun s=>Q s e
theorem Res.called {c:Ct} {w w':Wd} {env:PEnv} {σ:St} {v:V} {s:SV} (E:EnvOk c w env σ) (ok:w'.Ok) (l:Le w w') (h:VR ⟨c.K,w,noZ⟩ w' v s) (r:s.isRes=true):Res c w env σ w' v s:=by
 refine ⟨E.mono ok l,l.toLw,?_,fun a f=>E.fresh (h.foot f).2.2.2,r⟩;cases s with
 | d x=>exact h
 | own xs=>obtain ⟨a,vs,e,h1,h2,h3,h4,h5⟩:=h; exact ⟨a,vs,e,h1,h2,h3,E.le0.dom _ h4,h5⟩
 | bor xs=>cases r
 | bt t=>cases r
 | al t=>cases r
 | dk ks=>obtain ⟨l',e,h1,h2,h3,h4⟩:=h; exact ⟨l',e,h1,h2,h3,E.le0.dom _ h4⟩
 | st=>exact h
 | tr t=>exact ⟨h.1,fun a f=>⟨(h.2.1 a f).1,(h.2.1 a f).2.1,(h.2.1 a f).2.2.1,E.le0.dom _ (h.2.1 a f).2.2.2⟩,h.2.2⟩
instance re_call {K:Frag} {md:List Md} {psp:PSp} {E0':XK} {ta:TA} {pa:PAs} [ha:RAm K md ta pa]:RE K (A6h (spOf K md psp) [] E0' ta) (C0m psp pa) where
 ok:=by
  rintro c w env σ Qp Q rfl E p k;refine ha.ok c w env σ _ _ rfl E p fun vs as e1 w1 E1 l1 a1 q1=>?_;rw [List.append_nil];exact ⟨w1,as,_,rfl,E1.wok,a1,q1,fun v s w' ok l h r q=>k v s e1 w' ((Res.called E1 ok l h r).pre l1) q⟩
structure PEnds where
 nx:PEnv->Prop
 rt:SV->PEnv->Prop
 bk:PEnv->Prop
 ct:PEnv->Prop
abbrev PSt:=PEnds->PEnv->Prop
structure EndsOk (c:Ct) (w:Wd) (Dp:PEnds) (D:Ends):Prop where
 nx:∀ env σ w',EnvOk c w' env σ->Same w.F w'.F->Dp.nx env->D.nx σ w'.H
 rt:∀ v s env σ w',EnvOk c w' env σ->VR c w' v s->s.isRes=true->Dp.rt s env->D.rt v w'.H
 bk:∀ env σ w',EnvOk c w' env σ->Same w.F w'.F->Dp.bk env->D.bk σ w'.H
 ct:∀ env σ w',EnvOk c w' env σ->Same w.F w'.F->Dp.ct env->D.ct σ w'.H
theorem EndsOk.on {c:Ct} {w w1:Wd} {Dp:PEnds} {D:Ends} (h:EndsOk c w Dp D) (s:Same w.F w1.F):EndsOk c w1 Dp D :=
 ⟨fun e σ w' E s'=>h.nx e σ w' E (s.trans s'),h.rt,fun e σ w' E s'=>h.bk e σ w' E (s.trans s'),fun e σ w' E s'=>h.ct e σ w' E (s.trans s')⟩
class RS (K:Frag) (ts:TS) (ps:outParam PSt):Prop where
 ok:∀ (c:Ct) (w:Wd) (env:PEnv) (σ:St) (Dp:PEnds) (D:Ends),c.K=K->EnvOk c w env σ->EndsOk c w Dp D->ps Dp env->ts D σ w.H
def B7k (D:PEnds) (env:PEnv):Prop:=D.nx env
def B4m (D:PEnds) (env:PEnv):Prop:=D.bk env
def C0h (D:PEnds) (env:PEnv):Prop:=D.ct env
def A7p (_:PEnds) (_:PEnv):Prop:=False
def pSeq (p q:PSt) (D:PEnds) (env:PEnv):Prop:=p { D with nx:=q D } env
instance rs_next {K:Frag}:RS K B55 B7k:=⟨fun c w env σ Dp D _ E h p=>h.nx env σ w E (Same.refl _) p⟩
instance rs_never {K:Frag}:RS K A6d A7p:=⟨fun c w env σ Dp D _ E h p=>p.elim⟩
instance rs_seq {K:Frag} {t u:TS} {p q:PSt} [ht:RS K t p] [hu:RS K u q]:RS K (tSeq t u) (pSeq p q) where
 ok:=by
  rintro c w env σ Dp D rfl E h pr;refine ht.ok c w env σ { Dp with nx:=q Dp } _ rfl E ⟨fun e1 σ1 w1 E1 s1 n1=>?_,h.rt,h.bk,h.ct⟩ pr;exact hu.ok c w1 e1 σ1 Dp D rfl E1 (h.on s1) n1
def B7r (pe:PX) (D:PEnds) (env:PEnv):Prop:=pe env fun _ e=>D.nx e
instance (priority:=low) rs_drop {K:Frag} {te:TE} {pe:PX} [he:RE K te pe]:RS K (A6e te) (B7r pe) where
 ok:=by
  rintro c w env σ Dp D rfl E h p;exact he.ok c w env σ _ _ rfl E p fun v s e1 w1 R q=>h.nx e1 σ w1 R.ev R.lw.f q
def pRet (pe:PX) (D:PEnds) (env:PEnv):Prop:=pe env fun s e=>D.rt s e
instance (priority:=low) rs_ret {K:Frag} {te:TE} {pe:PX} [he:RE K te pe]:RS K (tRet te) (pRet pe) where
 ok:=by
  rintro c w env σ Dp D rfl E h p;exact he.ok c w env σ _ _ rfl E p fun v s e1 w1 R q=>h.rt v s e1 σ w1 R.ev R.val R.res q
def B7f (i:Nat) (D:PEnds) (env:PEnv):Prop:=match env[i]? with
 | some (some (.bor _))=>False
 | some (some (.bt _))=>False
 | some (some (.al _))=>False
 | some (some s)=>D.rt s env
 | _=>False
instance rs_retV {K:Frag} {i:Nat}:RS K (tRet (tVar i)) (B7f i) where
 ok:=by
  rintro c w env σ Dp D rfl E h p;unfold B7f at p;split at p
  ·exact p.elim
  ·exact p.elim
  ·exact p.elim
  ·rename_i s hn hn2 hn3 e;obtain ⟨v,h1,h2⟩:=E.at' i _ e;refine ⟨v,h1,h.rt v s env σ w E h2 ?_ p⟩;cases s with
   | bor xs=>exact absurd rfl (hn xs)
   | bt t=>exact absurd rfl (hn2 t)
   | al t=>exact absurd rfl (hn3 t)
   | _=>rfl
  ·exact p.elim
def B91 (D:PEnds) (env:PEnv):Prop:=D.rt (.d .none) env
def pIf (pt:PTt) (p q:PSt) (D:PEnds) (env:PEnv):Prop:=pt env fun b e=>if b=true then p D e else q D e
instance rs_if {K:Frag} {tt:TT} {t u:TS} {pt:PTt} {p q:PSt} [hc:RT K tt pt] [ht:RS K t p] [hu:RS K u q]:RS K (tIfS tt t u) (pIf pt p q) where
 ok:=by
  rintro c w env σ Dp D rfl E h pr;refine hc.ok c w env σ _ _ rfl E pr fun b e1 w1 E1 l1 q1=>?_;cases b with
  | true=>exact ht.ok c w1 e1 σ Dp D rfl E1 (h.on l1.f) q1
  | false=>exact hu.ok c w1 e1 σ Dp D rfl E1 (h.on l1.f) q1
def pAsg (pe:PX) (i:Nat) (D:PEnds) (env:PEnv):Prop:=pe env fun s e=>D.nx (e.set i (some s))
instance rs_asg {K:Frag} {te:TE} {pe:PX} {i:Nat} [he:RE K te pe]:RS K (tAsg te (W3 i)) (pAsg pe i) where
 ok:=by
  rintro c w env σ Dp D rfl E h p;exact he.ok c w env σ _ _ rfl E p fun v s e1 w1 R q=>h.nx _ _ w1 (R.ev.set R.val R.new) R.lw.f q
class RG (K:Frag) (g:TG) (pg:outParam (PyData->PEnv->(PEnv->Prop)->Prop)):Prop where
 ok:∀ (c:Ct) (w:Wd) (env:PEnv) (σ:St) (v:V) (x:PyData) (Qp:PEnv->Prop) (Q:St->Hpp->Prop),c.K=K->EnvOk c w env σ->Den K w.F v x->pg x env Qp->(∀ env' σ',EnvOk c w env' σ'->Qp env'->Q σ' w.H)->g v σ w.H Q
class RGs (K:Frag) (g:TGs) (pg:outParam (LP->PEnv->(PEnv->Prop)->Prop)):Prop where
 ok:∀ (c:Ct) (w:Wd) (env:PEnv) (σ:St) (vs:List V) (xs:LP) (Qp:PEnv->Prop) (Q:St->Hpp->Prop),c.K=K->EnvOk c w env σ->DenAll K w.F vs xs->pg xs env Qp->(∀ env' σ',EnvOk c w env' σ'->Qp env'->Q σ' w.H)->g vs σ w.H Q
def B1w (i:Nat) (x:PyData) (env:PEnv) (Q:PEnv->Prop):Prop:=Q (env.set i (some (.d x)))
instance rg_name {K:Frag} {i:Nat}:RG K (W3 i) (B1w i) where
 ok:=by
  rintro c w env σ v x Qp Q rfl E d p k;exact k _ _ (E.set (s:=.d x) d (fun _ z=>nomatch z)) p
def qNil (xs:LP) (env:PEnv) (Q:PEnv->Prop):Prop:=match xs with
 | []=>Q env
 | _=>False
def B6q (pg:PyData->PEnv->(PEnv->Prop)->Prop) (pr:LP->PEnv->(PEnv->Prop)->Prop) (xs:LP) (env:PEnv) (Q:PEnv->Prop):Prop:=match xs with
 | x :: r=>pg x env fun e=>pr r e Q
 | []=>False
def qTup (n:Nat) (pr:LP->PEnv->(PEnv->Prop)->Prop) (x:PyData) (env:PEnv) (Q:PEnv->Prop):Prop:=match x with
 | .tuple xs=>xs.length=n/\pr xs env Q
 | _=>False
instance rgs_nil {K:Frag}:RGs K gNil qNil where
 ok:=by
  rintro c w env σ vs xs Qp Q rfl E d p k;unfold qNil at p;split at p
  ·cases d; exact ⟨rfl,k env σ E p⟩
  ·exact p.elim
instance rgs_cons {K:Frag} {g:TG} {gs:TGs} {pg:PyData->PEnv->(PEnv->Prop)->Prop} {pr:LP->PEnv->(PEnv->Prop)->Prop} [hg:RG K g pg] [hr:RGs K gs pr]:RGs K (A2v g gs) (B6q pg pr) where
 ok:=by
  rintro c w env σ vs xs Qp Q rfl E d p k;unfold B6q at p;split at p
  ·cases d with
   | cons h t =>
    refine ⟨_,_,rfl,hg.ok c w env σ _ _ _ _ rfl E h p fun e1 σ1 E1 q1=>?_⟩;exact hr.ok c w e1 σ1 _ _ _ _ rfl E1 t q1 k
  ·exact p.elim
instance rg_tup {K:Frag} {n:Nat} {gs:TGs} {pr:LP->PEnv->(PEnv->Prop)->Prop} [hr:RGs K gs pr]:RG K (gTup K n gs) (qTup n pr) where
 ok:=by
  rintro c w env σ v x Qp Q rfl E d p k;unfold qTup at p;split at p
  ·obtain ⟨a,vs,e,h1,h2⟩:=d.tupE;exact ⟨a,vs,e,SqT.same E.wok.sub h1,h2.len.trans p.1,hr.ok c w env σ _ _ _ _ rfl E h2 p.2 k⟩
  ·exact p.elim
def B7t (pd:PDt) (n:Nat) (pr:LP->PEnv->(PEnv->Prop)->Prop) (D:PEnds) (env:PEnv):Prop:=pd env fun x e=>qTup n pr x e D.nx
instance rs_asgT {K:Frag} {te:TE} {pd:PDt} {n:Nat} {gs:TGs} {pr:LP->PEnv->(PEnv->Prop)->Prop} [he:RD K te pd] [hr:RGs K gs pr]:RS K (tAsg te (gTup K n gs)) (B7t pd n pr) where
 ok:=by
  rintro c w env σ Dp D rfl E h p;refine he.ok c w env σ _ _ rfl E p fun v x e1 w1 E1 l1 d1 q1=>?_;exact rg_tup.ok c w1 e1 σ v x _ _ rfl E1 d1 q1 fun e2 σ2 E2 q2=>h.nx e2 σ2 w1 E2 l1.f q2
def pPar (i j:Nat) (pa:PAr) (D:PEnds) (env:PEnv):Prop:=pa env fun xs e=>match xs with
 | [x,y]=>D.nx ((e.set i (some (.d x))).set j (some (.d y)))
 | _=>False
instance rs_par {K:Frag} {ta:TA} {pa:PAr} {i j:Nat} [ha:RAd K ta pa]:RS K (tPar i j ta) (pPar i j pa) where
 ok:=by
  rintro c w env σ Dp D rfl E h p;refine ha.ok c w env σ _ _ rfl E p fun vs xs e1 w1 E1 l1 d1 q1=>?_;split at q1
  ·cases d1 with
   | cons a t=>cases t with
    | cons b t =>
     cases t;exact ⟨_,_,rfl,h.nx _ _ w1 ((E1.set (s:=.d _) a (fun _ z=>nomatch z)).set (s:=.d _) b (fun _ z=>nomatch z)) l1.f q1⟩
  ·exact q1.elim
def N6 (o:Option (Option SV)) (k:LP->Prop):Prop:=match o with
 | some (some (.own xs))=>k xs
 | _=>False
theorem EnvOk.writeAt {c:Ct} {w:Wd} {env:PEnv} {σ:St} {i:Nat} {s s':SV} {l:Addr} {wo:HO} {v:V} (E:EnvOk c w env σ) (e:env[i]?=some (some s)) (hσ:σ[i]?=some (some v)) (hf:s.foot v l) (hf':∀ a,s'.foot v a->s.foot v a)
  (hd:VR c ⟨w.M,upd w.H l wo,w.F⟩ v s'):EnvOk c ⟨w.M,upd w.H l wo,w.F⟩ (env.set i (some s')) σ:=by
 obtain ⟨h1,h2,h3,h4⟩:=(E.look e hσ).foot hf;have ne:∀ b,w.M b->b≠l:=fun b hb z=>h3 (z ▸ hb);have hd':∀ {j:Nat} {t:SV},(env.set i (some s'))[j]?=some (some t)->(i=j/\t=s')\/(i≠j/\env[j]?=some (some t)):=by
  intro j t q;rw [List.getElem?_set] at q;split at q
  ·rename_i z;split at q
   ·cases q; exact .inl ⟨z,rfl⟩
   ·cases q
  ·rename_i z; exact .inr ⟨z,q⟩
 have ft:∀ {j:Nat} {t:SV} {u:V} {a:Addr},(env.set i (some s'))[j]?=some (some t)->σ[j]?=some (some u)->t.foot u a->∃ t',env[j]?=some (some t')/\t'.foot u a:=by
  intro j t u a q qu f;rcases hd' q with ⟨rfl,rfl⟩ | ⟨_,q⟩
  ·rw [hσ] at qu; cases qu; exact ⟨s,e,hf' a f⟩
  ·exact ⟨t,q,f⟩
 refine ⟨⟨fun b o q=>?_,fun p hp=>(E.wok.st p hp).kp (ne p hp) Kp.upd,E.wok.nf⟩,⟨⟨E.le0.f,fun b o q n=>?_,E.le0.m,E.le0.mn,fun b q=>E.le0.dom b (P2 q)⟩,E.le0.n⟩,by simpa using E.len,fun j t q=>?_,fun j k s1 t1 v1 u1 a q1 q2 q3 q4 f1 f2=>?_,fun a za=>?_,fun a j t u za q q' f=>?_⟩
 ·show upd w.H l wo b=some o;rw [D8 (fun z=>by rw [z,h2] at q; cases q)]; exact E.wok.sub b o q
 ·show upd w.H l wo b=some o;rw [D8 (fun z=>by rw [z,h4] at q; cases q)]; exact E.le0.h b o q n
 ·rcases hd' q with ⟨rfl,rfl⟩ | ⟨z,q⟩
  ·exact ⟨v,hσ,hd⟩
  ·obtain ⟨u,g1,g2⟩:=E.at' j t q;exact ⟨u,g1,g2.writ h1 fun f=>z (E.own i j _ _ _ _ l e q hσ g1 hf f)⟩
 ·obtain ⟨_,p1,g1⟩:=ft q1 q3 f1;obtain ⟨_,p2,g2⟩:=ft q2 q4 f2;exact E.own j k _ _ _ _ a p1 p2 q3 q4 g1 g2
 ·obtain ⟨z1,z2,z3⟩:=E.zf a za;exact ⟨z1,fun q=>z2 (P2 q),z3⟩
 ·obtain ⟨_,p,g⟩:=ft q q' f;exact E.zo a j _ _ za p q' g
theorem EnvOk.write {c:Ct} {w:Wd} {env:PEnv} {σ:St} {i:Nat} {xs ys:LP} {l:Addr} {vs us:List V} (E:EnvOk c w env σ) (e:env[i]?=some (some (.own xs))) (hσ:σ[i]?=some (some (.ref l))) (h1:w.H l=some (.lst vs)) (h2:w.F l=none) (h3:¬ w.M l) (h4:c.w0.H l=none)
  (hd:DenAll c.K w.F us ys):EnvOk c ⟨w.M,upd w.H l (.lst us),w.F⟩ (env.set i (some (.own ys))) σ :=
 E.writeAt e hσ rfl (fun _ f=>f) ⟨l,us,rfl,D7,h2,h3,h4,hd⟩
def pApp (i:Nat) (pd:PDt) (D:PEnds) (env:PEnv):Prop:=N6 env[i]? fun _=>pd env fun x e=>N6 e[i]? fun xs=>xs.length < 1000000/\D.nx (e.set i (some (.own (xs++[x]))))
theorem A3h {n:Nat} (h:n < 1000000):n < sizeLine:=Nat.lt_of_lt_of_le h (by decide)
instance rs_app {K:Frag} {i:Nat} {te:TE} {pd:PDt} [he:RD K te pd]:RS K (A6e (tBM K "list" A6s (tVar i) (N2 te tNil))) (pApp i pd) where
 ok:=by
  rintro c w env σ Dp D rfl E h p;unfold pApp N6 at p;split at p
  ·rename_i xs0 e0;obtain ⟨v,g0,l,vs,ev,h1,h2,h3,h4,h5⟩:=E.at' i _ e0;subst ev;refine ⟨_,g0,.inl ⟨rfl,_,SqL.of h1⟩,?_⟩;refine he.ok c w env σ _ _ rfl E p fun y x e1 w1 E1 l1 d1 q1=>?_;split at q1
   ·rename_i xs e;obtain ⟨v',g0',l',vs',ev',k1,k2,k3,k4,k5⟩:=E1.at' i _ e;rw [g0] at g0'; cases g0'; cases ev';refine ⟨l,vs',y,rfl,rfl,k1,by rw [k5.len]; exact A3h q1.1,?_⟩;exact h.nx _ σ ⟨w1.M,upd w1.H l (.lst (vs'++[y])),w1.F⟩ (E1.write e g0 k1 k2 k3 k4 (k5.app (.cons d1 .nil))) l1.f q1.2
   ·exact q1.elim
  ·exact p.elim
def B4i (i:Nat) (D:PEnds) (env:PEnv):Prop:=N6 env[i]? fun _=>D.nx (env.set i (some (.own [])))
def B93 (i:Nat) (D:PEnds) (env:PEnv):Prop:=N6 env[i]? fun xs=>0 < xs.length/\D.nx (env.set i (some (.own xs.dropLast)))
end Pu
namespace L2
open PySem PySem.Spec PyProof.Rows
section
variable {X:Cx} {tg:Expr}
def iSq (K:PySem.W.Frag) (tl:TE):TI:=fun σ H R=>tl σ H fun x H1=>(∃ a,x=.ref a/\(∃ xs,SqL K H1 a xs)/\R (Itl K a) H1)\/∃ a,x=.ref a/\(∃ xs,SqT K H1 a xs)/\R (Itt K a) H1
theorem C20 {l:Expr} {tl:TE} (hl:PE X l tl):PI X tg l (iSq X.K tl):=by
 intro pins s σ H R I h;refine thn (hl pins s σ H _ I h) fun v s1 ⟨x,H1,I1,r1,q1⟩=>?_;rcases q1 with ⟨a,e,⟨xs,hq⟩,q⟩ | ⟨a,e,⟨xs,hq⟩,q⟩
 ·subst e;cases r1;obtain ⟨its,rv,p,hz⟩:=I1.list hq;refine wpAny_pyIter_list p.isList ?_;refine ⟨s1.heap.objs.size,[s1.heap.objs.size],_,_,H1,rfl,I1.kept (t':=s1.toks) fun b o e=>Heap.get?_push_of_some _ e,A6a a _,⟨_,Heap.get?_push_size _ rfl,rfl,rfl⟩,fun b hb=>?_,q⟩;have e:b=s1.heap.objs.size:=by simpa using hb
  subst e;exact I1.fpOk (Nat.le_refl _) (I1.hok.fresh (Nat.le_refl _))
 ·subst e;cases r1;obtain ⟨its,rv,p,hz⟩:=I1.tuple hq;refine wpAny_pyIter_tuple (show s1.heap.IsTuple a its.toArray from p) ?_;refine ⟨s1.heap.objs.size,[s1.heap.objs.size],_,_,H1,rfl,I1.kept (t':=s1.toks) fun b o e=>Heap.get?_push_of_some _ e,A5b a _,⟨_,Heap.get?_push_size _ rfl,rfl,rfl⟩,fun b hb=>?_,q⟩;have e:b=s1.heap.objs.size:=by simpa using hb
  subst e;exact I1.fpOk (Nat.le_refl _) (I1.hok.fresh (Nat.le_refl _))
theorem B9h {K:PySem.W.Frag} {l:Expr} {tl:TE} (h:X.K=K) (hl:PE X l tl):PI X tg l (iSq K tl):=by subst h; exact C20 hl
theorem F8 {K:PySem.W.Frag} (h:X.K=K) (hu:X.A.units + 64 < cLine):OpR X (compareOp .Eq) (rEqD K):=by subst h; exact C0t hu
theorem P6 {K:PySem.W.Frag} (h:X.K=K) (hu:X.A.units + 64 < cLine):OpR X (compareOp .NotEq) (rNeD K):=by subst h; exact C0p hu
theorem Y9 {K:PySem.W.Frag} (h:X.K=K):SlR X (rSlL K):=by subst h; exact B6e
end
end L2
namespace Pu
open PySem L2 My Prf
def A7g (pt:PTt) (pb:PSt) (D:PEnds) (env:PEnv):Prop:=∃ Inv:Nat->PEnv->Prop,(∃ m,Inv m env)/\∀ m e,Inv m e->pt e fun b e2=>if b=true then pb ⟨fun e3=>∃ m',m' < m/\Inv m' e3,D.rt,D.nx,fun e3=>∃ m',m' < m/\Inv m' e3⟩ e2 else D.nx e2
instance rs_while {K:Frag} {tt:TT} {tb:TS} {pt:PTt} {pb:PSt} [ht:RT K tt pt] [hb:RS K tb pb]:RS K (A6c tt tb) (A7g pt pb) where
 ok:=by
  rintro c w env σ Dp D rfl E h ⟨Inv,⟨m0,i0⟩,step⟩;refine ⟨fun m σ' H'=>∃ e w',w'.H=H'/\EnvOk c w' e σ'/\Same w.F w'.F/\Inv m e,⟨m0,env,w,rfl,E,Same.refl _,i0⟩,?_⟩;rintro m σ1 _ ⟨e1,w1,rfl,E1,s1,i1⟩;refine ht.ok c w1 e1 σ1 _ _ rfl E1 (step m e1 i1) fun b e2 w2 E2 l2 q2=>?_;cases b with
  | true =>
   refine ⟨fun σ' H'=>∃ e w',w'.H=H'/\EnvOk c w' e σ'/\Same w.F w'.F/\∃ m',m' < m/\Inv m' e,fun σ' H' ⟨e,w',e1,E',s',m',hm,i'⟩=>⟨m',hm,e,w',e1,E',s',i'⟩,?_⟩;refine hb.ok c w2 e2 σ1 ⟨fun e3=>∃ m',m' < m/\Inv m' e3,Dp.rt,Dp.nx,fun e3=>∃ m',m' < m/\Inv m' e3⟩ _ rfl E2 ⟨fun e3 σ3 w3 E3 s3 n3=>⟨e3,w3,rfl,E3,s1.trans (l2.f.trans s3),n3⟩,h.rt,fun e3 σ3 w3 E3 s3 n3=>h.nx e3 σ3 w3 E3 (s1.trans (l2.f.trans s3)) n3,fun e3 σ3 w3 E3 s3 n3=>⟨e3,w3,rfl,E3,s1.trans (l2.f.trans s3),n3⟩⟩ q2
  | false=>exact h.nx e2 σ1 w2 E2 (s1.trans l2.f) q2
def Walk (c:Ct) (w1:Wd) (J:It) (xs:LP):Prop :=
 ∀ w',w'.Ok->Le c.w0 w'->Same w1.F w'.F->(∀ i,i < xs.length->J.go i w'.H)/\J.stop xs.length w'.H/\∀ i v H',J.yld i w'.H v H'->i < xs.length->∃ w2 x,w2.H=H'/\w2.Ok/\Le w' w2/\xs[i]?=some x/\Den c.K w2.F v x
class RI (K:Frag) (wi:TI) (pi:outParam PAr):Prop where
 ok:∀ (c:Ct) (w:Wd) (env:PEnv) (σ:St) (Qp:LP->PEnv->Prop) (R:It->Hpp->Prop),c.K=K->EnvOk c w env σ->pi env Qp->(∀ J xs env' w',EnvOk c w' env' σ->Lw w w'->Walk c w' J xs->Qp xs env'->R J w'.H)->wi σ w.H R
theorem N7 {c:Ct} {w1:Wd} {a:Addr} {vs:List V} {xs:LP} (d:DenAll c.K w1.F vs xs) (h:∀ w',w'.Ok->Le c.w0 w'->Same w1.F w'.F->SqL c.K w'.H a vs):Walk c w1 (Itl c.K a) xs:=by
 intro w' ok l s;have q:=h w' ok l s;have hl:=d.len;refine ⟨fun i hi=>⟨vs,vs[i]'(by omega),q,List.getElem?_eq_getElem _⟩,⟨vs,q,by omega⟩,fun i v H' y hi=>?_⟩;obtain ⟨e,y⟩:=y;obtain ⟨x,g1,g2⟩:=d.get (y vs q);exact ⟨w',x,e.symm,ok,Le.refl w',g1,Den.same s g2⟩
theorem A29 {c:Ct} {w1:Wd} {a:Addr} {vs:List V} {xs:LP} (d:DenAll c.K w1.F vs xs) (h:∀ w',w'.Ok->Le c.w0 w'->Same w1.F w'.F->SqT c.K w'.H a vs):Walk c w1 (Itt c.K a) xs:=by
 intro w' ok l s;have q:=h w' ok l s;have hl:=d.len;refine ⟨fun i hi=>⟨vs,vs[i]'(by omega),q,List.getElem?_eq_getElem _⟩,⟨vs,q,by omega⟩,fun i v H' y hi=>?_⟩;obtain ⟨e,y⟩:=y;obtain ⟨x,g1,g2⟩:=d.get (y vs q);exact ⟨w',x,e.symm,ok,Le.refl w',g1,Den.same s g2⟩
def S6 (x:PyData) (k:LP->Prop):Prop:=match x with
 | .list xs=>k xs
 | .tuple xs=>k xs
 | _=>False
def B7n (pd:PDt) (env:PEnv) (Q:LP->PEnv->Prop):Prop:=pd env fun x e=>S6 x fun xs=>Q xs e
instance (priority:=low) ri_sq {K:Frag} {tl:TE} {pd:PDt} [hl:RD K tl pd]:RI K (iSq K tl) (B7n pd) where
 ok:=by
  rintro c w env σ Qp R rfl E p k;refine hl.ok c w env σ _ _ rfl E p fun v x e1 w1 E1 l1 d1 q1=>?_;unfold S6 at q1;split at q1
  ·obtain ⟨a,vs,e,h1,h2⟩:=d1.lstE;exact .inl ⟨a,e,⟨vs,E1.wok.sub.seq h1⟩,k _ _ e1 w1 E1 l1 (N7 h2 fun w' ok l s=>(s.trans ok.sub).seq h1) q1⟩
  ·obtain ⟨a,vs,e,h1,h2⟩:=d1.tupE;exact .inr ⟨a,e,⟨vs,SqT.same E1.wok.sub h1⟩,k _ _ e1 w1 E1 l1 (A29 h2 fun w' ok l s=>SqT.same (s.trans ok.sub) h1) q1⟩
  ·exact q1.elim
def A70 (i:Nat) (env:PEnv) (Q:LP->PEnv->Prop):Prop:=match env[i]? with
 | some (some (.d x))=>S6 x fun xs=>Q xs env
 | some (some (.own xs))=>Q xs (env.set i (some (.d (.list xs))))
 | some (some (.bor xs))=>Q xs env
 | _=>False
instance ri_var {K:Frag} {i:Nat}:RI K (iSq K (tVar i)) (A70 i) where
 ok:=by
  rintro c w env σ Qp R rfl E p k;unfold A70 at p;split at p
  ·rename_i x e;obtain ⟨v,h1,h2⟩:=E.at' i _ e;refine ⟨v,h1,?_⟩;unfold S6 at p;split at p
   ·obtain ⟨a,vs,e,g1,g2⟩:=Den.lstE h2;exact .inl ⟨a,e,⟨vs,E.wok.sub.seq g1⟩,k _ _ env w E (Lw.refl w) (N7 g2 fun w' ok l s=>(s.trans ok.sub).seq g1) p⟩
   ·obtain ⟨a,vs,e,g1,g2⟩:=Den.tupE h2;exact .inr ⟨a,e,⟨vs,SqT.same E.wok.sub g1⟩,k _ _ env w E (Lw.refl w) (A29 g2 fun w' ok l s=>SqT.same (s.trans ok.sub) g1) p⟩
   ·exact p.elim
  ·rename_i xs e;obtain ⟨w',v,e',hv,E',l,d⟩:=E.frz e;refine ⟨v,hv,?_⟩;obtain ⟨a,vs,e,g1,g2⟩:=d.lstE;have:=k _ _ _ w' E' l (N7 g2 fun w' ok l s=>(s.trans ok.sub).seq g1) p;rw [e'] at this;exact .inl ⟨a,e,⟨vs,by rw [<- e']; exact E'.wok.sub.seq g1⟩,this⟩
  ·rename_i xs e;obtain ⟨v,h1,h2⟩:=E.at' i _ e;refine ⟨v,h1,?_⟩;rcases h2 with h2 | ⟨l,vs,ev,g1,g2,g3⟩
   ·obtain ⟨a,vs,e,g1,g2⟩:=Den.lstE h2;exact .inl ⟨a,e,⟨vs,E.wok.sub.seq g1⟩,k _ _ env w E (Lw.refl w) (N7 g2 fun w' ok l s=>(s.trans ok.sub).seq g1) p⟩
   ·exact .inl ⟨l,ev,⟨vs,SqL.of (E.le0.h _ _ g1 g2)⟩,k _ _ env w E (Lw.refl w) (N7 g3 fun w' ok l' s=>SqL.of (l'.h _ _ g1 g2)) p⟩
  ·exact p.elim
def rngD (lo:Int) (n:Nat):LP:=(List.range n).map fun k:Nat=>PyData.int (lo + (k:Int))
theorem J8 (lo:Int) (n:Nat):(rngD lo n).length=n:=by simp [rngD]
theorem A3j {lo:Int} {n i:Nat} {x:PyData} (h:(rngD lo n)[i]?=some x):i < n/\x=.int (lo + (i:Int)):=by
 unfold rngD at h;rw [List.getElem?_map] at h;by_cases hi:i < n
 ·rw [List.getElem?_range hi] at h; cases h; exact ⟨hi,rfl⟩
 ·rw [List.getElem?_eq_none (by simpa using hi)] at h; cases h
theorem A3a {c:Ct} {w1:Wd} {lo:Int} {n:Nat}:Walk c w1 (Itr lo n) (rngD lo n):=by
 intro w' ok l s;refine ⟨fun i hi=>by rw [J8] at hi; exact hi,by rw [J8]; exact Nat.le_refl _,fun i v H' y hi=>?_⟩;obtain ⟨e,y⟩:=y;subst y;rw [J8] at hi;refine ⟨w',.int (lo + i),e.symm,ok,Le.refl w',?_,.int _⟩;unfold rngD;rw [List.getElem?_map,List.getElem?_range hi]; rfl
def B90 (pa:PAr) (env:PEnv) (Q:LP->PEnv->Prop):Prop:=pa env fun xs e=>match xs with
 | [.int j]=>(-(2 ^ 62)<=j/\j < 2 ^ 62)/\Q (rngD 0 j.toNat) e
 | _=>False
def B9z (pa:PAr) (env:PEnv) (Q:LP->PEnv->Prop):Prop:=pa env fun xs e=>match xs with
 | [.int i,.int j]=>(-(2 ^ 62)<=i/\i < 2 ^ 62/\-(2 ^ 62)<=j/\j < 2 ^ 62)/\Q (rngD i (j - i).toNat) e
 | _=>False
instance ri_rng1 {K:Frag} {ta:TA} {pa:PAr} [ha:RAv K ta pa]:RI K (B8a ta) (B90 pa) where
 ok:=by
  rintro c w env σ Qp R rfl E p k;refine ha.ok c w env σ _ _ rfl E p fun vs xs e1 w1 E1 l1 v1 q1=>?_;split at q1
  ·cases v1 with | cons h t=>cases t; exact ⟨_,by rw [h.intE],q1.1.1,q1.1.2,k _ _ e1 w1 E1 l1 A3a q1.2⟩
  ·exact q1.elim
instance ri_rng2 {K:Frag} {ta:TA} {pa:PAr} [ha:RAv K ta pa]:RI K (B79 ta) (B9z pa) where
 ok:=by
  rintro c w env σ Qp R rfl E p k;refine ha.ok c w env σ _ _ rfl E p fun vs xs e1 w1 E1 l1 v1 q1=>?_;split at q1
  ·cases v1 with | cons h t=>cases t with | cons h' t=>cases t; exact ⟨_,_,by rw [h.intE,h'.intE],q1.1,k _ _ e1 w1 E1 l1 A3a q1.2⟩
  ·exact q1.elim
def A31 (xs:LP) (pg:PyData->PEnv->(PEnv->Prop)->Prop) (pb:PSt) (D:PEnds) (env:PEnv):Prop :=
 ∃ Inv:Nat->PEnv->Prop,Inv 0 env/\(∀ i x e,xs[i]?=some x->Inv i e->pg x e fun e2=>pb ⟨Inv (i + 1),D.rt,D.nx,Inv (i + 1)⟩ e2)/\∀ e,Inv xs.length e->D.nx e
def pFor (pi:PAr) (pg:PyData->PEnv->(PEnv->Prop)->Prop) (pb:PSt) (D:PEnds) (env:PEnv):Prop:=pi env fun xs e=>A31 xs pg pb D e
instance rs_for {K:Frag} {wi:TI} {g:TG} {tb:TS} {pi:PAr} {pg:PyData->PEnv->(PEnv->Prop)->Prop} {pb:PSt} [hi:RI K wi pi] [hg:RG K g pg] [hb:RS K tb pb]:RS K (tFor wi g tb) (pFor pi pg pb) where
 ok:=by
  rintro c w env σ Dp D rfl E h p;refine hi.ok c w env σ _ _ rfl E p fun J xs e1 w1 E1 l1 wk ⟨Iv,i0,step,fin⟩=>?_;refine ⟨fun i m σ' H'=>m=xs.length - i/\i<=xs.length/\∃ e w',w'.H=H'/\EnvOk c w' e σ'/\Same w1.F w'.F/\Iv i e,⟨xs.length,rfl,Nat.zero_le _,e1,w1,rfl,E1,Same.refl _,i0⟩,?_⟩;rintro i m σ2 _ ⟨rfl,hle,e2,w2,rfl,E2,s2,i2⟩;obtain ⟨go,stop,yld⟩:=wk w2 E2.wok E2.le0 s2;by_cases hlt:i < xs.length
  ·refine .inr ⟨go i hlt,fun σ' H'=>i + 1<=xs.length/\∃ e w',w'.H=H'/\EnvOk c w' e σ'/\Same w1.F w'.F/\Iv (i + 1) e,fun σ' H' ⟨q0,q⟩=>⟨xs.length - (i + 1),by omega,rfl,q0,q⟩,fun v H' y=>?_⟩;obtain ⟨w2',x,rfl,ok2,le2,hx,dx⟩:=yld i v H' y hlt;replace E2:=E2.mono ok2 le2;replace s2:=s2.trans le2.f;clear yld go stop y le2 ok2;generalize w2'=w2 at E2 s2 dx;refine hg.ok c w2 e2 σ2 v x _ _ rfl E2 dx (step i x e2 hx i2) fun e3 σ3 E3 q3=>?_;refine hb.ok c w2 e3 σ3 ⟨Iv (i + 1),Dp.rt,Dp.nx,Iv (i + 1)⟩ _ rfl E3 ⟨fun e4 σ4 w4 E4 s4 n4=>⟨hlt,e4,w4,rfl,E4,s2.trans s4,n4⟩,h.rt,fun e4 σ4 w4 E4 s4 n4=>h.nx e4 σ4 w4 E4 (l1.f.trans (s2.trans s4)) n4,fun e4 σ4 w4 E4 s4 n4=>⟨hlt,e4,w4,rfl,E4,s2.trans s4,n4⟩⟩ q3
  ·have e:i=xs.length:=by omega
   subst e;exact .inl ⟨stop,h.nx e2 σ2 w2 E2 (l1.f.trans s2) (fin e2 i2)⟩
theorem M9 {lo:Int} {n:Nat} {pg:PyData->PEnv->(PEnv->Prop)->Prop} {pb:PSt} {D:PEnds} {env:PEnv} (Inv:Nat->PEnv->Prop) (h0:Inv 0 env)
  (hs:∀ (i:Nat) e,i < n->Inv i e->pg (.int (lo + (i:Int))) e fun e2=>pb ⟨Inv (i + 1),D.rt,D.nx,Inv (i + 1)⟩ e2) (hd:∀ e,Inv n e->D.nx e):A31 (rngD lo n) pg pb D env :=
 ⟨Inv,h0,fun i x e hx hi=>by obtain ⟨h1,rfl⟩:=A3j hx; exact hs i e h1 hi,fun e h=>hd e (by rwa [J8] at h)⟩
def SV.lent:SV->Option SV
 | .own xs=>some (.bor xs)
 | .tr _=>none
 | .bt _=>none
 | .dk _=>none
 | s=>some s
def L1 (cap:List (Option Nat)) (env:PEnv):PEnv:=cap.map fun o=>o.bind fun j=>(env[j]?).join.bind SV.lent
theorem EnvOk.writeZ {c:Ct} {w:Wd} {env:PEnv} {σ:St} {l:Addr} {us:List V} (E:EnvOk c w env σ) (z:c.Z l) (h4:c.w0.H l=none):EnvOk c ⟨w.M,upd w.H l (.lst us),w.F⟩ env σ:=by
 obtain ⟨h2,h1,h3⟩:=E.zf l z;have ne:∀ b,w.M b->b≠l:=fun b hb z=>h3 (z ▸ hb);refine ⟨⟨fun b o q=>?_,fun p hp=>(E.wok.st p hp).kp (ne p hp) Kp.upd,E.wok.nf⟩,⟨⟨E.le0.f,fun b o q n=>?_,E.le0.m,E.le0.mn,fun b q=>E.le0.dom b (P2 q)⟩,E.le0.n⟩,E.len,fun j s q=>?_,E.own,fun a za=>?_,E.zo⟩
 ·show upd w.H l (.lst us) b=some o;rw [D8 (fun z=>by rw [z,h2] at q; cases q)]; exact E.wok.sub b o q
 ·show upd w.H l (.lst us) b=some o;rw [D8 (fun z=>by rw [z,h4] at q; cases q)]; exact E.le0.h b o q n
 ·obtain ⟨v,g1,g2⟩:=E.at' j s q;exact ⟨v,g1,g2.writ h1 (E.zo l j s v z q g1)⟩
 ·obtain ⟨z1,z2,z3⟩:=E.zf a za;exact ⟨z1,fun q=>z2 (P2 q),z3⟩
theorem EnvOk.cap {c:Ct} {w:Wd} {env:PEnv} {σ:St} {D:Addr} (cap:List (Option Nat)) (E:EnvOk c w env σ) (hD:w.H D=none):EnvOk ⟨c.K,w,fun a=>a=D⟩ (w.lay D (.lst [])) (L1 cap env) (capσ cap σ):=by
 have nown:∀ (i:Nat) s v a,(L1 cap env)[i]?=some (some s)->¬ s.foot v a:=fun i s0 v a q f=>by
  unfold L1 at q;rw [List.getElem?_map] at q;cases hc:cap[i]? with
  | none=>rw [hc] at q; cases q
  | some o =>
   rw [hc] at q;cases o with
   | none=>cases q
   | some j =>
    have q':((env[j]?).join.bind SV.lent)=some s0:=Option.some.inj q;cases hj:(env[j]?).join with
    | none=>rw [hj] at q'; cases q'
    | some s=>rw [hj] at q'; cases s <;> cases q' <;> exact f
 refine ⟨Wd.lay_ok E.wok hD,Wd.lay_le hD,by simp [L1,capσ],fun i s q=>?_,fun i j s t v u a q _ _ _ f=>absurd f (nown i s v a q),fun a za=>?_,fun a j t u _ q _=>nown j t u a q⟩
 ·unfold L1 at q;unfold capσ;rw [List.getElem?_map] at q ⊢;cases hc:cap[i]? with
  | none=>rw [hc] at q; cases q
  | some o =>
   rw [hc] at q;cases o with
   | none=>cases q
   | some j =>
    have q':((env[j]?).join.bind SV.lent)=some s:=Option.some.inj q;cases hj:env[j]? with
    | none=>rw [hj] at q'; cases q'
    | some t =>
     rw [hj] at q';cases t with
     | none=>cases q'
     | some s0 =>
      have q2:s0.lent=some s:=q';obtain ⟨v,h1,h2⟩:=E.at' j s0 hj;refine ⟨v,by simp [h1],?_⟩;cases s0 with
      | d x=>cases q2; exact h2
      | own xs=>cases q2; obtain ⟨l,vs,e,g1,g2,g3,g4,g5⟩:=h2; exact .inr ⟨l,vs,e,g1,g3,g5⟩
      | bor xs =>
       cases q2;rcases h2.vv E.le0 with g | ⟨l,vs,ys,e,e',g1,g2,g3⟩
       ·exact .inl g
       ·cases e'; exact .inr ⟨l,vs,e,g1,g2,g3⟩
      | st=>cases q2; exact h2
      | tr t=>cases q2
      | bt t=>cases q2
      | al t=>cases q2; exact h2
      | dk t=>cases q2
 ·have e:a=D:=za;subst e;exact ⟨E.wok.fnone hD,by show upd w.H a (.lst []) a≠none; rw [D7]; simp,fun z=>E.wok.mne hD z rfl⟩
theorem Walk.up {c:Ct} {w:Wd} {J:It} {xs:LP} (h:Walk c w J xs) (l:Le c.w0 w):Walk ⟨c.K,w,c.Z⟩ w J xs:=fun w' ok l' s=>h w' ok (l.trans l') s
def M8 (xs:LP) (pg:PyData->PEnv->(PEnv->Prop)->Prop) (pt:PTt) (pd:PDt) (e0:PEnv) (Fin:LP->Prop):Prop :=
 ∃ Pv:Nat->PEnv->LP->Prop,Pv 0 e0 []/\(∀ i x e ys,xs[i]?=some x->Pv i e ys->pg x e fun e2=>pt e2 fun b e3=>if b=true then pd e3 fun y e4=>Pv (i + 1) e4 (ys++[y]) else Pv (i + 1) e3 ys)/\∀ e ys,Pv xs.length e ys->Fin ys
theorem B03 {K:Frag} {g:TG} {tt:TT} {te:TE} {pg:PyData->PEnv->(PEnv->Prop)->Prop} {pt:PTt} {pd:PDt} [hg:RG K g pg] [ht:RT K tt pt] [he:RD K te pd] {c:Ct} {w:Wd} {env:PEnv} {σ:St} {J:It} {xs:LP} {cap:List (Option Nat)} {D:Addr} {Fp:LP->Prop} {Fin:Hpp->Prop}
  (hK:c.K=K) (E:EnvOk c w env σ) (wk:Walk ⟨c.K,w,c.Z⟩ w J xs) (hn:xs.length < 1000000) (p:M8 xs pg pt pd (L1 cap env) Fp) (hD:w.H D=none) (k:∀ w' ys,Res c w env σ w' (.ref D) (.own ys)->Fp ys->Fin w'.H):A45 J g tt te D Fin (capσ cap σ) w.H:=by
 subst hK;obtain ⟨Pv,p0,step,fin⟩:=p;have hw0:c.w0.H D=none:=E.le0.dom D hD;refine ⟨fun i m σ' H' vs=>m=xs.length - i/\i<=xs.length/\∃ e w' ys,w'.H=H'/\EnvOk ⟨c.K,w,fun a=>a=D⟩ w' e σ'/\w'.H D=some (.lst vs)/\vs.length<=i/\DenAll c.K w'.F vs ys/\Pv i e ys,
  ⟨xs.length,rfl,Nat.zero_le _,L1 cap env,w.lay D (.lst []),[],rfl,E.cap cap hD,D7,Nat.le_refl _,.nil,p0⟩,?_⟩
 rintro i m σ1 _ vs ⟨rfl,hle,e1,w1,ys,rfl,E1,h1,hvl,d1,q1⟩;refine ⟨h1,A3h (by omega),?_⟩;obtain ⟨go,stop,yld⟩:=wk w1 E1.wok E1.le0 E1.le0.f;by_cases hlt:i < xs.length
 ·refine .inr ⟨go i hlt,fun v H' y=>?_⟩;obtain ⟨w1',x,rfl,ok1',le1,hx,dx⟩:=yld i v H' y hlt;replace h1:=le1.h _ _ h1 (E1.zf D rfl).2.2;replace E1:=E1.mono ok1' le1;replace d1:=DenAll.same le1.f d1;clear yld go stop y le1 ok1';generalize w1'=w1 at E1 h1 d1 dx;refine hg.ok ⟨c.K,w,fun a=>a=D⟩ w1 e1 σ1 v x _ _ rfl E1 dx (step i x e1 ys hx q1) fun e2 σ2 E2 q2=>?_;refine ht.ok ⟨c.K,w,fun a=>a=D⟩ w1 e2 σ2 _ _ rfl E2 q2 fun b e3 w3 E3 l3 q3=>?_;have nm:=(E2.zf D rfl).2.2;have h3:=l3.h _ _ h1 nm;cases b with
  | true =>
   refine he.ok ⟨c.K,w,fun a=>a=D⟩ w3 e3 σ2 _ _ rfl E3 q3 fun y' y e4 w4 E4 l4 d4 q4=>?_;have h4:=l4.h _ _ h3 (E3.zf D rfl).2.2;refine ⟨vs,h4,A3h (by omega),xs.length - (i + 1),by omega,rfl,hlt,e4,⟨w4.M,upd w4.H D (.lst (vs++[y'])),w4.F⟩,ys++[y],rfl,E4.writeZ rfl hD,D7,by rw [List.length_append]; simp; exact hvl,(DenAll.same (l3.f.trans l4.f) d1).app (.cons d4 .nil),q4⟩
  | false =>
   exact ⟨xs.length - (i + 1),by omega,rfl,hlt,e3,w3,ys,rfl,E3,h3,by omega,DenAll.same l3.f d1,q3⟩
 ·have e:i=xs.length:=by omega
  subst e;obtain ⟨z1,z2,z3⟩:=E1.zf D rfl;refine .inl ⟨stop,k w1 ys ⟨E.mono E1.wok E1.le0,E1.le0.toLw,⟨D,vs,rfl,h1,z1,z3,hw0,d1⟩,fun a f=>?_,rfl⟩ (fin e1 ys q1)⟩;have:V.ref D=.ref a:=f;cases this;exact E.fresh hD
def C0i (pi:PAr) (pg:PyData->PEnv->(PEnv->Prop)->Prop) (pt:PTt) (pd:PDt) (cap:List (Option Nat)) (env:PEnv) (Q:SV->PEnv->Prop):Prop:=pi env fun xs e=>xs.length < 1000000/\M8 xs pg pt pd (L1 cap e) fun ys=>Q (.own ys) e
instance re_comp {K:Frag} {wi:TI} {g:TG} {tt:TT} {te:TE} {cap:List (Option Nat)} {pi:PAr} {pg:PyData->PEnv->(PEnv->Prop)->Prop} {pt:PTt} {pd:PDt} [hi:RI K wi pi] [hg:RG K g pg] [ht:RT K tt pt] [he:RD K te pd]:RE K (B58 wi g tt te cap) (C0i pi pg pt pd cap) where
 ok:=by
  rintro c w env σ Qp Q rfl E p k;refine hi.ok c w env σ _ _ rfl E p fun J xs e1 w1 E1 l1 wk ⟨hn,q⟩ D hD=>?_;exact B03 (pg:=pg) (pt:=pt) (pd:=pd) rfl E1 (wk.up E1.le0) hn q hD fun w' ys R q'=>k _ _ e1 w' (R.pre l1) q'
def A3u (pi:PAr) (pg:PyData->PEnv->(PEnv->Prop)->Prop) (pt:PTt) (pd:PDt) (cap:List (Option Nat)) (i:Nat) (D:PEnds) (env:PEnv):Prop:=pi env fun xs e=>xs.length < 1000000/\M8 xs pg pt pd (L1 cap e) fun ys=>D.nx (e.set i (some (.own ys)))
instance rs_setComp {K:Frag} {wi:TI} {g:TG} {tt:TT} {te:TE} {cap:List (Option Nat)} {i:Nat} {pi:PAr} {pg:PyData->PEnv->(PEnv->Prop)->Prop} {pt:PTt} {pd:PDt} [hi:RI K wi pi] [hg:RG K g pg] [ht:RT K tt pt] [he:RD K te pd]:RS K (Y6 wi g tt te cap i) (A3u pi pg pt pd cap i) where
 ok:=by
  rintro c w env σ Dp D rfl E h p;refine hi.ok c w env σ _ _ rfl E p fun J xs e1 w1 E1 l1 wk ⟨hn,q⟩ l hl=>?_;exact B03 (pg:=pg) (pt:=pt) (pd:=pd) rfl E1 (wk.up E1.le0) hn q hl fun w' ys R q'=>h.nx _ _ w' (R.ev.set R.val R.new) (l1.f.trans R.lw.f) q'
class RP (K:Frag) (to:TO) (po:outParam (PEnv->(Option Int->PEnv->Prop)->Prop)):Prop where
 ok:∀ (c:Ct) (w:Wd) (env:PEnv) (σ:St) (Qp:Option Int->PEnv->Prop) (Q:Option Int->Hpp->Prop),c.K=K->EnvOk c w env σ->po env Qp->(∀ o env' w',EnvOk c w' env' σ->Lw w w'->Qp o env'->Q o w'.H)->to σ w.H Q
def A2k (env:PEnv) (Q:Option Int->PEnv->Prop):Prop:=Q none env
def asI (x:PyData) (k:Int->Prop):Prop:=match x with
 | .int i=>k i
 | _=>False
def B7g (pa:PDt) (env:PEnv) (Q:Option Int->PEnv->Prop):Prop:=pa env fun x e=>asI x fun i=>Q (some i) e
instance rp_no {K:Frag}:RP K A18 A2k:=⟨fun c w env σ Qp Q _ E p k=>k none env w E (Lw.refl w) p⟩
instance rp_part {K:Frag} {te:TE} {pa:PDt} [ha:RW K te pa]:RP K (B53 te) (B7g pa) where
 ok:=by
  rintro c w env σ Qp Q rfl E p k;refine ha.ok c w env σ _ _ rfl E p fun x dx e1 w1 E1 l1 v1 q1=>?_;unfold asI at q1;split at q1
  ·exact ⟨_,v1.intE,k _ e1 w1 E1 l1 q1⟩
  ·exact q1.elim
def cutD (xs:LP) (lo hi:Option Int):LP:=(xs.drop (HT.sIx xs.length 0 lo)).take (HT.sIx xs.length xs.length hi - HT.sIx xs.length 0 lo)
def pSlL (pa:PDt) (pl ph:PEnv->(Option Int->PEnv->Prop)->Prop) (env:PEnv) (Q:SV->PEnv->Prop):Prop:=pa env fun x e=>asL x fun xs=>pl e fun lo e1=>ph e1 fun hi e2=>Q (.own (cutD xs lo hi)) e2
instance re_sl {K:Frag} {te:TE} {tl th:TO} {pa:PDt} {pl ph:PEnv->(Option Int->PEnv->Prop)->Prop} [ha:RW K te pa] [hl:RP K tl pl] [hh:RP K th ph]:RE K (tSl (rSlL K) te tl th) (pSlL pa pl ph) where
 ok:=by
  rintro c w env σ Qp Q rfl E p k;refine ha.ok c w env σ _ _ rfl E p fun x dx e1 w1 E1 l1 v1 q1=>?_;unfold asL at q1;split at q1
  ·rename_i xs;refine hl.ok c w1 e1 σ _ _ rfl E1 q1 fun lo e2 w2 E2 l2 q2=>?_;refine hh.ok c w2 e2 σ _ _ rfl E2 q2 fun hi e3 w3 E3 l3 q3=>?_;obtain ⟨a,vs,e,g1,g2⟩:=((v1.mono l2).mono l3).lst E3.wok;refine ⟨a,vs,e,g1,fun p hp=>k _ _ e3 _ ((Res.lst E3 hp (xs:=cutD xs lo hi) ?_).pre (l1.trans (l2.trans l3))) q3⟩;unfold cutV cutD;rw [g2.len];exact (g2.drop _).take _
  ·exact q1.elim
def pRev (pa pb:PDt) (env:PEnv) (Q:SV->PEnv->Prop):Prop:=pa env fun x e=>asL x fun xs=>pb e fun k e2=>k=.int (-1)/\Q (.own xs.reverse) e2
theorem N5 {K:Frag} {w:Wd}:∀ {md:List Md} {vs:List V} {as:List SV},Args K w md vs as->as.length=vs.length/\∀ (i:Nat) s,as[i]?=some s->(∃ v,vs[i]?=some v/\VR ⟨K,w,noZ⟩ w v s)/\∀ u a,¬ s.foot u a
 | _,_,_,.nil=>⟨rfl,fun i s h=>by simp at h⟩
 | _,_,_,.dat h t=>⟨by simp [(N5 t).1],fun i s e=>match i,e with
  | 0,e=>by simp at e; subst e; exact ⟨⟨_,rfl,h⟩,fun _ _ z=>z⟩
  | i + 1,e=>by simpa using (N5 t).2 i s (by simpa using e)⟩
 | _,_,_,.vw h t=>⟨by simp [(N5 t).1],fun i s e=>match i,e with
  | 0,e=>by
   simp at e; subst e;refine ⟨⟨_,rfl,?_⟩,fun _ _ z=>z⟩;rcases h with h | ⟨l,vs,ys,e1,e2,h1,h2,h3⟩
   ·exact .inl h
   ·cases e2; exact .inr ⟨l,vs,e1,h1,h2,h3⟩
  | i + 1,e=>by simpa using (N5 t).2 i s (by simpa using e)⟩
 | _,_,_,.bt h t=>⟨by simp [(N5 t).1],fun i s e=>match i,e with
  | 0,e=>by simp at e; subst e; exact ⟨⟨_,rfl,h⟩,fun _ _ z=>z⟩
  | i + 1,e=>by simpa using (N5 t).2 i s (by simpa using e)⟩
 | _,_,_,.st h t=>⟨by simp [(N5 t).1],fun i s e=>match i,e with
  | 0,e=>by simp at e; subst e; exact ⟨⟨_,rfl,h⟩,fun _ _ z=>z⟩
  | i + 1,e=>by simpa using (N5 t).2 i s (by simpa using e)⟩
theorem G3 {K:Frag} {ts:TS} {ps:PSt} [hs:RS K ts ps] {md:List Md} {psp:PSp} {vs:List V} {H:Hpp} {Q:VK} {E:XK} {N:List Str} (h:spOf K md psp vs H Q E)
  (hb:∀ as Qp,psp as Qp->ps ⟨fun _=>Qp (.d .none),fun s _=>Qp s,fun _=>False,fun _=>False⟩ (as.map some++List.replicate (N.length - md.length) none)):ts { nx:=fun _ H'=>Q .non H',rt:=Q } (L2.start N vs) H:=by
 obtain ⟨w,as,Qp,rfl,ok,a,p,k⟩:=h;obtain ⟨hl,hat⟩:=N5 a;have look:∀ (i:Nat) s,(as.map some++List.replicate (N.length - md.length) none)[i]?=some (some s)->as[i]?=some s:=fun i s e=>by
  rw [List.getElem?_append] at e;split at e
  ·rw [List.getElem?_map] at e;cases q:as[i]? with
   | none=>rw [q] at e; cases e
   | some t=>rw [q] at e; cases e; rfl
  ·rw [List.getElem?_replicate] at e;split at e <;> cases e
 refine hs.ok ⟨K,w,noZ⟩ w (as.map some++List.replicate (N.length - md.length) none) (L2.start N vs) _ _ rfl ⟨ok,Le.refl w,by simp [L2.start,hl,a.len],fun i s e=>?_,fun i j s t v u a e _ _ _ f=>absurd f ((hat i _ (look i _ e)).2 v a),fun a z=>z.elim,fun a j t u z=>z.elim⟩ ⟨fun env σ w' E' _ q=>?_,fun v s _ _ w' E' h r q=>k v s w' E'.wok E'.le0 h r q,fun _ _ _ _ _ z=>z,fun _ _ _ _ _ z=>z⟩ (hb as Qp p)
 ·obtain ⟨⟨v,h1,h2⟩,_⟩:=hat i s (look i s e);refine ⟨v,?_,h2⟩;unfold L2.start;rw [List.getElem?_append_left (by rw [List.length_map]; exact (List.getElem?_eq_some_iff.mp h1).1),List.getElem?_map,h1]; rfl
 ·exact k .non (.d .none) w' E'.wok E'.le0 (show Den _ _ _ _ from .non) rfl q
def pLaw:PSp:=fun as Q=>∃ ns:List Int,as=[.bor (ns.map .int)]/\ns.length<=63/\Q (.d (.bool true))
theorem B00 {K:Frag} {F:Hpp}:∀ ns:List Int,DenAll K F (ns.map V.int) (ns.map .int)
 | []=>.nil
 | n :: r=>.cons (.int n) (B00 r)
theorem C1g {K:Frag}:∀ vs H Q E,B6c K vs H Q E->spOf K [.vw] pLaw vs H Q E:=by
 rintro vs H Q E ⟨a,ns,rfl,hS,hl,k⟩;refine ⟨⟨fun _=>False,H,fun b=>if b=a then H a else none⟩,[.bor (ns.map .int)],fun s=>s=.d (.bool true),rfl,⟨fun b o e=>?_,fun _ z=>z.elim,fun _ z=>z.elim⟩,.vw (.inl (.lst ?_ (B00 ns))) .nil,⟨ns,rfl,hl,rfl⟩,fun v s w' ok l h r e=>?_⟩
 ·dsimp only at e;split at e
  ·rename_i z; rw [z]; exact e
  ·cases e
 ·rcases hS with (h | ⟨o,h⟩) | h
  ·exact .inl (.inl (by dsimp only; rw [if_pos rfl]; exact h))
  ·exact .inl (.inr ⟨o,by dsimp only; rw [if_pos rfl]; exact h⟩)
  ·exact .inr h
 ·subst e;have:v=.bl true:=Den.blE h;subst this;exact k _
end Pu
namespace L2
open PySem PySem.Spec PyProof.Rows
end L2
namespace Pu
open PySem L2 My Prf
theorem A7z {q:Rat} {Q:SV->Prop}:pIx (dq q) (.int 0) Q=Q (.d (.int q.num)):=rfl
theorem A7y {q:Rat} {Q:SV->Prop}:pIx (dq q) (.int 1) Q=Q (.d (.int (q.den:Int))):=rfl
theorem A9m {i:Int}:(PyData.int i).canLay0=true:=rfl
theorem A4g {b:Bool}:(PyData.bool b).canLay0=true:=rfl
theorem A4f:PyData.none.canLay0=true:=rfl
theorem B0y {i:Int}:(PyData.int i).depth=0:=rfl
theorem A42 {b:Bool}:(PyData.bool b).depth=0:=rfl
theorem B0w {s:Str}:(PyData.str s).depth=0:=rfl
theorem A40:PyData.none.depth=0:=rfl
theorem B46 {q:Rat}:(dq q).canLay0=true:=rfl
theorem B5t {q:Rat}:(dq q).depth=1:=rfl
theorem S1 {i j:Int}:PyData.eqv (.int i) (.int j)=decide (i=j):=by
 show (i == j)=_;by_cases h:i=j <;> simp [h]
theorem B6j {p q:Rat} (h1:p.num=q.num) (h2:(p.den:Int)=q.den):p=q:=Rat.ext h1 (by omega)
theorem B5q {p q:Rat}:PyData.eqv (dq p) (dq q)=decide (p=q):=by
 show (PyData.eqv (.int p.num) (.int q.num) && (PyData.eqv (.int (p.den:Int)) (.int (q.den:Int)) && true))=_;rw [S1,S1,Bool.and_true];by_cases h:p=q
 ·subst h; simp
 ·rw [decide_eq_false h];by_cases h1:p.num=q.num
  ·have h2:¬ (p.den:Int)=(q.den:Int):=fun z=>h (B6j h1 z);rw [decide_eq_false h2,Bool.and_false]
  ·rw [decide_eq_false h1,Bool.false_and]
theorem A1m {q:Rat}:PyData.eqv .none (dq q)=false:=rfl
theorem A1l {q:Rat}:PyData.eqv (dq q) .none=false:=rfl
theorem B0j {q:Rat}:isNo (dq q)=false:=rfl
theorem A50:PyData.tuple [.int 0,.int 1]=dq 0:=rfl
theorem B4s:PyData.tuple [.int 1,.int 1]=dq 1:=rfl
theorem B3d {q:Rat}:tyD (dq q)="tuple":=rfl
theorem B5k:kitB "bool" "bool"=some true:=by decide +kernel
theorem B5g:kitB "int" "int"=some true:=by decide +kernel
theorem B5j:kitB "bool" "int"=some true:=by decide +kernel
theorem B5a:kitB "str" "str"=some true:=by decide +kernel
theorem B5e:kitB "list" "list"=some true:=by decide +kernel
theorem B5d:kitB "list" "tuple"=some false:=by decide +kernel
theorem B48:kitB "tuple" "list"=some false:=by decide +kernel
theorem B49:kitB "tuple" "bool"=some false:=by decide +kernel
theorem B5b:kitB "NoneType" "tuple"=some false:=by decide +kernel
theorem B0l {K:Frag} {F:Hpp}:∀ {vs:List V} {ns:List Int},DenAll K F vs (ns.map .int)->vs=ns.map V.int
 | _,[],.nil=>rfl
 | _,n :: r,.cons h t=>by rw [h.intE,B0l t]; rfl
def A61:PSp:=fun as Q=>∃ n:Int,as=[.st,.d (.int n)]/\0 < n/\Sm 4000 n/\∀ d:Int,0<=d->d < n->Q (.d (.int d))
theorem B5z {K:Frag}:∀ vs H Q E,spOf K [.st,.dat] A61 vs H Q E->A6k vs H Q E:=by
 rintro vs H Q E ⟨w,as,Qp,rfl,ok,a,⟨n,rfl,n0,sn,q⟩,k⟩;cases a with
 | st h t=>cases t with
  | dat h' t =>
   cases t;obtain ⟨p,e,hm⟩:=h;subst e;rw [Den.intE h'];refine ⟨p,n,rfl,ok.st p hm,n0,sn,fun d H' d0 d1 S' kp=>?_⟩;have out:∀ b o,w.H b=some o->b≠p->H' b=some o:=fun b o e ne=>kp b o ne e;have pn:=ok.nf p hm;refine k (.int d) (.d (.int d)) ⟨w.M,H',w.F⟩ ⟨fun b o e=>out b o (ok.sub b o e) (fun z=>by rw [z,pn] at e; cases e),fun r hr=>?_,ok.nf⟩ ⟨⟨Same.refl _,fun b o e nb=>out b o e (fun z=>nb (z ▸ hm)),fun _ z=>z,fun _ z=>.inl z,fun b e=>?_⟩,fun _ _ z=>.inl z⟩ (Den.int d) rfl (q d d0 d1)
   ·by_cases z:r=p
    ·subst z; exact S'
    ·exact (ok.st r hr).kp z kp
   ·cases hb:w.H b with
    | none=>rfl
    | some o =>
     by_cases z:b=p
     ·subst z; obtain ⟨_,_,_,hp,_⟩:=S'.ex; rw [show H' b=none from e] at hp; cases hp
     ·have:=out b o hb z; rw [show H' b=none from e] at this; cases this
def B9g:PSp:=fun as Q=>∃ a b:Int,as=[.d (.int a),.d (.int b)]/\Q (.d (.int ((Int.gcd a b:Nat):Int)))
def B6u:PSp:=fun as Q=>∃ t b:Int,as=[.d (.int t),.d (.int b)]/\0 < b/\Sm 8000 t/\Sm 8000 b/\Q (.d (dq (Rat.divInt t b)))
def X1 (f:Rat->Rat->Rat):PSp:=fun as Q=>∃ p q:Rat,as=[.d (dq p),.d (dq q)]/\SmQ 3900 p/\SmQ 3900 q/\Q (.d (dq (f p q)))
def A63:PSp:=fun as Q=>∃ p q:Rat,as=[.d (dq p),.d (dq q)]/\SmQ 3900 p/\SmQ 3900 q/\Q (.d (.bool (decide (p < q))))
def A64:PSp:=fun as Q=>∃ (pl:Bool) (le:Int),as=[.st,.d (.bool pl),.d (.int le)]/\(le=0\/le=1)/\∀ q:Rat,0<=q->(le=1->0 < q)->SmR 41 6 q->(pl=true->SmR 3 1 q/\q.den=1)->Q (.d (dq q))
end Pu
namespace L2
open PySem PySem.Spec PyProof.Rows
section
variable {X:Cx} {tg:Expr}
def B87 (K:PySem.W.Frag):R2:=fun x y H Q=>∃ l b xs zs,x=.ref l/\y=.ref b/\SqL K H l xs/\SqL K H b zs/\xs.length + zs.length<=sizeLine/\∀ p,H p=none->Q (.ref p) (upd H p (.lst (xs++zs)))
theorem U8 {K:PySem.W.Frag} (hK:X.K=K):OpR X (binaryOp .Add) (B87 K):=by
 subst hK;intro pins s σ H x y v u Q I rx ry h;obtain ⟨l,b,xs,zs,rfl,rfl,hH,hB,hz,q⟩:=h;cases rx;cases ry;obtain ⟨its,r,hl,z⟩:=I.list hH;obtain ⟨its2,r2,hl2,z2⟩:=I.list hB;have n1:=r.length;have n2:=r2.length;obtain ⟨⟨k1,dd,da,sl⟩,m1,ho,e1,e2,e3⟩:=hl;obtain ⟨⟨k2,dd2,da2,sl2⟩,m2,ho2,e4,e5,e6⟩:=hl2;dsimp only at e1 e2 e3 e4 e5 e6;subst e1 e2 e3 e4 e5 e6;refine concat_meets ⟨_,ho,rfl⟩ ⟨_,ho2,rfl⟩ noFill_list_add seq_list_add F.slot_list_add F.entry_list_add (F.args_list_add_2 _ _) (list_addW l b its.toArray its2.toArray m1 m2 none none sl sl2 (by rw [List.size_toArray,List.size_toArray]; omega)) ⟨ho,ho2,?_⟩;rw [show its.toArray++its2.toArray=(its++its2).toArray by simp];exact ⟨.ref _,_,I.lnew (t':=s.toks) (r.append r2) (by rw [List.length_append]; omega),rfl,q _ I.fresh⟩
def rAny (K:PySem.W.Frag):List V->Hp->VK->Prop:=fun xs H Q=>∃ (p:Addr) (bs:List Bool),xs=[.ref p]/\SqL K H p (bs.map V.bl)/\Q (.bl (bs.any id)) H
theorem B8h {bs:List Bool}:∀ {us:List Value},Vals (bs.map V.bl) us->us=bs.map Value.bool:=by
 induction bs with
 | nil=>intro us h; cases h; rfl
 | cons b r ih =>
  intro us h;cases h with
  | cons h t=>rw [ih t,show _=Value.bool b from h]; rfl
theorem A6q (bs:List Bool):(List.range bs.length).any (fun i=>bs.getD i false)=bs.any id:=by
 rw [Bool.eq_iff_iff,List.any_eq_true,List.any_eq_true];constructor
 ·rintro ⟨i,hi,h⟩;have hi:=List.mem_range.mp hi;rw [List.getD_eq_getElem?_getD,List.getElem?_eq_getElem hi] at h;exact ⟨_,List.getElem_mem hi,h⟩
 ·rintro ⟨b,hb,h⟩;obtain ⟨i,hi,e⟩:=List.mem_iff_getElem.mp hb;refine ⟨i,List.mem_range.mpr hi,?_⟩;rw [List.getD_eq_getElem?_getD,List.getElem?_eq_getElem hi,e]; exact h
theorem B5x {pins:List (Addr × Obj)} {σ:St} {H:Hp} {s:Shared} {p:Addr} {bs:List Bool} (hc:X.calm=true) (I:Inv X pins σ H s) (hS:SqL X.K H p (bs.map V.bl)) {A:Around} (hA:A.handled=none) {Qf:Bool->Value->Shared->Prop} {E:Value->Shared->Prop} {g:(Nat->Bool)->Nat->Bool}
  (hQ:∀ h' tk,Inv X pins σ H { s with heap:=h',toks:=tk }->Qf (g (fun i=>bs.getD i false) bs.length) (.bool (g (fun i=>bs.getD i false) bs.length)) { s with heap:=h',toks:=tk }) :
  wpAny (model X.prog X.w) A (pyIter (.ref p)) (fun it s₂=>∃ J fp wr n P St tr,it=.ref J/\Walks X.prog X.w A J fp wr n P St/\St 0 s₂.heap/\TruthOf X.prog X.w A P tr /\
   ∀ h' tk,(∀ b o,b ∉ wr->s₂.heap.get? b=some o->h'.get? b=some o)->Qf (g tr n) (.bool (g tr n)) { s₂ with heap:=h',toks:=tk }) E s:=by
 obtain ⟨its,r,hl,z⟩:=I.list hS;have e:=B8h r;refine wpAny_pyIter_list hl.isList ?_;have hne:p≠s.heap.objs.size:=by
  obtain ⟨o,_,ho,_⟩:=hl;exact Nat.ne_of_lt (Heap.lt_size ho)
 have W:=Walks.list (prog:=X.prog) (w:=X.w) (A:=A) hA s.heap.objs.size p hne its.toArray;have hn:its.toArray.size=bs.length:=by rw [List.size_toArray,e,List.length_map]
 rw [hn] at W;refine ⟨s.heap.objs.size,_,_,_,_,_,fun i=>bs.getD i false,rfl,W,⟨⟨_,Heap.get?_push_size _ rfl,rfl,rfl⟩,hl.isList.push _⟩,fun i v s' Q' E' hP q=>?_,fun h' tk hk=>hQ h' tk ?_⟩
 ·dsimp only at hP;rw [List.getElem?_toArray,e,List.getElem?_map] at hP;cases hb:bs[i]? with
  | none=>rw [hb] at hP; cases hP
  | some b =>
   rw [hb] at hP; cases hP;refine wpAny_truthy_bool ?_;dsimp only at q;rw [List.getD_eq_getElem?_getD,hb] at q;exact q
 ·have I1:Inv X pins σ H { s with heap:=s.heap.push { cls:=.type "list_iterator",data:=.fields #[.ref p,.int 0 0] } }:=I.kept (t':=s.toks) fun b o e=>Heap.get?_push_of_some _ e;have f:=I.fpOk (H':=H) (Nat.le_refl s.heap.objs.size) I.fresh;exact I1.turned (t':=tk) (fun b o hb e=>hk b o (fun z=>hb (List.mem_singleton.mp z)) e) f.1 f.2.1 f.2.2.2.1 f.2.2.2.2.1 f.2.2.2.2.2
theorem B07 {K:PySem.W.Frag} (hK:X.K=K) (hc:X.calm=true:=by rfl):CallR X (.builtin "any") (rAny K):=by
 subst hK;intro pins s σ H xs us Q I r h;obtain ⟨p,bs,rfl,hS,q⟩:=h;cases r with
 | cons r rr =>
  cases rr;cases r;refine call_any_walk (B5x hc I hS (A:=X.A.in1) (I.ok.hd hc) (g:=fun tr n=>(List.range n).any tr) (Qf:=fun _=>EP X pins σ Q) fun h' tk I'=>⟨.bl _,H,I',rfl,?_⟩);rw [A6q]; exact q
end
end L2
namespace L2
open PySem PySem.Spec PyProof.Rows
section
variable {X:Cx}
def A0f (T:String):List String->Option Bool
 | []=>some false
 | c :: r=>match kitB T c with
  | some true=>some true
  | some false=>A0f T r
  | none=>none
end
end L2
namespace Pu
open PySem L2 My Prf
def dwnD (lo:Int) (n:Nat):LP:=(List.range n).map fun k:Nat=>PyData.int (lo - (k:Int))
def C25 (pa:PAr) (env:PEnv) (Q:LP->PEnv->Prop):Prop:=pa env fun xs e=>match xs with
 | [.int i,.int j,.int k]=>k=-1/\((-(2 ^ 61)<=i/\i < 2 ^ 61)/\-(2 ^ 61)<=j/\j < 2 ^ 61)/\Q (dwnD i (i - j).toNat) e
 | _=>False
def pCat (x y:PyData) (Q:SV->Prop):Prop:=match x,y with
 | .list xs,.list ys=>xs.length + ys.length<=1000000/\Q (.own (xs++ys))
 | _,_=>False
instance ro_cat {K:Frag}:RO K (B87 K) pCat where
 ok:=by
  rintro c w env σ x y dx dy Qp Q rfl E vx vy p k;unfold pCat at p;split at p
  ·obtain ⟨a,vs,e,h1,h2⟩:=vx.lst E.wok;obtain ⟨b,us,e',g1,g2⟩:=vy.lst E.wok;exact ⟨a,b,vs,us,e,e',h1,g1,by rw [h2.len,g2.len]; exact Nat.le_trans p.1 (by decide),fun q hq=>k _ _ _ (Res.lst E hq (h2.app g2)) p.2⟩
  ·exact p.elim
def blsD:LP->Option (List Bool)
 | []=>some []
 | .bool b :: r=>(blsD r).map (b :: ·)
 | _=>none
theorem A47 {K:Frag} {F:Hpp}:∀ {vs:List V} {xs:LP} {bs:List Bool},DenAll K F vs xs->blsD xs=some bs->vs=bs.map V.bl
 | _,_,bs,.nil,h=>by cases h; rfl
 | _,_,bs,.cons (x:=x) (xs:=vs) (d:=d) (ds:=ds) h t,e=>by
  cases d with
  | bool b =>
   have e':(blsD ds).map (b :: ·)=some bs:=e;cases q:blsD ds with
   | none=>rw [q] at e'; cases e'
   | some r =>
    rw [q] at e'; cases e';rw [h.blE,A47 t q]; rfl
  | _=>cases e
def pAll (xs:LP) (Q:SV->Prop):Prop:=match xs with
 | [.list ys]=>∃ bs,blsD ys=some bs/\Q (.d (.bool (bs.all id)))
 | _=>False
def pAny (xs:LP) (Q:SV->Prop):Prop:=match xs with
 | [.list ys]=>∃ bs,blsD ys=some bs/\Q (.d (.bool (bs.any id)))
 | _=>False
instance rb_any {K:Frag}:RB K (rAny K) pAny where
 ok:=by
  rintro c w env σ vs xs Qp Q rfl E vv p k;unfold pAny at p;split at p
  ·obtain ⟨bs,e,q⟩:=p;cases vv with | cons h t=>cases t; obtain ⟨a,us,e',h1,h2⟩:=h.lst E.wok; exact ⟨a,bs,by rw [e'],by rw [<- A47 h2 e]; exact h1,k _ _ w (Res.data E (.bl _)) q⟩
  ·exact p.elim
def C26 (cs:List String) (pa:PDt) (env:PEnv) (Q:SV->PEnv->Prop):Prop:=pa env fun x e=>cs.length<=1000/\match A0f (tyD x) cs with
 | some b=>Q (.d (.bool b)) e
 | none=>False
theorem A4m:A0f "bool" ["list","tuple"]=some false:=by decide +kernel
theorem A4j:A0f "NoneType" ["list","tuple"]=some false:=by decide +kernel
theorem A4l:A0f "int" ["list","tuple"]=some false:=by decide +kernel
theorem A4i:A0f "str" ["list","tuple"]=some false:=by decide +kernel
theorem A4k:A0f "list" ["list","tuple"]=some true:=by decide +kernel
theorem A4h:A0f "tuple" ["list","tuple"]=some true:=by decide +kernel
end Pu
namespace Pu
open PySem L2 My Prf
theorem B7q {x:PyData} {xs:LP} {Q:SV->Prop}:pGet (x :: xs) 0 Q=Q (.d x):=by unfold pGet; rw [at0]
theorem B7p {x y:PyData} {xs:LP} {Q:SV->Prop}:pGet (x :: y :: xs) 1 Q=Q (.d y):=by unfold pGet; rw [at1]
theorem C0e {x y z:PyData} {xs:LP} {Q:SV->Prop}:pGet (x :: y :: z :: xs) 2 Q=Q (.d z):=by unfold pGet; rw [at2]
theorem C0d {x y z u:PyData} {xs:LP} {Q:SV->Prop}:pGet (x :: y :: z :: u :: xs) 3 Q=Q (.d u):=by unfold pGet; rw [at3]
theorem G9 {xs:LP} {i:Int} {z:PyData} {Q:SV->Prop} (h:atI xs i=some z) (q:Q (.d z)):pGet xs i Q:=by unfold pGet; rw [h]; exact q
theorem B2o {xs:List Int} {d:Int} (h0:0<=d) (h1:d < xs.length):∃ z,z ∈ xs/\atI (xs.map PyData.int) d=some (.int z):=by
 obtain ⟨n,rfl⟩:=Int.eq_ofNat_of_zero_le h0;have hn:n < xs.length:=by omega
 refine ⟨xs[n],List.getElem_mem hn,M0 ?_⟩;rw [List.getElem?_map,List.getElem?_eq_getElem hn]; rfl
theorem C1 {α:Type} {f:α->PyData} {xs:List α} {n:Nat} {a:α} {Q:SV->Prop} (h:xs[n]?=some a) (q:Q (.d (f a))):pGet (xs.map f) (n:Int) Q :=
 G9 (M0 (by rw [List.getElem?_map,h]; rfl)) q
theorem A06 {α:Type} {f:α->PyData} {xs:List α} {a:α} {Q:SV->Prop} (h:xs[xs.length - 1]?=some a) (h1:1<=xs.length) (q:Q (.d (f a))):pGet (xs.map f) (-1) Q:=by
 refine G9 (z:=f a) ?_ q;unfold L2.atI ixN;rw [if_neg (by decide),if_pos (by rw [List.length_map]; omega)];show (xs.map f)[((-1:Int) + ((xs.map f).length:Int)).toNat]?=_;rw [show ((-1:Int) + ((xs.map f).length:Int)).toNat=xs.length - 1 by rw [List.length_map]; omega,List.getElem?_map,h]; rfl
end Pu
namespace Pu
open PySem L2 My Prf
theorem pIxT {xs:LP} {i:Int} {Q:SV->Prop}:pIx (.tuple xs) (.int i) Q=pGet xs i Q:=rfl
end Pu
namespace L2
open PySem PySem.Spec PyProof.Rows
structure QE (X:Cx) (e:Expr) (t:TE):Prop where
 out:PE X e  t
structure QT (X:Cx) (e:Expr) (t:TT):Prop where
 out:PT X e  t
structure QW (X:Cx) (e:Expr) (t:TT):Prop where
 out:PW X e  t
structure QA (X:Cx) (e:List Expr) (t:TA):Prop where
 out:PA X e  t
structure QSs (X:Cx) (e:List Stmt) (t:TS):Prop where
 out:PSs X e  t
structure QS (X:Cx) (e:Stmt) (t:TS):Prop where
 out:PS X e  t
structure QGs (X:Cx) (e:List Expr) (t:TGs):Prop where
 out:PGs X e  t
structure QG (X:Cx) (e:Expr) (t:TG):Prop where
 out:PG X e  t
structure QI (X:Cx) (e e2:Expr) (t:TI):Prop where
 out:PI X e e2  t
structure QTs (X:Cx) (e:List Expr) (t:TT):Prop where
 out:PTs X e  t
structure QO (X:Cx) (e:Option Expr) (t:TO):Prop where
 out:PO X e  t
section
variable {X:Cx}
theorem qpv (i: Nat) {x:Str} {pos:Pos} (hN: X.N[i]?=some x:=by rfl) (hv: Vis X.env.scope x:=by first | exact Or.inl rfl | exact Or.inr (Or.inl rfl) | exact Or.inr (Or.inr rfl)) (hd: (x == ("__debug__":Str))=false:=by decide) (hcd: (x == ("__classdict__":Str))=false:=by decide):QE X (.Name x pos) (tVar i):=⟨pv i hN hv hd hcd⟩
theorem A4 {i j pos}:QE X (.Constant (.int i) j pos) (tC (.int i)):=⟨F6 ⟩
theorem J6 {b j pos}:QE X (.Constant (.bool b) j pos) (tC (.bl b)):=⟨C24 ⟩
theorem A6v {j pos}:QE X (.Constant .none j pos) (tC .non):=⟨B9o ⟩
theorem D3 {x j pos}:QE X (.Constant (.str x) j pos) (tC (.str x)):=⟨B9l ⟩
theorem O5 {x:Str} {v:V} {u:Value} {pos:Pos} (hg: Gl X x) (hm: X.mg x=some u) (r: RelV v u) (hd: (x == ("__debug__":Str))=false:=by decide):QE X (.Name x pos) (tC v):=⟨B65 hg hm r hd⟩
theorem Q3 {x:Str} {v:V} {u:Value} {pos:Pos} (hg: Gl X x) (hm: X.mg x=none) (hv: bootBuiltins x=some u) (r: RelV v u) (hn: x≠"__name__":=by decide) (hd: (x == ("__debug__":Str))=false:=by decide):QE X (.Name x pos) (tC v):=⟨B7a hg hm hv r hn hd⟩
theorem C3 {op:Operator} {r:R2} (ho: OpR X (binaryOp op) r) (ha: QE X a ta) (hb: QE X b tb):QE X (.BinOp a op b pos) (tOp r ta tb):=⟨L9 ho ha.out hb.out⟩
theorem A6t {op:UnaryOp} {r:V->Hp->VK->Prop} (ho: UnR X (unaryOp op) r) (ha: QE X a ta):QE X (.UnaryOp op a pos) (tUn r ta):=⟨C21 ho ha.out⟩
theorem A6u (ha: QE X a ta):QE X (.UnaryOp .Not a pos) (B54 ta):=⟨B9n ha.out⟩
theorem K4 {op:CmpOp} {r:R2} (ho: OpR X (compareOp op) r) (ha: QE X a ta) (hb: QE X b tb) (hm: behindInMarks op b=false):QE X (.Compare a [op] [b] pos) (tOp r ta tb):=⟨Z7 ho ha.out hb.out hm⟩
theorem C6 {op:CmpOp} {r:R2} (ho: OpR X (compareOp op) r) (ha: QE X a ta) (hb: QE X b tb) (hm: behindInMarks op b=false):QT X (.Compare a [op] [b] pos) (B52 (tOp r ta tb)):=⟨A60 ho ha.out hb.out hm⟩
theorem A6x {op op':CmpOp} {r r':R2} (ho: OpR X (compareOp op) r) (ho': OpR X (compareOp op') r') (ha: QE X a ta) (hb: QE X b tb) (hc: QE X c tc) (hm: lastMarks [op,op'] [b,c]=false:=by with_unfolding_all rfl):QE X (.Compare a [op,op'] [b,c] pos) (A6g r r' ta tb tc):=⟨B2b ho ho' ha.out hb.out hc.out hm⟩
theorem M7 {rest:List Expr} (ha: QE X a ta) (hb: QE X (.BoolOp .And (b :: rest) pos) tb):QE X (.BoolOp .And (a :: b :: rest) pos) (B59 ta tb):=⟨B9q ha.out hb.out⟩
theorem B3j {rest:List Expr} (ha: QE X a ta) (hb: QE X (.BoolOp .Or (b :: rest) pos) tb):QE X (.BoolOp .Or (a :: b :: rest) pos) (tOrV ta tb):=⟨C22 ha.out hb.out⟩
theorem M6 {op} {t:TE} (h: QE X a t):QE X (.BoolOp op [a] pos) t:=⟨B9m h.out⟩
theorem L8 {rest:List Expr} (ha: QT X a tA) (hb: QW X (.BoolOp .And (b :: rest) pos) tB'):QW X (.BoolOp .And (a :: b :: rest) pos) (tAnd tA tB'):=⟨B9c ha.out hb.out⟩
theorem A0u {rest:List Expr} (ha: QT X a tA) (hb: QW X (.BoolOp .Or (b :: rest) pos) tB'):QW X (.BoolOp .Or (a :: b :: rest) pos) (tOr tA tB'):=⟨C2y ha.out hb.out⟩
theorem L4 (ha: QT X a tA):QW X (.BoolOp .And [a] pos) tA:=⟨B6r ha.out⟩
theorem U2 (ha: QT X a tA):QW X (.BoolOp .Or [a] pos) tA:=⟨B9b ha.out⟩
theorem M4 (ha: QT X a tA):QT X (.UnaryOp .Not a pos) (tNot tA):=⟨B9d ha.out⟩
theorem E9 {e:Expr} {t:TE} (h: QE X e t) (he: ∀ whole,isTrue e X.env whole=(do let v <- whole; standAt e.pos; holding [v] (truthy v)):=by intro _; rfl):QT X e (tB t):=⟨B3n h.out he⟩
theorem A0w {c:Expr} (hc: QT X c tA) (ha: QE X a ta) (hb: QE X b tb):QE X (.IfExp c a b pos) (tIf tA ta tb):=⟨B19 hc.out ha.out hb.out⟩
theorem O6 (hc: X.calm=true) (C: CompSc X scope cl N' cap) (hi: QI X tg iter wi) (hg: ∀ s3 H3 fp,QG (X.block scope cl N' s3 H3 fp) tg g) (ht: ∀ s3 H3 fp,QTs (X.block scope cl N' s3 H3 fp) ifs tt) (he: ∀ s3 H3 fp,QE (X.block scope cl N' s3 H3 fp) elt te) (hs: ∀ x,foldedSetIterable iter X.env x=pure x:=by intro _; rfl):QE X (.ListComp elt [⟨tg,iter,ifs,0⟩] scope pos) (B58 wi g tt te cap):=⟨B68 hc C hi.out (fun a b c=>(hg a b c).out) (fun a b c=>(ht a b c).out) (fun a b c=>(he a b c).out) hs⟩
theorem G0 (hc: X.calm=true) (hN: X.N.Nodup) (hi: X.N[i]?=some y) (hy: X.env.scope.names.lookup y=some .local) (C: CompSc X scope cl N' cap) (hit: QI X tg iter wi) (hg: ∀ s3 H3 fp,QG (X.block scope cl N' s3 H3 fp) tg g) (ht: ∀ s3 H3 fp,QTs (X.block scope cl N' s3 H3 fp) ifs tt) (he: ∀ s3 H3 fp,QE (X.block scope cl N' s3 H3 fp) elt te) (hsw: swapsWith (.ListComp elt [⟨tg,iter,ifs,0⟩] scope pos) (some (.Name y py)) spos.line X.env=pure true) (hs: ∀ x,foldedSetIterable iter X.env x=pure x:=by intro _; rfl):QS X (.Assign [.Name y py] (.ListComp elt [⟨tg,iter,ifs,0⟩] scope pos) spos) (Y6 wi g tt te cap i):=⟨A5f hc hN hi hy C hit.out (fun a b c=>(hg a b c).out) (fun a b c=>(ht a b c).out) (fun a b c=>(he a b c).out) hsw hs⟩
theorem C7 {x1} (h: QA X es t):QE X (.Tuple es x1 pos) (tTup t):=⟨B9k h.out⟩
theorem E6 (h: QA X es t):QE X (.List es pos) (tLst t):=⟨A7e h.out⟩
theorem U5 {lo hi:Option Expr} {r:V->Option Int->Option Int->Hp->VK->Prop} (hr: SlR X r) (he: QE X e te) (hl: QO X lo tl) (hu: QO X hi th):QE X (.Subscript e (.Slice lo hi none p2) pos) (tSl r te tl th):=⟨B18 hr he.out hl.out hu.out⟩
theorem Z4 :QO X none A18:=⟨B60 ⟩
theorem Z3 (h: QE X e te):QO X (some e) (B53 te):=⟨B6z h.out⟩
theorem B2 {r:R2} (hr: IxR X r) (ha: QE X a ta) (hb: QE X b tb) (hs: B1k b):QE X (.Subscript a b pos) (tOp r ta tb):=⟨Z6 hr ha.out hb.out hs⟩
theorem A7 (F: FnOk X.prog X.w X.K X.mg X.base CX k f fd ps sp) (hr: Room k X.A) (hg: Gl X x) (hm: X.mg x=some (.ref f)) (hk: PySem.W.keepIn X.K (.ref f)=true) (hb: Binds X.K fd ps ds) (hd: Vals dvs ds) (hx: A5a CX X E) (ha: QA X (e :: es) t) (hdb: (x == ("__debug__":Str))=false:=by decide) (he: starEach (e :: es) X.env=(false,eval e X.env) :: starEach es X.env:=by rfl) (hpl: (backTo pos (starEach es X.env)).any (·.1)=false:=by rfl):QE X (.Call (.Name x p) (e :: es) [] pos) (A6h sp dvs E t):=⟨B69 F hr hg hm hk hb hd hx ha.out hdb he hpl⟩
theorem C2 {id:String} (hc: CallR X (.builtin id) r) (hg: Gl X x) (hm: X.mg x=none) (hv: bootBuiltins x=some (.builtin id)) (ha: QA X (e :: es) t) (hn: x≠"__name__":=by decide) (hdb: (x == ("__debug__":Str))=false:=by decide) (he: starEach (e :: es) X.env=(false,eval e X.env) :: starEach es X.env:=by rfl) (hpl: (backTo pos (starEach es X.env)).any (·.1)=false:=by rfl):QE X (.Call (.Name x p) (e :: es) [] pos) (tCB r t):=⟨A3t hc hg hm hv ha.out hn hdb he hpl⟩
theorem J9 {K:PySem.W.Frag} (hK:X.K=K) {id:String} (pa: PlainAttrs T) (slot: Slot T name id) (hty: typeOf (.builtin id)=pure (.type "method_descriptor")) (hm: MtR X id r) (ho: QE X o to) (ha: QA X (e :: es) t) (hbase: attributeBase o name X.env (eval o X.env)=eval o X.env:=by rfl) (hfew: ((backTo cpos (starEach (e :: es) X.env)).all (fun x=>!x.1) && (backToKw cpos (keywordEach [] X.env)).all (fun x=>x.1.isSome)
   && decide ((e :: es).length + ([]:List Keyword).length + (if ([]:List Keyword).isEmpty then 0 else 1) < 30))=true:=by rfl) (hline: (apos.endLine == cpos.line)=true:=by rfl) (hs: starEach (e :: es) X.env=(false,eval e X.env) :: starEach es X.env:=by rfl) (hplain: (backTo cpos (starEach es X.env)).any (·.1)=false:=by rfl):QE X (.Call (.Attribute o name apos) (e :: es) [] cpos) (tBM K T r to t):=by subst hK; exact ⟨C23 pa slot hty hm ho.out ha.out hbase hfew hline hs hplain⟩
theorem A3 :QA X [] tNil:=⟨X2 ⟩
theorem A0 (ha: QE X e te) (hr: QA X es t) (hs: starEach (e :: es) X.env=(false,eval e X.env) :: starEach es X.env:=by rfl):QA X (e :: es) (N2 te t):=⟨P5 ha.out hr.out hs⟩
theorem D1 :QSs X [] B55:=⟨A2f ⟩
theorem A9 {st:Stmt} (h1: QS X st t):QSs X [st] t:=⟨R3 h1.out⟩
theorem A5 {st:Stmt} {rest:List Stmt} (h1: QS X st t) (h2: QSs X rest u):QSs X (st :: rest) (tSeq t u):=⟨K5 h1.out h2.out⟩
theorem U4 {st:Stmt}:QS X st A6d:=⟨B10 ⟩
theorem C4 (he: QE X e te):QS X (.Return (some e) pos) (tRet te):=⟨A3p he.out⟩
theorem F9 (he: QE X e te) (hs: swapsWith e none pos.line X.env=pure false:=by rfl):QS X (.Expr e pos) (A6e te):=⟨B6w he.out hs⟩
theorem D9 {c:Expr} {a b:List Stmt} {tc:TT} (hc: QT X c tc) (ha: QSs X a t) (hb: QSs X b u):QS X (.If c a b pos) (tIfS tc t u):=⟨B6v hc.out ha.out hb.out⟩
theorem U3 {c:Expr} {body:List Stmt} {tc:TT} {tb:TS} (hp: PassesOwn (model X.prog X.w) X.A X.env X.xe) (hc: QT X c tc) (hb: QSs X body tb):QS X (.While c body [] pos) (A6c tc tb):=⟨B1y hp hc.out hb.out⟩
theorem F0 {iter:Expr} {body:List Stmt} {wi:TI} {g:TG} {tb:TS} {pos:Pos} (hp: PassesOwn (model X.prog X.w) X.A X.env X.xe) (hc: X.calm=true) (hi: QI X tg iter wi) (hg: QG X tg g) (hb: QSs X body tb) (hs: ∀ x,foldedSetIterable iter X.env x=pure x:=by intro _; rfl):QS X (.For tg iter body [] pos) (tFor wi g tb):=⟨B3o hp hc hi.out hg.out hb.out hs⟩
theorem B8 {i:Nat} {x:Str} {e:Expr} {te:TE} {pos':Pos} (hN: X.N.Nodup) (hi: X.N[i]?=some x) (hx: Loc X.env.scope x) (he: QE X e te) (hs: swapsWith e (some (.Name x pos')) pos.line X.env=pure false:=by rfl) (hf: X.fn x=true\/X.env.scope.names.lookup x=some .local:=by first | exact .inl rfl | exact .inr rfl | assumption):QS X (.Assign [.Name x pos'] e pos) (tAsg te (W3 i)):=⟨X0 hN hi hx he.out hs hf⟩
theorem P4 {i j:Nat} {x y:Str} {a b:Expr} {ta:TA} {px py pt:Pos} {kt k2 pt2} (hc: X.calm=true) (hN: X.N.Nodup) (hi: X.N[i]?=some x) (hj: X.N[j]?=some y) (hij: i≠j) (hx: X.env.scope.names.lookup x=some .local) (hy: X.env.scope.names.lookup y=some .local) (ha: QA X [a,b] ta) (hw: swappedStores [.Tuple [.Name x px,.Name y py] kt pt] (.Tuple [a,b] k2 pt2) X.env=pure (some [x,y])) (hs: swapsWithSole [.Tuple [.Name x px,.Name y py] kt pt] (.Tuple [a,b] k2 pt2) pos.line X.env=pure false:=by rfl):QS X (.Assign [.Tuple [.Name x px,.Name y py] kt pt] (.Tuple [a,b] k2 pt2) pos) (tPar i j ta):=⟨B9f hc hN hi hj hij hx hy ha.out hw hs⟩
theorem F4 {tg e:Expr} {te:TE} {g:TG} (he: QE X e te) (hg: QG X tg g) (hs: swapsWithSole [tg] e pos.line X.env=pure false:=by rfl) (hw: swappedStores [tg] e X.env=pure none:=by rfl) (h1: (assignEach [tg] X.env).map (·.2)=[assign tg X.env]:=by rfl):QS X (.Assign [tg] e pos) (tAsg te g):=⟨A3q he.out hg.out hs hw h1⟩
theorem B3 {i:Nat} {x:Str} (hN: X.N.Nodup) (hi: X.N[i]?=some x) (hx: Loc X.env.scope x) (hf: X.fn x=true\/X.env.scope.names.lookup x=some .local:=by first | exact .inl rfl | exact .inr rfl | assumption):QG X (.Name x pos) (W3 i):=⟨A7d hN hi hx hf⟩
theorem C9 :QGs X [] gNil:=⟨B63 ⟩
theorem B7 {e:Expr} {es:List Expr} {t:TG} {u:TGs} (h1: QG X e t) (h2: QGs X es u) (hs: (assignEach (e :: es) X.env).map (·.2)=assign e X.env :: (assignEach es X.env).map (·.2):=by rfl):QGs X (e :: es) (A2v t u):=⟨B17 h1.out h2.out hs⟩
theorem D0 {K:PySem.W.Frag} {pos:Pos} {es:List Expr} {k:Nat} {t:TGs} {n:Nat} (h: X.K=K) (hc: X.calm=true) (hg: QGs X es t) (hn: (assignEach es X.env).length=n:=by rfl) (hst: (assignEach es X.env).findIdx? (·.1)=none:=by rfl):QG X (.Tuple es k pos) (gTup K n t):=⟨B64 h hc hg.out hn hst⟩
theorem F2 {a:Expr} {ta:TA} {p pos:Pos} (hg: Gl X "range") (hm: X.mg "range"=none) (ha: QA X [a] ta) (hs: starEach [a] X.env=[(false,eval a X.env)]:=by rfl):QI X tg (.Call (.Name "range" p) [a] [] pos) (B8a ta):=⟨A03 hg hm ha.out hs⟩
theorem W9 {a b:Expr} {ta:TA} {p pos:Pos} (hg: Gl X "range") (hm: X.mg "range"=none) (ha: QA X [a,b] ta) (hs: starEach [a,b] X.env=[(false,eval a X.env),(false,eval b X.env)]:=by rfl) (hs2: starEach [b] X.env=[(false,eval b X.env)]:=by rfl):QI X tg (.Call (.Name "range" p) [a,b] [] pos) (B79 ta):=⟨A7c hg hm ha.out hs hs2⟩
theorem F7 {K:PySem.W.Frag} {l:Expr} {tl:TE} (h: X.K=K) (hl: QE X l tl):QI X tg l (iSq K tl):=⟨B9h h hl.out⟩
theorem J1 {X:Cx}:QTs X [] tYes:=⟨B6t ⟩
theorem T1 {X:Cx} {c:Expr} {t:TT} (h: QT X c t):QTs X [c] t:=⟨B6s h.out⟩
theorem QW.pt {X:Cx} {e:Expr} {t:TT} (h:QW X e t):QT X e t:=⟨h.out.pt⟩
end
end L2
namespace Pu
open PySem L2 My Prf
theorem C15 (n:Int):PyData.tuple [.int n,.int 1]=dq (n:Rat):=by
 unfold dq; rw [Rat.num_intCast,Rat.den_intCast]; rfl
theorem A2a {k:Nat} {n:Int} (h:Sm k n):SmR k 1 (n:Rat):=⟨by rw [Rat.num_intCast]; exact h,by rw [Rat.den_intCast]; unfold Sm; decide⟩
theorem B6d {k:Nat} {q:Rat} (h:SmR k 1 q):q.den=1:=by
 have h1:(q.den:Int).natAbs < 2 ^ 1:=h.2;have h2:=q.den_nz;omega
theorem C1p {n:Int} (h:0<=n):(0:Rat)<=(n:Rat):=Rat.intCast_nonneg.mpr h
theorem C1o {n:Int} (h:0 < n):(0:Rat) < (n:Rat):=Rat.intCast_pos.mpr h
theorem A6l {z:Int} (h0:0<=z) (h1:z<=1000000000000000000):Sm 4000 z:=Sm.mono (k:=64) (M1 (B:=1000000000000000000) (by omega) (by omega) (by decide)) (by decide)
theorem A3z {c:Rat × Rat} {Q:SV->Prop}:pIx (dcn c) (.int 0) Q=Q (.d (dq c.1)):=by unfold dcn; rw [pIxT,B7q]
theorem A3y {c:Rat × Rat} {Q:SV->Prop}:pIx (dcn c) (.int 1) Q=Q (.d (dq c.2)):=by unfold dcn; rw [pIxT,B7p]
theorem O8 {lo:Int} {n:Nat} {pg:PyData->PEnv->(PEnv->Prop)->Prop} {pt:PTt} {pd:PDt} {e0:PEnv} {Fin:LP->Prop} (Pv:Nat->PEnv->LP->Prop) (h0:Pv 0 e0 [])
  (hs:∀ (i:Nat) e ys,i < n->Pv i e ys->pg (.int (lo + (i:Int))) e fun e2=>pt e2 fun b e3=>if b=true then pd e3 fun y e4=>Pv (i + 1) e4 (ys++[y]) else Pv (i + 1) e3 ys) (hd:∀ e ys,Pv n e ys->Fin ys):M8 (rngD lo n) pg pt pd e0 Fin :=
 ⟨Pv,h0,fun i x e ys hx hi=>by obtain ⟨h1,rfl⟩:=A3j hx; exact hs i e ys h1 hi,fun e ys h=>hd e ys (by rwa [J8] at h)⟩
theorem M2 {α:Type} {f:α->PyData} {xs:List α} {pg:PyData->PEnv->(PEnv->Prop)->Prop} {pt:PTt} {pd:PDt} {e0:PEnv} {Fin:LP->Prop} (Pv:Nat->PEnv->LP->Prop) (h0:Pv 0 e0 [])
  (hs:∀ (i:Nat) a e ys,xs[i]?=some a->Pv i e ys->pg (f a) e fun e2=>pt e2 fun b e3=>if b=true then pd e3 fun y e4=>Pv (i + 1) e4 (ys++[y]) else Pv (i + 1) e3 ys) (hd:∀ e ys,Pv xs.length e ys->Fin ys):M8 (xs.map f) pg pt pd e0 Fin:=by
 refine ⟨Pv,h0,fun i x e ys hx hi=>?_,fun e ys h=>hd e ys (by rwa [List.length_map] at h)⟩;rw [List.getElem?_map] at hx;cases ha:xs[i]? with
 | none=>rw [ha] at hx; cases hx
 | some a=>rw [ha] at hx; cases hx; exact hs i a e ys ha hi
theorem K2 {α:Type} {f:α->PyData} {xs:List α} {pg:PyData->PEnv->(PEnv->Prop)->Prop} {pb:PSt} {D:PEnds} {env:PEnv} (Iv:Nat->PEnv->Prop) (h0:Iv 0 env)
  (hs:∀ (i:Nat) a e,xs[i]?=some a->Iv i e->pg (f a) e fun e2=>pb ⟨Iv (i + 1),D.rt,D.nx,Iv (i + 1)⟩ e2) (hd:∀ e,Iv xs.length e->D.nx e):A31 (xs.map f) pg pb D env:=by
 refine ⟨Iv,h0,fun i x e hx hi=>?_,fun e h=>hd e (by rwa [List.length_map] at h)⟩;rw [List.getElem?_map] at hx;cases ha:xs[i]? with
 | none=>rw [ha] at hx; cases hx
 | some a=>rw [ha] at hx; cases hx; exact hs i a e ha hi
theorem A59:PyData.tuple [.int 2,.int 3]=dq (Rat.divInt 2 3):=by
 unfold dq;rw [show (Rat.divInt 2 3).num=2 by decide +kernel,show (Rat.divInt 2 3).den=3 by decide +kernel]; rfl
theorem B0o:PyData.tuple [.int 1,.int 2]=dq (Rat.divInt 1 2):=by
 unfold dq;rw [show (Rat.divInt 1 2).num=1 by decide +kernel,show (Rat.divInt 1 2).den=2 by decide +kernel]; rfl
end Pu
namespace Pu
open PySem L2 My Prf
theorem A28 {fs:LQ}:∀ {gs:LQ} {f g:Rat},gs[fs.length]?=some g->List.zipWith (· * ·) (fs++[f]) gs=List.zipWith (· * ·) fs gs++[f * g]:=by
 induction fs with
 | nil=>intro gs f g h; cases gs with
  | nil=>simp at h
  | cons x r=>simp at h; subst h; simp
 | cons a r ih=>intro gs f g h; cases gs with
  | nil=>simp at h
  | cons x t=>simp at h; simp [ih h]
theorem A27 {ms:LQ} {i:Nat} {m:Rat} (h:ms[i]?=some m):My.S (ms.take (i + 1))=My.S (ms.take i) + m:=by
 rw [List.take_add_one,h,B1j]; show _ + (m + 0)=_; rw [Rat.add_zero]
theorem sm_zero:SmR 1 1 (0:Rat):=⟨by unfold Sm; decide,by unfold Sm; decide⟩
end Pu
namespace Pu
open PySem L2 My Prf
theorem A49 {q:Rat} {k:LP->Prop}:S6 (dq q) k=k [.int q.num,.int (q.den:Int)]:=rfl
theorem A7t {q:Rat} {Q:SV->Prop}:pLen [dq q] Q=Q (.d (.int 2)):=rfl
theorem A05 {xs:LP} {Q:SV->Prop}:pLen [.list xs] Q=Q (.d (.int xs.length)):=rfl
theorem A3x {xs:LP} {Q:SV->Prop}:pLen [.tuple xs] Q=Q (.d (.int xs.length)):=rfl
theorem B0s:PyData.eqv (.list []) (.list [])=true:=rfl
theorem A9l:(PyData.list []).canLay0=true:=rfl
theorem B0x:(PyData.list []).depth=1:=rfl
end Pu
namespace Pu
open PySem L2 My Prf
theorem A57 {i:Int}:tyD (.int i)="int":=rfl
theorem A3e {b:Bool}:tyD (.bool b)="bool":=rfl
theorem A56 {s:Str}:tyD (.str s)="str":=rfl
theorem A3b:tyD .none="NoneType":=rfl
theorem A3c {xs:LP}:tyD (.list xs)="list":=rfl
theorem A55 {xs:LP}:tyD (.tuple xs)="tuple":=rfl
theorem A58 {c:Rat × Rat}:tyD (dcn c)="tuple":=rfl
theorem Y1 {xs:LP} {k:LP->Prop}:S6 (.list xs) k=k xs:=rfl
theorem A15 {xs:LP} {k:LP->Prop}:S6 (.tuple xs) k=k xs:=rfl
theorem A16 {c:Rat × Rat} {k:LP->Prop}:S6 (dcn c) k=k [dq c.1,dq c.2]:=rfl
theorem A1h:isNo .none=true:=rfl
theorem A4q {i:Int}:isNo (.int i)=false:=rfl
theorem A1j {b:Bool}:isNo (.bool b)=false:=rfl
theorem A4p {s:Str}:isNo (.str s)=false:=rfl
theorem A1i {xs:LP}:isNo (.list xs)=false:=rfl
theorem A4o {xs:LP}:isNo (.tuple xs)=false:=rfl
end Pu
namespace Pu
open PySem L2 My Prf
end Pu
namespace L2
open PySem PySem.Spec PyProof.Rows
section
variable {X:Cx} {pins:List (Addr × Obj)} {σ:St} {H:Hp} {s:Shared} {h':Heap}
theorem Inv.turnL {t':Nat} {wr:List Addr} (I:Inv X pins σ H s) (k:∀ b o,b ∉ wr->s.heap.get? b=some o->h'.get? b=some o) (hf:∀ b ∈ wr,FpOk X pins H b):Inv X pins σ H { s with heap:=h',toks:=t' }:=by
 have nw:∀ b u,H b=some u->b ∉ wr:=fun b u e z=>by have:=(hf b z).1; rw [e] at this; cases this
 refine I.call (g':=s.gens) (d':=s.drawn) (ch:=wr) ⟨fun b o e _ _ hb=>k b o hb e,fun b o e _ _ hb=>⟨o.slots,k b o hb e⟩,fun _ _ _ n _=>n,fun b o e hb=>⟨o,k b o hb e⟩,fun _ _ e=>e,fun _ _ _ e=>e,fun b ps e=>⟨#[],by rw [e]; simp⟩⟩ (fun b u e=>?_) I.bare fun b hb=>?_
 ·refine (I.hok b u e).stay (fun c v hc q=>k c v ?_ q) (fun _ q=>q) fun _ _ q=>q;rcases hc with z | z
  ·rw [z]; exact nw b u e
  ·exact nw c _ z
 ·have f:=hf b hb;exact ⟨f.2.2.2.1,f.2.1,f.2.2.2.2.1,f.2.2.2.2.2⟩
theorem Inv.laidL {t':Nat} {wr:List Addr} {T:Addr} {o:HO} (I:Inv X pins σ H s) (k:∀ b u,b ∉ wr->s.heap.get? b=some u->h'.get? b=some u) (hf:∀ b ∈ wr,FpOk X pins H b) (hp:s.heap.objs.size<=T) (new:ObjOk X.prog X.w (upd H T o) h' T o) :
  Inv X pins σ (upd H T o) { s with heap:=h',toks:=t' }:=by
 have hn:=I.hok.fresh hp;have nw:∀ b u,H b=some u->b ∉ wr:=fun b u e z=>by have:=(hf b z).1; rw [e] at this; cases this
 refine I.call (g':=s.gens) (d':=s.drawn) (ch:=wr) ⟨fun b u e _ _ hb=>k b u hb e,fun b u e _ _ hb=>⟨u.slots,k b u hb e⟩,fun b u e n _=>by rw [D8 (Nat.ne_of_lt (Nat.lt_of_lt_of_le (Heap.lt_size e) hp))]; exact n,fun b u e hb=>⟨u,k b u hb e⟩,
  fun b xs e=>by rw [D8 (F5 e hn)]; exact e,fun b u xs e=>by rw [D8 (F5 e hn)]; exact e,fun b ps e=>⟨#[],by rw [D8 (F5 e hn),e]; simp⟩⟩ (fun b u e=>?_) I.bare fun b hb=>?_
 ·by_cases hb:b=T
  ·subst hb; rw [D7] at e; cases e; exact new
  ·rw [D8 hb] at e;refine (I.hok b u e).stay (fun c v hc q=>k c v ?_ q) (fun c q=>by rw [D8 (F5 q hn)]; exact q) fun c xs q=>by rw [D8 (F5 q hn)]; exact q
   rcases hc with z | z
   ·rw [z]; exact nw b u e
   ·exact nw c _ z
 ·have f:=hf b hb;exact ⟨f.2.2.2.1,f.2.1,f.2.2.2.2.1,f.2.2.2.2.2⟩
end
def Itz (K:PySem.W.Frag) (l1 l2:Addr):It :=
 ⟨fun i H=>∃ xs ys x y,SqL K H l1 xs/\SqL K H l2 ys/\xs[i]?=some x/\ys[i]?=some y,
  fun i H v H'=>∃ T x y,v=.ref T/\H T=none/\H'=upd H T (.tup [x,y])/\(∀ xs,SqL K H l1 xs->xs[i]?=some x)/\∀ ys,SqL K H l2 ys->ys[i]?=some y,
  fun i H=>∃ xs ys,SqL K H l1 xs/\SqL K H l2 ys/\(xs.length<=i\/ys.length<=i)⟩
def Ite (K:PySem.W.Frag) (l:Addr):It :=
 ⟨fun i H=>∃ xs x,SqL K H l xs/\xs[i]?=some x,
  fun i H v H'=>∃ T x,v=.ref T/\H T=none/\H'=upd H T (.tup [.int i,x])/\∀ xs,SqL K H l xs->xs[i]?=some x,
  fun i H=>∃ xs,SqL K H l xs/\xs.length<=i⟩
theorem S8:∀ {xs:List V} {us:List Value} {i:Nat} {x:V},Vals xs us->xs[i]?=some x->∃ u,us[i]?=some u/\RelV x u
 | _,_,_,_,.nil,e=>by simp at e
 | _,_,0,_,.cons h _,e=>by simp at e; subst e; exact ⟨_,rfl,h⟩
 | _,_,i + 1,x,.cons _ t,e=>by
  obtain ⟨u,h1,h2⟩:=S8 (i:=i) (x:=x) t (by simpa using e);exact ⟨u,by simpa using h1,h2⟩
theorem B1n {P:Program} {w:World} {K:PySem.W.Frag} {es:List Expr} {kk:Nat} {tp:Pos} {z TI TO i1 i2 l1 l2:Addr} (D:ZipApart z TI TO i1 i2 l1 l2) :
    Turn P w K (.Tuple es kk tp) (Itz K l1 l2) [z,TI,TO,i1,i2] z (fun i h=>IsZip h z TI TO .none/\IsPair h TI (.ref i1) (.ref i2)/\(∃ a b,IsPair h TO a b)/\h.IsListIter i1 l1 i/\h.IsListIter i2 l2 i) where
  mem:=List.mem_cons_self
  obj:=fun i h st b hb=>by
    obtain ⟨hz,hTI,⟨a,c,hTO⟩,⟨o1,g1,k1,d1⟩,⟨o2,g2,k2,d2⟩⟩:=st;simp only [List.mem_cons,List.mem_nil_iff,or_false] at hb;rcases hb with rfl | rfl | rfl | rfl | rfl
    · exact ⟨_,hz,fun v q=>Data.noConfusion (show Data.fields _=Data.cell v from q)⟩
    · exact ⟨_,hTI,fun v q=>Data.noConfusion (show Data.seq _ _=Data.cell v from q)⟩
    · exact ⟨_,hTO,fun v q=>Data.noConfusion (show Data.seq _ _=Data.cell v from q)⟩
    · exact ⟨_,g1,fun v q=>by rw [d1] at q; cases q⟩
    · exact ⟨_,g2,fun v q=>by rw [d2] at q; cases q⟩
  keep:=fun i h h' st k=>by
    obtain ⟨hz,hTI,⟨a,c,hTO⟩,h1,h2⟩:=st;exact ⟨k z (by simp) _ hz,k TI (by simp) _ hTI,⟨a,c,k TO (by simp) _ hTO⟩,h1.at fun o e=>k i1 (by simp) o e,h2.at fun o e=>k i2 (by simp) o e⟩
  item:=by
    intro X hP hw hK hc i pins s σ H E I hf st hg;subst hP hw hK;obtain ⟨hz,hTI,⟨a,c,hTO⟩,h1,h2⟩:=st;obtain ⟨xs,ys,x,y,q1,q2,ex,ey⟩:=hg;obtain ⟨its1,r1,p1,_⟩:=I.list q1;obtain ⟨its2,r2,p2,_⟩:=I.list q2;obtain ⟨u1,e1,ru1⟩:=S8 r1 ex;obtain ⟨u2,e2,ru2⟩:=S8 r2 ey;refine wpAny_pyNext_zip_item D hz hTI hTO h1 h2 p1.isList p2.isList (by simpa using e1) (by simpa using e2) fun h' a1 a2 a3 a4 a5 a6 hk=>⟨_,rfl,?_⟩;refine wpAny_letOwnedTupleGo_zip a1 fun h'' b1 sb=>?_;have lt:∀ {b o},s.heap.get? b=some o->s.heap.objs.size≠b:=fun e=>Nat.ne_of_gt (Heap.lt_size e);have k2:∀ b o,b ∉ [z,TO,i1,i2]->s.heap.get? b=some o->h''.get? b=some o:=fun b o hb e=>by
      simp only [List.mem_cons,List.mem_nil_iff,or_false,not_or] at hb;exact (sb.2 b hb.1).trans (hk b o hb.1 hb.2.1 hb.2.2.1 hb.2.2.2 e)
    have I2:Inv X pins σ (upd H s.heap.objs.size (.tup [x,y])) { s with heap:=h'',toks:=s.toks }:=by
      refine I.laidL (wr:=[z,TO,i1,i2]) k2 (fun b hb=>hf b ?_) (Nat.le_refl _) ⟨by show 2<=sizeLine; decide,[u1,u2],.cons ru1 (.cons ru2 .nil),?_⟩
      · simp only [List.mem_cons,List.mem_nil_iff,or_false] at hb ⊢
        rcases hb with q | q | q | q <;> simp [q]
      · exact ⟨_,(sb.2 _ (lt hz)).trans a5,rfl,_,rfl⟩
    refine ⟨.ref s.heap.objs.size,_,I2,rfl,⟨_,x,y,rfl,I.fresh,rfl,fun zs hzs=>by rw [I.list_inj hzs q1]; exact ex,fun zs hzs=>by rw [I.list_inj hzs q2]; exact ey⟩,⟨b1,(sb.2 _ D.TIz).trans (hk _ _ D.TIz D.TITO D.TIi1 D.TIi2 hTI),⟨_,_,(sb.2 _ D.TOz).trans a2⟩,a3.at fun o e=>(sb.2 _ D.i1z).trans e,a4.at fun o e=>(sb.2 _ D.i2z).trans e⟩,fun b hb=>?_⟩;have:b≠s.heap.objs.size:=by
      simp only [List.mem_cons,List.mem_nil_iff,or_false] at hb;obtain ⟨_,g1,_⟩:=h1;obtain ⟨_,g2,_⟩:=h2;rcases hb with rfl | rfl | rfl | rfl | rfl
      · exact (lt hz).symm
      · exact (lt hTI).symm
      · exact (lt hTO).symm
      · exact (lt g1).symm
      · exact (lt g2).symm
    rw [D8 this]; exact (hf b hb).1
  done:=by
    intro X hP hw hK hc i pins s σ H E I hf st hg;subst hP hw hK;obtain ⟨hz,hTI,⟨a,c,hTO⟩,h1,h2⟩:=st;obtain ⟨xs,ys,q1,q2,hl⟩:=hg;obtain ⟨its1,r1,p1,_⟩:=I.list q1;obtain ⟨its2,r2,p2,_⟩:=I.list q2;have n1:=r1.length;have n2:=r2.length;refine wpAny_pyNext_zip_end (I.ok.hd hc) D hz hTI hTO h1 h2 p1.isList p2.isList (hl.imp (fun q=>by simp; omega) fun q=>by simp; omega) fun h' hk=>⟨rfl,?_⟩;refine I.turnL (t':=s.toks) (wr:=[z,TO,i1,i2]) (fun b o hb e=>?_) (fun b hb=>hf b ?_)
    · simp only [List.mem_cons,List.mem_nil_iff,or_false,not_or] at hb
      exact hk b o hb.1 hb.2.1 hb.2.2.1 hb.2.2.2 e
    · simp only [List.mem_cons,List.mem_nil_iff,or_false] at hb ⊢
      rcases hb with q | q | q | q <;> simp [q]
  self:=fun _ _ _ _ _ st h=>wpAny_pyIter_zip st.1 h
theorem A6b {P:Program} {w:World} {K:PySem.W.Frag} {es:List Expr} {kk:Nat} {tp:Pos} {e it l:Addr} (hei:e≠it) :
    Turn P w K (.Tuple es kk tp) (Ite K l) [e,it] e (fun i h=>(∃ old,IsEnum h e it i old)/\h.IsListIter it l i) where
  mem:=List.mem_cons_self
  obj:=fun i h st b hb=>by
    obtain ⟨⟨old,he⟩,⟨o1,g1,k1,d1⟩⟩:=st;simp only [List.mem_cons,List.mem_nil_iff,or_false] at hb;rcases hb with rfl | rfl
    · exact ⟨_,he,fun v q=>Data.noConfusion (show Data.fields _=Data.cell v from q)⟩
    · exact ⟨_,g1,fun v q=>by rw [d1] at q; cases q⟩
  keep:=fun i h h' st k=>by
    obtain ⟨⟨old,he⟩,h1⟩:=st;exact ⟨⟨old,k e (by simp) _ he⟩,h1.at fun o q=>k it (by simp) o q⟩
  item:=by
    intro X hP hw hK hc i pins s σ H E I hf st hg;subst hP hw hK;obtain ⟨⟨old,he⟩,h1⟩:=st;obtain ⟨xs,x,q1,ex⟩:=hg;obtain ⟨its1,r1,p1,_⟩:=I.list q1;obtain ⟨u1,e1,ru1⟩:=S8 r1 ex;refine wpAny_pyNext_enum_item he h1 p1.isList (x:=u1) (by simpa using e1) hei fun h' a1 a2 a3 a4 hk=>⟨_,rfl,?_⟩;refine wpAny_letOwnedTupleGo_enum a1 fun h'' b1 sb=>?_;have lt:∀ {b o},s.heap.get? b=some o->s.heap.objs.size≠b:=fun e=>Nat.ne_of_gt (Heap.lt_size e);obtain ⟨o1,g1,_⟩:=id h1;have I2:Inv X pins σ (upd H s.heap.objs.size (.tup [.int i,x])) { s with heap:=h'',toks:=s.toks + 1 }:=by
      refine I.laidL (wr:=[e,it]) (fun b o hb q=>?_) (fun b hb=>hf b hb) (Nat.le_refl _) ⟨by show 2<=sizeLine; decide,[.int i s.toks,u1],.cons ⟨_,rfl⟩ (.cons ru1 .nil),?_⟩
      · simp only [List.mem_cons,List.mem_nil_iff,or_false,not_or] at hb
        exact (sb.2 b hb.1).trans (hk b o hb.1 hb.2 q)
      · exact ⟨_,(sb.2 _ (lt he)).trans a3,rfl,_,rfl⟩
    refine ⟨.ref s.heap.objs.size,_,I2,rfl,⟨_,x,rfl,I.fresh,rfl,fun zs hzs=>by rw [I.list_inj hzs q1]; exact ex⟩,⟨⟨_,by simpa using b1⟩,a2.at fun o q=>(sb.2 _ hei.symm).trans q⟩,fun b hb=>?_⟩;have:b≠s.heap.objs.size:=by
      simp only [List.mem_cons,List.mem_nil_iff,or_false] at hb;rcases hb with rfl | rfl
      · exact (lt he).symm
      · exact (lt g1).symm
    rw [D8 this]; exact (hf b hb).1
  done:=by
    intro X hP hw hK hc i pins s σ H E I hf st hg;subst hP hw hK;obtain ⟨⟨old,he⟩,h1⟩:=st;obtain ⟨xs,q1,hl⟩:=hg;obtain ⟨its1,r1,p1,_⟩:=I.list q1;have n1:=r1.length;refine wpAny_pyNext_enum_end (I.ok.hd hc) he h1 p1.isList (by simp; omega) fun h' hk=>⟨rfl,?_⟩;refine I.turnL (t':=s.toks) (wr:=[e,it]) (fun b o hb q=>?_) (fun b hb=>hf b hb);simp only [List.mem_cons,List.mem_nil_iff,or_false,not_or] at hb;exact hk b o hb.2 q
  self:=fun _ _ _ _ _ st h=>by obtain ⟨⟨old,he⟩,_⟩:=st; exact wpAny_pyIter_enum he h
section
variable {X:Cx}
def iZip (K:PySem.W.Frag) (ta:TA):TI:=fun σ H R=>ta σ H fun vs H1=>∃ l1 l2 xs ys,vs=[.ref l1,.ref l2]/\SqL K H1 l1 xs/\SqL K H1 l2 ys/\R (Itz K l1 l2) H1
def B8b (K:PySem.W.Frag) (ta:TA):TI:=fun σ H R=>ta σ H fun vs H1=>∃ l xs,vs=[.ref l]/\SqL K H1 l xs/\R (Ite K l) H1
theorem B62 {K:PySem.W.Frag} {a b:Expr} {ta:TA} {p pos:Pos} {es:List Expr} {kk:Nat} {tp:Pos} (hK:X.K=K) (hg:Gl X "zip") (hm:X.mg "zip"=none) (ha:PA X [a,b] ta)
  (hs:starEach [a,b] X.env=[(false,eval a X.env),(false,eval b X.env)]:=by rfl) (hs2:starEach [b] X.env=[(false,eval b X.env)]:=by rfl):PI X (.Tuple es kk tp) (.Call (.Name "zip" p) [a,b] [] pos) (iZip K ta):=by
 subst hK;intro pins s σ H R I h;refine Call_ (V2 I hg hm boot_zip (PyProof.Rows.callWith_type1 (thn (ha pos pins s σ H _ I h) fun us s1 ⟨vs,H1,I1,r1,q1⟩=>?_) (hs.trans (by rw [hs2])) (by rw [hs2]; rfl)));obtain ⟨l1,l2,xs,ys,e,g1,g2,q⟩:=q1;subst e;obtain ⟨u,v,rfl,ru,rv⟩:=Vals.two r1;cases (show u=Value.ref l1 from ru);cases (show v=Value.ref l2 from rv);obtain ⟨its1,_,p1,_⟩:=I1.list g1;obtain ⟨its2,_,p2,_⟩:=I1.list g2;refine call_zip_2 p1.isList p2.isList fun h' a1 a2 a3 a4 a5 a6 hk=>wpAny_pyIter_zip a1 ?_;have lt1:(show Nat from l1) < s1.heap.objs.size:=by obtain ⟨o,_,ho,_⟩:=p1; exact Heap.lt_size ho
 have lt2:(show Nat from l2) < s1.heap.objs.size:=by obtain ⟨o,_,ho,_⟩:=p2; exact Heap.lt_size ho
 have I2:Inv X pins σ H1 { s1 with heap:=h' }:=I1.kept (t':=s1.toks) hk;have D:ZipApart (s1.heap.objs.size + 4) (s1.heap.objs.size + 2) (s1.heap.objs.size + 3) s1.heap.objs.size (s1.heap.objs.size + 1) l1 l2:=by
  generalize s1.heap.objs.size=n at lt1 lt2;have g:∀ a b:Nat,a < b->a≠b:=fun a b q=>Nat.ne_of_lt q;have g':∀ a b:Nat,b < a->a≠b:=fun a b q=>Nat.ne_of_gt q;constructor <;> first | exact g _ _ (Nat.lt_trans lt1 (by omega)) | exact g _ _ (Nat.lt_trans lt2 (by omega)) | exact g _ _ lt1 | exact g _ _ lt2 | exact g _ _ (by omega) | exact g' _ _ (by omega)
 refine ⟨_,[s1.heap.objs.size + 4,s1.heap.objs.size + 2,s1.heap.objs.size + 3,s1.heap.objs.size,s1.heap.objs.size + 1],_,_,H1,rfl,I2,B1n D,⟨a1,a2,⟨_,_,a3⟩,a4,a5⟩,fun b hb=>?_,q⟩;have hb':s1.heap.objs.size<=b:=by
  simp only [List.mem_cons,List.mem_nil_iff,or_false] at hb;rcases hb with rfl | rfl | rfl | rfl | rfl <;> omega
 exact I1.fpOk hb' (I1.hok.fresh hb')
theorem B16 {K:PySem.W.Frag} {a:Expr} {ta:TA} {p pos:Pos} {es:List Expr} {kk:Nat} {tp:Pos} (hK:X.K=K) (hg:Gl X "enumerate") (hm:X.mg "enumerate"=none) (ha:PA X [a] ta)
  (hs:starEach [a] X.env=[(false,eval a X.env)]:=by rfl):PI X (.Tuple es kk tp) (.Call (.Name "enumerate" p) [a] [] pos) (B8b K ta):=by
 subst hK;intro pins s σ H R I h;refine Call_ (V2 I hg hm boot_enumerate (PyProof.Rows.callWith_type1 (thn (ha pos pins s σ H _ I h) fun us s1 ⟨vs,H1,I1,r1,q1⟩=>?_) hs rfl));obtain ⟨l,xs,e,g1,q⟩:=q1;subst e;cases r1 with
 | cons r rr =>
  cases rr;cases r;obtain ⟨its1,_,p1,_⟩:=I1.list g1;refine call_enumerate_list p1.isList fun h' a1 a2 a3 hk=>wpAny_pyIter_enum a1 ?_;have I2:Inv X pins σ H1 { s1 with heap:=h' }:=I1.kept (t':=s1.toks) hk;refine ⟨_,[s1.heap.objs.size + 1,s1.heap.objs.size],_,_,H1,rfl,I2,A6b (Nat.succ_ne_self _),⟨⟨_,a1⟩,a2⟩,fun b hb=>?_,q⟩;have hb':s1.heap.objs.size<=b:=by
   simp only [List.mem_cons,List.mem_nil_iff,or_false] at hb;rcases hb with rfl | rfl <;> omega
  exact I1.fpOk hb' (I1.hok.fresh hb')
theorem A3l {K:PySem.W.Frag} {a b:Expr} {ta:TA} {p pos:Pos} {es:List Expr} {kk:Nat} {tp:Pos} (hK:X.K=K) (hg:Gl X "zip") (hm:X.mg "zip"=none) (ha:QA X [a,b] ta)
  (hs:starEach [a,b] X.env=[(false,eval a X.env),(false,eval b X.env)]:=by rfl) (hs2:starEach [b] X.env=[(false,eval b X.env)]:=by rfl):QI X (.Tuple es kk tp) (.Call (.Name "zip" p) [a,b] [] pos) (iZip K ta):=⟨B62 hK hg hm ha.out hs hs2⟩
theorem A0v {K:PySem.W.Frag} {a:Expr} {ta:TA} {p pos:Pos} {es:List Expr} {kk:Nat} {tp:Pos} (hK:X.K=K) (hg:Gl X "enumerate") (hm:X.mg "enumerate"=none) (ha:QA X [a] ta)
  (hs:starEach [a] X.env=[(false,eval a X.env)]:=by rfl):QI X (.Tuple es kk tp) (.Call (.Name "enumerate" p) [a] [] pos) (B8b K ta):=⟨B16 hK hg hm ha.out hs⟩
end
end L2
namespace Pu
open PySem L2 My Prf
class RL (K:Frag) (te:TE) (pl:outParam PAr):Prop where
 ok:∀ (c:Ct) (w:Wd) (env:PEnv) (σ:St) (Qp:LP->PEnv->Prop) (Q:VK),c.K=K->EnvOk c w env σ->pl env Qp->(∀ v xs env' w',EnvOk c w' env' σ->Lw w w'->VR c w' v (.bor xs)->Qp xs env'->Q v w'.H)->te σ w.H Q
def B98 (pd:PDt) (env:PEnv) (Q:LP->PEnv->Prop):Prop:=pd env fun x e=>asL x fun xs=>Q xs e
def B7m (i:Nat) (env:PEnv) (Q:LP->PEnv->Prop):Prop:=match env[i]? with
 | some (some (.d x))=>asL x fun xs=>Q xs env
 | some (some (.own xs))=>Q xs (env.set i (some (.d (.list xs))))
 | some (some (.bor xs))=>Q xs env
 | _=>False
instance rl_var {K:Frag} {i:Nat}:RL K (tVar i) (B7m i) where
 ok:=by
  rintro c w env σ Qp Q rfl E p k;unfold B7m at p;split at p
  ·rename_i x e;obtain ⟨v,h1,h2⟩:=E.at' i _ e;unfold asL at p;split at p
   ·exact ⟨v,h1,k v _ env w E (Lw.refl w) (.inl h2) p⟩
   ·exact p.elim
  ·rename_i xs e;obtain ⟨w',v,e',hv,E',l,d⟩:=E.frz e;refine ⟨v,hv,?_⟩;rw [<- e'];exact k v _ _ w' E' l (.inl d) p
  ·rename_i xs e;obtain ⟨v,h1,h2⟩:=E.at' i _ e;exact ⟨v,h1,k v _ env w E (Lw.refl w) h2 p⟩
  ·exact p.elim
inductive Brs (c:Ct) (w:Wd):List V->List LP->Prop
 | nil:Brs c w [] []
 | cons {v:V} {xs:LP} {vs:List V} {xss:List LP}:VR c w v (.bor xs)->Brs c w vs xss->Brs c w (v :: vs) (xs :: xss)
theorem B22 {c:Ct} {w w':Wd} {v:V} {xs:LP} (s:Same w.F w'.F) (h:VR c w v (.bor xs)):VR c w' v (.bor xs):=by
 rcases h with h | ⟨l,vs,e,h1,h2,h3⟩
 ·exact .inl (Den.same s h)
 ·exact .inr ⟨l,vs,e,h1,h2,DenAll.same s h3⟩
class RLs (K:Frag) (ta:TA) (pa:outParam (PEnv->(List LP->PEnv->Prop)->Prop)):Prop where
 ok:∀ (c:Ct) (w:Wd) (env:PEnv) (σ:St) (Qp:List LP->PEnv->Prop) (Q:List V->Hpp->Prop),c.K=K->EnvOk c w env σ->pa env Qp->(∀ vs xss env' w',EnvOk c w' env' σ->Lw w w'->Brs c w' vs xss->Qp xss env'->Q vs w'.H)->ta σ w.H Q
def pLsN (env:PEnv) (Q:List LP->PEnv->Prop):Prop:=Q [] env
def pLsC (pl:PAr) (pr:PEnv->(List LP->PEnv->Prop)->Prop) (env:PEnv) (Q:List LP->PEnv->Prop):Prop:=pl env fun xs e1=>pr e1 fun xss e2=>Q (xs :: xss) e2
instance rls_nil {K:Frag}:RLs K tNil pLsN:=⟨fun c w env σ Qp Q _ E p k=>k [] [] env w E (Lw.refl w) .nil p⟩
instance rls_cons {K:Frag} {te:TE} {tr:TA} {pl:PAr} {pr:PEnv->(List LP->PEnv->Prop)->Prop} [hl:RL K te pl] [hr:RLs K tr pr]:RLs K (N2 te tr) (pLsC pl pr) where
 ok:=by
  rintro c w env σ Qp Q rfl E p k;refine hl.ok c w env σ _ _ rfl E p fun v xs e1 w1 E1 l1 b1 q1=>?_;refine hr.ok c w1 e1 σ _ _ rfl E1 q1 fun vs xss e2 w2 E2 l2 b2 q2=>?_;exact k _ _ e2 w2 E2 (l1.trans l2) (.cons (B22 l2.f b1) b2) q2
theorem A0i {c:Ct} {w:Wd} {v:V} {xs:LP} (h:VR c w v (.bor xs)):∃ l vs,v=.ref l/\DenAll c.K w.F vs xs/\∀ w',w'.Ok->Le c.w0 w'->Same w.F w'.F->SqL c.K w'.H l vs:=by
 rcases h with h | ⟨l,vs,e,h1,h2,h3⟩
 ·obtain ⟨a,vs,e,g1,g2⟩:=Den.lstE h;exact ⟨a,vs,e,g2,fun w' ok _ s=>(s.trans ok.sub).seq g1⟩
 ·exact ⟨l,vs,e,h3,fun w' _ l' _=>SqL.of (l'.h _ _ h1 h2)⟩
def zipD (xs ys:LP):LP:=List.zipWith (fun x y=>.tuple [x,y]) xs ys
def A0g (xs:LP):LP:=xs.zipIdx.map fun p=>.tuple [.int (p.2:Int),p.1]
theorem B1l {xs ys:LP} {i:Nat} {x:PyData} (h:(zipD xs ys)[i]?=some x):∃ a b,xs[i]?=some a/\ys[i]?=some b/\x=.tuple [a,b]:=by
 unfold zipD at h;rw [List.getElem?_zipWith] at h;cases h1:xs[i]? with
 | none=>rw [h1] at h; cases h
 | some a=>cases h2:ys[i]? with
  | none=>rw [h1,h2] at h; cases h
  | some b=>rw [h1,h2] at h; cases h; exact ⟨a,b,rfl,rfl,rfl⟩
theorem S7 {xs ys:LP}:(zipD xs ys).length=min xs.length ys.length:=List.length_zipWith
theorem B0u {xs:LP} {i:Nat} {x:PyData} (h:(A0g xs)[i]?=some x):∃ a,xs[i]?=some a/\x=.tuple [.int (i:Int),a]:=by
 unfold A0g at h;rw [List.getElem?_map,List.getElem?_zipIdx] at h;cases h1:xs[i]? with
 | none=>rw [h1] at h; cases h
 | some a=>rw [h1] at h; cases h; exact ⟨a,rfl,by simp⟩
theorem A1n {xs:LP}:(A0g xs).length=xs.length:=by unfold A0g; rw [List.length_map,List.length_zipIdx]
def pZip (pa:PEnv->(List LP->PEnv->Prop)->Prop) (env:PEnv) (Q:LP->PEnv->Prop):Prop:=pa env fun xss e=>match xss with
 | [xs,ys]=>Q (zipD xs ys) e
 | _=>False
def C0f (pa:PEnv->(List LP->PEnv->Prop)->Prop) (env:PEnv) (Q:LP->PEnv->Prop):Prop:=pa env fun xss e=>match xss with
 | [xs]=>Q (A0g xs) e
 | _=>False
instance ri_zip {K:Frag} {ta:TA} {pa:PEnv->(List LP->PEnv->Prop)->Prop} [ha:RLs K ta pa]:RI K (iZip K ta) (pZip pa) where
 ok:=by
  rintro c w env σ Qp R rfl E p k;refine ha.ok c w env σ _ _ rfl E p fun vs xss e1 w1 E1 l1 b1 q1=>?_;split at q1
  ·rename_i xs ys;cases b1 with | cons h t=>cases t with | cons h' t =>
    cases t;obtain ⟨a1,us1,rfl,d1,s1⟩:=A0i h;obtain ⟨a2,us2,rfl,d2,s2⟩:=A0i h';refine ⟨a1,a2,us1,us2,rfl,s1 w1 E1.wok E1.le0 (Same.refl _),s2 w1 E1.wok E1.le0 (Same.refl _),k _ _ e1 w1 E1 l1 ?_ q1⟩;intro w' ok l s;have g1:=s1 w' ok l s;have g2:=s2 w' ok l s;have n1:=d1.len;have n2:=d2.len;rw [S7];refine ⟨fun i hi=>⟨us1,us2,us1[i]'(by omega),us2[i]'(by omega),g1,g2,List.getElem?_eq_getElem _,List.getElem?_eq_getElem _⟩,⟨us1,us2,g1,g2,by omega⟩,fun i v H' y hi=>?_⟩;obtain ⟨T,x,y',rfl,hT,rfl,y1,y2⟩:=y;obtain ⟨dx,x1,x2⟩:=d1.get (y1 us1 g1);obtain ⟨dy,y3,y4⟩:=d2.get (y2 us2 g2);refine ⟨w'.tup T (.tup [x,y']),.tuple [dx,dy],rfl,Wd.tup_ok ok hT,Wd.tup_le ok hT,?_,?_⟩
    ·unfold zipD; rw [List.getElem?_zipWith,x1,y3]
    ·have f:=(Wd.tup_le (o:=.tup [x,y']) ok hT).f;exact .tup (SqD.of D7) (.cons (Den.same (s.trans f) x2) (.cons (Den.same (s.trans f) y4) .nil))
  ·exact q1.elim
instance ri_enum {K:Frag} {ta:TA} {pa:PEnv->(List LP->PEnv->Prop)->Prop} [ha:RLs K ta pa]:RI K (B8b K ta) (C0f pa) where
 ok:=by
  rintro c w env σ Qp R rfl E p k;refine ha.ok c w env σ _ _ rfl E p fun vs xss e1 w1 E1 l1 b1 q1=>?_;split at q1
  ·rename_i xs;cases b1 with | cons h t =>
    cases t;obtain ⟨a1,us1,rfl,d1,s1⟩:=A0i h;refine ⟨a1,us1,rfl,s1 w1 E1.wok E1.le0 (Same.refl _),k _ _ e1 w1 E1 l1 ?_ q1⟩;intro w' ok l s;have g1:=s1 w' ok l s;have n1:=d1.len;rw [A1n];refine ⟨fun i hi=>⟨us1,us1[i]'(by omega),g1,List.getElem?_eq_getElem _⟩,⟨us1,g1,by omega⟩,fun i v H' y hi=>?_⟩;obtain ⟨T,x,rfl,hT,rfl,y1⟩:=y;obtain ⟨dx,x1,x2⟩:=d1.get (y1 us1 g1);refine ⟨w'.tup T (.tup [.int i,x]),.tuple [.int i,dx],rfl,Wd.tup_ok ok hT,Wd.tup_le ok hT,?_,?_⟩
    ·unfold A0g; rw [List.getElem?_map,List.getElem?_zipIdx,x1]; simp
    ·have f:=(Wd.tup_le (o:=.tup [.int i,x]) ok hT).f;exact .tup (SqD.of D7) (.cons (.int _) (.cons (Den.same (s.trans f) x2) .nil))
  ·exact q1.elim
end Pu
namespace Pu
open PySem L2 My Prf
theorem T3 {n:Nat} {pr:LP->PEnv->(PEnv->Prop)->Prop} {xs:LP} {env:PEnv} {Q:PEnv->Prop}:qTup n pr (.tuple xs) env Q=(xs.length=n/\pr xs env Q):=rfl
theorem A3m {pr:LP->PEnv->(PEnv->Prop)->Prop} {c:Rat × Rat} {env:PEnv} {Q:PEnv->Prop}:qTup 2 pr (dcn c) env Q=pr [dq c.1,dq c.2] env Q:=by
 show (2=2/\_)=_; simp
theorem A2u {c:Rat × Rat}:(dcn c).canLay0=true:=rfl
theorem B0z {c:Rat × Rat}:(dcn c).depth=2:=rfl
theorem B0t {c:Rat × Rat}:PyData.eqv (dcn c) (dcn c)=true:=PySem.SeqAt.eqv_refl _ A2u
theorem A4r {c:Rat × Rat}:isNo (dcn c)=false:=rfl
end Pu
namespace L2
open PySem PySem.Spec PyProof.Rows
section
variable {prog:Program} {w:World} {A:Around} {E:Value->Shared->Prop} {s:Shared}
end
end L2
namespace L2
open PySem PySem.Spec PyProof.Rows
section
variable {prog:Program} {w:World} {A:Around} {E:Value->Shared->Prop} {s:Shared}
end
section
variable {X:Cx}
end
end L2
namespace Pu
open PySem L2 My Prf
def B8n (xs:LP) (k:LP->Prop):Prop:=match xs with
 | [.list xs,.list ys]=>k (zipD xs ys)
 | [.tuple xs,.tuple ys]=>k (zipD xs ys)
 | _=>False
def B9r (pa:PAr) (env:PEnv) (Q:LP->PEnv->Prop):Prop:=pa env fun xs e=>B8n xs fun zs=>Q zs e
end Pu
namespace Pu
open PySem L2 My Prf
theorem Y0 {xs ys:LP} {k:LP->Prop}:B8n [.list xs,.list ys] k=k (zipD xs ys):=rfl
theorem A14 {xs ys:LP} {k:LP->Prop}:B8n [.tuple xs,.tuple ys] k=k (zipD xs ys):=rfl
theorem A4x {a b:Bool}:PyData.eqv (.bool a) (.bool b)=decide (a=b):=by cases a <;> cases b <;> rfl
theorem B0r {s:Str}:PyData.eqv (.str s) (.str s)=true:=by show (s == s)=true; simp
theorem B5f:kitB "int" "str"=some false:=by decide +kernel
theorem B5i:kitB "bool" "str"=some false:=by decide +kernel
theorem B5c:kitB "NoneType" "str"=some false:=by decide +kernel
end Pu
namespace Pu
open PySem L2 My Prf
def D2:LP->OT
 | []=>.nil
 | x :: r=>.cons (.leaf x) (D2 r)
def OT.len:OT->Nat
 | .cons _ t=>t.len + 1
 | .nil=>0
 | _=>1
def OT.kid:OT->Nat->Option OT
 | .cons h _,0=>some h
 | .cons _ t,n + 1=>t.kid n
 | _,_=>none
theorem V1:∀ xs,(D2 xs).fp=[]
 | []=>rfl
 | _ :: r=>by show []++(D2 r).fp=[]; rw [V1 r]; rfl
theorem R8:∀ xs,(D2 xs).dat=xs
 | []=>rfl
 | x :: r=>by show [x]++(D2 r).dat=x :: r; rw [R8 r]; rfl
theorem Q9 {K:Frag} {w:Wd}:∀ {vs:List V} {xs:LP},DenAll K w.F vs xs->Tre K w (D2 xs) vs
 | _,_,.nil=>rfl
 | _,_,.cons h t=>⟨_,_,rfl,⟨_,rfl,h⟩,Q9 t⟩
theorem P3 {K:Frag} {w:Wd}:∀ {xs:LP} {vs:List V},Tre K w (D2 xs) vs->DenAll K w.F vs xs
 | [],_,e=>by cases (show _=[] from e); exact .nil
 | _ :: _,_,⟨_,_,rfl,⟨_,e,h⟩,t⟩=>by cases e; exact .cons h (P3 t)
noncomputable def hm (w:Wd):Hpp:=fun a=>open Classical in if w.M a then none else w.H a
theorem V4 {w:Wd} {a:Addr} {o:HO} (h:w.H a=some o) (n:¬ w.M a):hm w a=some o:=by unfold hm; rw [if_neg n]; exact h
theorem B5o {w:Wd} {a:Addr} {o:HO} (h:hm w a=some o):w.H a=some o/\¬ w.M a:=by
 unfold hm at h; split at h
 ·cases h
 ·exact ⟨h,‹_›⟩
theorem hm_F {w:Wd} (ok:w.Ok):Same w.F (hm w):=fun a o h=>V4 (ok.sub a o h) fun z=>by rw [ok.nf a z] at h; cases h
theorem C1s {w w':Wd} (l:Lw w w'):Same (hm w) (hm w'):=fun a o h=>by
 obtain ⟨h1,h2⟩:=B5o h;exact V4 (l.h _ _ h1 h2) (l.nm (by rw [h1]; simp) h2)
theorem Tre.den {K:Frag} {w:Wd} (ok:w.Ok):∀ {t:OT} {vs:List V},Tre K w t vs->(∀ a ∈ t.fp,¬ w.M a)->DenAll K (hm w) vs t.dat
 | .leaf _,_,⟨_,e,h⟩,_=>by rw [e]; exact .cons (Den.same (hm_F ok) h) .nil
 | .nd true a _,_,⟨e,_,h,k⟩,n=>by rw [e]; exact .cons (.lst (SqL.of (V4 h (n a (by simp [OT.fp])))) (Tre.den ok k fun q hq=>n q (by simp [OT.fp,hq]))) .nil
 | .nd false a _,_,⟨e,_,h,k⟩,n=>by rw [e]; exact .cons (.tup (SqD.of (V4 h (n a (by simp [OT.fp])))) (Tre.den ok k fun q hq=>n q (by simp [OT.fp,hq]))) .nil
 | .nil,_,e,_=>by rw [show _=[] from e]; exact .nil
 | .cons _ _,_,⟨v,r,e,h,t⟩,n=>by
  rw [e];exact (Tre.den ok h fun q hq=>n q (by simp [OT.fp,hq])).app (vs:=[v]) (us:=r) (Tre.den ok t fun q hq=>n q (by simp [OT.fp,hq]))
def VH (K:Frag) (w:Wd) (v:V) (x:PyData):Prop:=Den K (hm w) v x
theorem VR.vh {c:Ct} {w:Wd} {v:V} {t:OT} {x:PyData} (ok:w.Ok) (h:VR c w v (.tr t)) (e:t.dat=[x]):VH c.K w v x:=by
 have:=h.1.den ok fun a ha=>(h.2.1 a ha).2.2.1;rw [e] at this;cases this with | cons a _=>exact a
theorem VV.vh {K:Frag} {w:Wd} {v:V} {x:PyData} (ok:w.Ok) (h:VV K w v x):VH K w v x:=by
 rcases h with h | ⟨l,vs,xs,rfl,rfl,h1,h2,h3⟩
 ·exact Den.same (hm_F ok) h
 ·exact .lst (SqL.of (V4 h1 h2)) (DenAll.same (hm_F ok) h3)
class RH (K:Frag) (te:TE) (pd:outParam PDt):Prop where
 ok:∀ (c:Ct) (w:Wd) (env:PEnv) (σ:St) (Qp:PyData->PEnv->Prop) (Q:VK),c.K=K->EnvOk c w env σ->pd env Qp->(∀ v x env' w',EnvOk c w' env' σ->Lw w w'->VH K w' v x->Qp x env'->Q v w'.H)->te σ w.H Q
def B7d (i:Nat) (env:PEnv) (Q:PyData->PEnv->Prop):Prop:=match env[i]? with
 | some (some (.d x))=>Q x env
 | some (some (.own xs))=>Q (.list xs) env
 | some (some (.bor xs))=>Q (.list xs) env
 | some (some (.tr t))=>∃ x,t.dat=[x]/\Q x env
 | _=>False
instance rh_var {K:Frag} {i:Nat}:RH K (tVar i) (B7d i) where
 ok:=by
  rintro c w env σ Qp Q rfl E p k;unfold B7d at p;split at p
  ·rename_i x e;obtain ⟨v,h1,h2⟩:=E.at' i _ e;exact ⟨v,h1,k v _ env w E (Lw.refl w) (Den.same (hm_F E.wok) h2) p⟩
  ·rename_i xs e;obtain ⟨v,h1,l,vs,e',g1,g2,g3,g4,g5⟩:=E.at' i _ e;exact ⟨v,h1,k v _ env w E (Lw.refl w) (VV.vh E.wok (.inr ⟨l,vs,xs,e',rfl,g1,g3,g5⟩)) p⟩
  ·rename_i xs e;obtain ⟨v,h1,h2⟩:=E.at' i _ e;exact ⟨v,h1,k v _ env w E (Lw.refl w) ((h2.vv E.le0).vh E.wok) p⟩
  ·rename_i t e;obtain ⟨x,e1,q⟩:=p;obtain ⟨v,h1,h2⟩:=E.at' i _ e;exact ⟨v,h1,k v _ env w E (Lw.refl w) (h2.vh E.wok e1) q⟩
  ·exact p.elim
def C0l (psp:PSp) (pa pb:PDt) (env:PEnv) (Q:SV->PEnv->Prop):Prop:=pa env fun x e=>pb e fun y e2=>psp [.d x,.d y] fun s=>∃ b,s=.d (.bool b)/\Q (.d (.bool b)) e2
def SV.ot (s:SV) (k:OT->Prop):Prop:=match s with
 | .d x=>k (.leaf x)
 | .own xs=>∀ a,k (.nd true a (D2 xs))
 | .tr t=>k t
 | _=>False
def Ct.with (c:Ct) (t:OT):Ct:=⟨c.K,c.w0,fun a=>c.Z a\/a ∈ t.fp⟩
def B97 (env:PEnv) (Q:OT->PEnv->Prop):Prop:=Q .nil env
def B4e (pe:PX) (pr:PEnv->(OT->PEnv->Prop)->Prop) (env:PEnv) (Q:OT->PEnv->Prop):Prop:=pe env fun s e1=>s.ot fun t=>pr e1 fun r e2=>(∀ a ∈ r.fp,a ∉ t.fp)->Q (.cons t r) e2
def B9x (b:Bool) (pa:PEnv->(OT->PEnv->Prop)->Prop) (env:PEnv) (Q:SV->PEnv->Prop):Prop:=pa env fun t e=>t.len<=1000/\∀ a,a ∉ t.fp->Q (.tr (.nd b a t)) e
def asTr (o:Option (Option SV)) (k:OT->Prop):Prop:=match o with
 | some (some (.tr t))=>k t
 | _=>False
def pKid (i:Nat) (n:Int) (env:PEnv) (Q:PyData->PEnv->Prop):Prop:=asTr env[i]? fun t=>∃ (m:Nat) (b:Bool) (a a':Addr) (ks:OT) (xs:LP),n=m/\t=.nd b a ks/\ks.kid m=some (.nd true a' (D2 xs))/\Q (.list xs) env
def A77 (i:Nat) (n:Int) (D:PEnds) (env:PEnv):Prop:=asTr env[i]? fun t=>∃ (m:Nat) (b:Bool) (a a':Addr) (ks ls:OT),n=m/\t=.nd b a ks/\ks.kid m=some (.nd true a' ls)/\D.nx (env.set i (some (.tr (OT.put a' .nil t))))
end Pu
namespace L2
open PySem PySem.Spec PyProof.Rows
section
variable {X:Cx} {e:Expr}
end
end L2
namespace Pu
open PySem L2 My Prf
def SV.asH (s:SV) (k:PyData->Prop):Prop:=match s with
 | .d x=>k x
 | .own xs=>k (.list xs)
 | .tr t=>∃ x,t.dat=[x]/\k x
 | _=>False
def B7b (pe:PX) (env:PEnv) (Q:PyData->PEnv->Prop):Prop:=pe env fun s e=>s.asH fun x=>Q x e
instance (priority:=200) rh_re {K:Frag} {te:TE} {pe:PX} [h:RE K te pe]:RH K te (B7b pe) where
 ok:=by
  rintro c w env σ Qp Q rfl E p k;refine h.ok c w env σ _ Q rfl E p fun v s env' w' R q=>?_;have E':=R.ev;cases s with
  | d x=>exact k v x env' w' E' R.lw (Den.same (hm_F E'.wok) R.val) q
  | own xs =>
   obtain ⟨l,vs,e',g1,g2,g3,g4,g5⟩:=R.val;exact k v _ env' w' E' R.lw (VV.vh E'.wok (.inr ⟨l,vs,xs,e',rfl,g1,g3,g5⟩)) q
  | tr t =>
   obtain ⟨x,e,q⟩:=q;exact k v x env' w' E' R.lw (VR.vh E'.wok R.val e) q
  | bor xs=>exact (show False from q).elim
  | bt t=>exact (show False from q).elim
  | al t=>exact (show False from q).elim
  | dk t=>exact (show False from q).elim
  | st=>exact (show False from q).elim
theorem VR.btv {c:Ct} {w:Wd} {v:V} {t:OT} (l:Le c.w0 w) (h:VR c w v (.bt t)):TV c.K w v t:=by
 have lw:Lw ⟨c.w0.M,c.w0.H,w.F⟩ w:=⟨Same.refl _,l.h,l.m,l.mn,l.dom⟩;exact ⟨h.1.mono lw h.2,fun a ha=>l.nm (h.1.has a ha) (h.2 a ha)⟩
class RTr (K:Frag) (te:TE) (pb:outParam (PEnv->(OT->PEnv->Prop)->Prop)):Prop where
 ok:∀ (c:Ct) (w:Wd) (env:PEnv) (σ:St) (Qp:OT->PEnv->Prop) (Q:VK),c.K=K->EnvOk c w env σ->pb env Qp->(∀ v t env' w',EnvOk c w' env' σ->Lw w w'->TV K w' v t->Qp t env'->Q v w'.H)->te σ w.H Q
def pTr (pe:PX) (env:PEnv) (Q:OT->PEnv->Prop):Prop:=pe env fun s e=>s.ot fun t=>Q t e
def pTrV (i:Nat) (env:PEnv) (Q:OT->PEnv->Prop):Prop:=match env[i]? with
 | some (some (.d x))=>Q (.leaf x) env
 | some (some (.tr t))=>Q t env
 | some (some (.bt t))=>Q t env
 | _=>False
instance rtr_var {K:Frag} {i:Nat}:RTr K (tVar i) (pTrV i) where
 ok:=by
  rintro c w env σ Qp Q rfl E p k;unfold pTrV at p;split at p
  ·rename_i x e;obtain ⟨v,h1,h2⟩:=E.at' i _ e;exact ⟨v,h1,k v (.leaf x) env w E (Lw.refl w) ⟨⟨v,rfl,h2⟩,fun a z=>nomatch z⟩ p⟩
  ·rename_i t e;obtain ⟨v,h1,h2⟩:=E.at' i _ e;exact ⟨v,h1,k v _ env w E (Lw.refl w) ⟨h2.1,fun a ha=>(h2.2.1 a ha).2.2.1⟩ p⟩
  ·rename_i t e;obtain ⟨v,h1,h2⟩:=E.at' i _ e;exact ⟨v,h1,k v _ env w E (Lw.refl w) (h2.btv E.le0) p⟩
  ·exact p.elim
def B4g (pb:PEnv->(OT->PEnv->Prop)->Prop) (pr:PAs) (env:PEnv) (Q:List SV->PEnv->Prop):Prop:=pb env fun t e1=>pr e1 fun as e2=>Q (.bt t :: as) e2
def OT.lvs:OT->Option LP
 | .nil=>some []
 | .cons (.leaf x) t=>t.lvs.map (x :: ·)
 | _=>none
theorem R7:∀ xs,(D2 xs).lvs=some xs
 | []=>rfl
 | x :: r=>by show (D2 r).lvs.map _=_; rw [R7 r]; rfl
theorem X6:∀ {t:OT} {xs:LP},t.lvs=some xs->t=D2 xs
 | .nil,_,h=>by cases h; rfl
 | .cons (.leaf x) t,xs,h=>by
  have h':t.lvs.map (x :: ·)=some xs:=h;cases q:t.lvs with
  | none=>rw [q] at h'; cases h'
  | some ys=>rw [q] at h'; cases h'; rw [X6 q]; rfl
def OT.sv:OT->SV
 | .leaf (.list xs)=>.bor xs
 | .leaf x=>.d x
 | .nd true a k=>match k.lvs with
  | some xs=>.bor xs
  | none=>.bt (.nd true a k)
 | t=>.bt t
theorem A0l {a:Addr} {xs:LP}:OT.sv (.nd true a (D2 xs))=.bor xs:=by show (match (D2 xs).lvs with | some xs=>SV.bor xs | none=>_)=_; rw [R7]
theorem VR.sv {c:Ct} {w:Wd} {v:V} {u:OT} (h:VR c w v (.bt u)):VR c w v u.sv:=by
 unfold OT.sv;split
 ·obtain ⟨⟨v',e,h⟩,_⟩:=h;cases e; exact .inl h
 ·obtain ⟨⟨v',e,h⟩,_⟩:=h;cases e; exact h
 ·rename_i a k;split
  ·rename_i xs q;obtain ⟨⟨e,us,h1,h2⟩,h3⟩:=h;cases e;rw [X6 q] at h2;exact .inr ⟨a,us,rfl,h1,h3 a (by simp [OT.fp]),P3 (w:=⟨c.w0.M,c.w0.H,w.F⟩) h2⟩
  ·exact h
 ·exact h
theorem B3e {c:Ct} {env:PEnv} {σ:St} {v:V}:∀ {u:OT},New c env σ v u.sv:=by
 intro u a f;unfold OT.sv at f;split at f
 ·exact f.elim
 ·exact f.elim
 ·split at f
  ·exact f.elim
  ·exact f.elim
 ·exact f.elim
def OT.pair:OT->Option (OT × OT)
 | .nd false _ (.cons u (.cons v .nil))=>some (u,v)
 | .leaf (.tuple [x,y])=>some (.leaf x,.leaf y)
 | _=>none
def pUnp (i a b:Nat) (pr:LP->PEnv->(PEnv->Prop)->Prop) (D:PEnds) (env:PEnv):Prop:=match env[i]? with
 | some (some (.bt t))=>∃ u v,t.pair=some (u,v)/\D.nx ((env.set a (some u.sv)).set b (some v.sv))
 | some (some (.d x))=>qTup 2 pr x env D.nx
 | _=>False
theorem B8v {c:Ct} {w:Wd} {v:V} {t u1 u2:OT} (ok:w.Ok) (l:Le c.w0 w) (h:VR c w v (.bt t)) (e:t.pair=some (u1,u2)):∃ p x y,v=.ref p/\SqT c.K w.H p [x,y]/\VR c w x (.bt u1)/\VR c w y (.bt u2):=by
 unfold OT.pair at e;split at e
 ·rename_i a k1 k2;cases e;obtain ⟨⟨ev,us,h1,x,r,e1,hx,y,r2,e2,hy,e3⟩,h3⟩:=h;cases ev;have e3':r2=[]:=e3;subst e1; subst e2; subst e3';exact ⟨a,x,y,rfl,SqT.of (l.h _ _ h1 (h3 a (by simp [OT.fp]))),⟨hx,fun q hq=>h3 q (by simp [OT.fp,hq])⟩,⟨hy,fun q hq=>h3 q (by simp [OT.fp,hq])⟩⟩
 ·cases e;obtain ⟨⟨v',ev,h⟩,_⟩:=h;cases ev;obtain ⟨p,vs,rfl,h1,h2⟩:=Den.tupE h;cases h2 with
  | cons hx t=>cases t with
   | cons hy t =>
    cases t;exact ⟨p,_,_,rfl,SqT.same ok.sub h1,⟨⟨_,rfl,hx⟩,fun q hq=>nomatch hq⟩,⟨⟨_,rfl,hy⟩,fun q hq=>nomatch hq⟩⟩
 ·cases e
instance (priority:=high) rs_unp {K:Frag} {i a b:Nat} {pr:LP->PEnv->(PEnv->Prop)->Prop} [hr:RGs K (A2v (W3 a) (A2v (W3 b) gNil)) pr]:RS K (tAsg (tVar i) (gTup K 2 (A2v (W3 a) (A2v (W3 b) gNil)))) (pUnp i a b pr) where
 ok:=by
  rintro c w env σ Dp D rfl E h p;unfold pUnp at p;split at p
  ·rename_i t e;obtain ⟨u1,u2,hp,q⟩:=p;obtain ⟨v,h1,h2⟩:=E.at' i _ e;obtain ⟨p,x,y,rfl,hs,hx,hy⟩:=B8v E.wok E.le0 h2 hp;refine ⟨_,h1,p,[x,y],rfl,hs,rfl,x,[y],rfl,y,[],rfl,rfl,?_⟩;have E1:=E.set (i:=a) hx.sv B3e;have E2:=E1.set (i:=b) hy.sv B3e;exact h.nx _ _ w E2 (Same.refl _) q
  ·rename_i x e;obtain ⟨v,h1,h2⟩:=E.at' i _ e;refine ⟨v,h1,?_⟩;exact rg_tup.ok c w env σ v x _ _ rfl E h2 p fun e2 σ2 E2 q2=>h.nx e2 σ2 w E2 (Same.refl _) q2
  ·exact p.elim
def C28 (i:Nat) (n:Int) (j:Nat) (D:PEnds) (env:PEnv):Prop:=match env[i]? with
 | some (some (.bt t))=>∃ u v,t.pair=some (u,v)/\((n=0/\D.nx (env.set j (some u.sv)))\/(n=1/\D.nx (env.set j (some v.sv))))
 | _=>False
end Pu
namespace Pu
open PySem L2 My Prf
theorem fdE {a:Int} {n:Nat} (h:(n:Int) ∣ a):a.fdiv n=a / n:=Int.fdiv_eq_ediv_of_dvd h
theorem fdN (a n:Nat):(a:Int).fdiv (n:Int)=((a / n:Nat):Int):=by
 rw [Int.fdiv_eq_ediv_of_nonneg _ (Int.natCast_nonneg n)]; rfl
theorem C07 (p q:Rat):p.num.fdiv ((Int.gcd p.num q.den:Nat):Int) * q.num.fdiv ((Int.gcd q.num p.den:Nat):Int)=(p * q).num:=by
 have e:p * q=Rat.mul p q:=rfl;rw [e]; unfold Rat.mul;show _=p.num.divExact _ _ * q.num.divExact _ _;rw [Int.divExact_eq_ediv,Int.divExact_eq_ediv,fdE (Int.gcd_dvd_left ..),fdE (Int.gcd_dvd_left ..)];rfl
theorem C08 (p q:Rat):(p.den:Int).fdiv ((Int.gcd q.num p.den:Nat):Int) * (q.den:Int).fdiv ((Int.gcd p.num q.den:Nat):Int)=((p * q).den:Int):=by
 have e:p * q=Rat.mul p q:=rfl;rw [e]; unfold Rat.mul;show _=((p.den.divExact _ _ * q.den.divExact _ _:Nat):Int);rw [Nat.divExact_eq_div,Nat.divExact_eq_div,fdN,fdN];rfl
theorem B61 (p q:Rat) (g t:Int) (hg:g=((Int.gcd (p.den:Int) (q.den:Int):Nat):Int)) (ht:t=p.num * (q.den:Int).fdiv g + q.num * (p.den:Int).fdiv g) :
  t.fdiv ((Int.gcd t g:Nat):Int)=(p + q).num/\(p.den:Int).fdiv g * (q.den:Int).fdiv ((Int.gcd t g:Nat):Int)=((p + q).den:Int):=by
 have e:p + q=Rat.add p q:=rfl;have hgn:Int.gcd (p.den:Int) (q.den:Int)=Nat.gcd p.den q.den:=rfl;rw [hgn] at hg;rw [e]; unfold Rat.add;dsimp only;split
 ·rename_i h1;rw [h1] at hg;subst hg;have ht':t=p.num * q.den + q.num * p.den:=by rw [ht,fdN,fdN]; simp
  have h2:Int.gcd t ((1:Nat):Int)=1:=by simp
  rw [h2,ht'];refine ⟨by simp,?_⟩;rw [fdN,fdN]; simp
 ·rename_i h1;rw [Rat.maybeNormalize_eq];rw [hg,fdN,fdN] at ht;have h3:Int.gcd t g=t.natAbs.gcd (p.den.gcd q.den):=by rw [hg]; rfl
  rw [h3];subst ht;refine ⟨?_,?_⟩
  ·show _=Int.divExact _ _ (Int.gcd_dvd_left _ ((p.den.gcd q.den:Nat):Int));rw [Int.divExact_eq_ediv];exact fdE (Int.gcd_dvd_left _ ((p.den.gcd q.den:Nat):Int))
  ·show _=((_ / _:Nat):Int);rw [hg,fdN,fdN];have hd:(p.num * ((q.den / p.den.gcd q.den:Nat):Int) + q.num * ((p.den / p.den.gcd q.den:Nat):Int)).natAbs.gcd (p.den.gcd q.den) ∣ q.den:=Nat.dvd_trans (Nat.gcd_dvd_right ..) (Nat.gcd_dvd_right ..);rw [Nat.mul_div_assoc _ hd,Int.natCast_mul]
theorem R9 {t:Int} (q:Rat):((Int.gcd t (q.den:Int):Nat):Int)≠0:=by
 have h:=q.den_nz;intro h0;have h1:Int.gcd t (q.den:Int)=0:=by omega
 have h2:=(Int.gcd_eq_zero_iff.mp h1).2;omega
theorem A4u {t g:Int} (h:g≠0):((Int.gcd t g:Nat):Int)≠0:=by
 intro h0;have h1:Int.gcd t g=0:=by omega
 exact h (Int.gcd_eq_zero_iff.mp h1).2
theorem A1k {k:Nat} {a g:Int} (h:Sm k a) (g1:0<=g):Sm k (a.fdiv g):=by
 unfold Sm at *;rw [Int.fdiv_eq_ediv_of_nonneg _ g1];rcases Int.lt_or_le 0 g with h0 | h0
 ·have h2:=Int.natAbs_ediv_le_natAbs a g;omega
 ·have:g=0:=by omega
  subst this;rw [Int.ediv_zero]; exact Nat.two_pow_pos k
theorem A6y {pr:LP->PEnv->(PEnv->Prop)->Prop} {q:Rat} {env:PEnv} {Q:PEnv->Prop}:qTup 2 pr (dq q) env Q=pr [.int q.num,.int q.den] env Q:=by
 unfold dq; rw [T3]; exact propext ⟨fun h=>h.2,fun h=>⟨rfl,h⟩⟩
theorem C14 (q:Rat):PyData.tuple [.int (-q.num),.int q.den]=dq (-q):=rfl
end Pu
namespace Pu
open PySem L2 My Prf
section
variable {x y:PyData} {xs ys:LP} {i j:Nat} {env e:PEnv} {s:SV} {t:OT}
theorem C2l {k:PyData->Prop}:(SV.d x).asD k=k x:=rfl
theorem C2k {k:PyData->Prop}:(SV.own xs).asD k=k (.list xs):=rfl
def oVar (o:Option (Option SV)) (i:Nat) (env:PEnv) (Q:SV->PEnv->Prop):Prop:=match o with
 | some (some (.d x))=>Q (.d x) env
 | some (some (.own xs))=>Q (.d (.list xs)) (env.set i (some (.d (.list xs))))
 | some (some .st)=>Q .st env
 | _=>False
theorem B3s {Q:SV->PEnv->Prop}:pVar i env Q=oVar env[i]? i env Q:=rfl
theorem B4w {Q:SV->PEnv->Prop}:oVar (some (some (.d x))) i env Q=Q (.d x) env:=rfl
theorem B4v {Q:SV->PEnv->Prop}:oVar (some (some (.own xs))) i env Q=Q (.d (.list xs)) (env.set i (some (.d (.list xs)))):=rfl
theorem B4u {Q:SV->PEnv->Prop}:oVar (some (some .st)) i env Q=Q .st env:=rfl
def B2k (o:Option (Option SV)) (env:PEnv) (Q:PyData->PEnv->Prop):Prop:=match o with
 | some (some (.d x))=>Q x env
 | some (some (.own xs))=>Q (.list xs) env
 | some (some (.bor xs))=>Q (.list xs) env
 | _=>False
theorem A7h {Q:PyData->PEnv->Prop}:B7c i env Q=B2k env[i]? env Q:=rfl
theorem A8o {Q:PyData->PEnv->Prop}:B2k (some (some (.d x))) env Q=Q x env:=rfl
theorem A8n {Q:PyData->PEnv->Prop}:B2k (some (some (.own xs))) env Q=Q (.list xs) env:=rfl
theorem A8p {Q:PyData->PEnv->Prop}:B2k (some (some (.bor xs))) env Q=Q (.list xs) env:=rfl
theorem pI_i {C:Int->Int->Prop} {gd:Int->Int->PyData} {i j:Int} {Q:SV->Prop}:pI C gd (.int i) (.int j) Q=(C i j/\Q (.d (gd i j))):=rfl
theorem C0c {gd:Int->Int->PyData} {i j:Int} {Q:SV->Prop}:pI0 gd (.int i) (.int j) Q=Q (.d (gd i j)):=rfl
theorem pU_i {gd:Int->PyData} {i:Int} {Q:SV->Prop}:pU gd (.int i) Q=Q (.d (gd i)):=rfl
theorem B4q {i:Int} {Q:SV->Prop}:pAbs [.int i] Q=Q (.d (.int (if i < 0 then -i else i))):=rfl
theorem B3z {i j:Int} {Q:SV->Prop}:pMax [.int i,.int j] Q=Q (.d (.int (if j > i then j else i))):=rfl
theorem B3y {i j:Int} {Q:SV->Prop}:pMin [.int i,.int j] Q=Q (.d (.int (if j < i then j else i))):=rfl
theorem B4b {i:Int} {Q:SV->Prop}:pInt [.int i] Q=Q (.d (.int i)):=rfl
theorem B4c {b:Bool} {Q:SV->Prop}:pInt [.bool b] Q=Q (.d (.int (if b then 1 else 0))):=rfl
theorem A3w {Q:SV->Prop}:B30 [.list ys] Q=Q (.own ys):=rfl
theorem A3v {Q:SV->Prop}:B30 [.tuple ys] Q=Q (.own ys):=rfl
def oKit (o:Option Bool) (Q:SV->Prop):Prop:=match o with
 | some b=>Q (.d (.bool b))
 | none=>False
theorem B4a {c:String} {pa:PDt} {Q:SV->PEnv->Prop}:pIsi c pa env Q=pa env fun x e=>oKit (kitB (tyD x) c) fun s=>Q s e:=rfl
theorem A71 {cs:List String} {pa:PDt} {Q:SV->PEnv->Prop}:C26 cs pa env Q=pa env fun x e=>cs.length<=1000/\oKit (A0f (tyD x) cs) fun s=>Q s e:=rfl
theorem B43 {b:Bool} {Q:SV->Prop}:oKit (some b) Q=Q (.d (.bool b)):=rfl
theorem C2m {b:Bool} {k:Bool->Prop}:asB (.bool b) k=k b:=rfl
theorem C2f {k:LP->Prop}:asL (.list xs) k=k xs:=rfl
theorem B5l {k:Prop}:isSt (some (some .st)) k=k:=rfl
theorem C2g {i:Int} {k:Int->Prop}:asI (.int i) k=k i:=rfl
def A83 (o:Option (Option SV)) (D:PEnds) (env:PEnv):Prop:=match o with
 | some (some (.bor _))=>False
 | some (some (.bt _))=>False
 | some (some (.al _))=>False
 | some (some s)=>D.rt s env
 | _=>False
theorem A7n {D:PEnds}:B7f i D env=A83 env[i]? D env:=rfl
theorem A82 {D:PEnds}:A83 (some (some (.d x))) D env=D.rt (.d x) env:=rfl
theorem A81 {D:PEnds}:A83 (some (some (.own xs))) D env=D.rt (.own xs) env:=rfl
theorem A80 {D:PEnds}:A83 (some (some .st)) D env=D.rt .st env:=rfl
theorem A8z {D:PEnds}:A83 (some (some (.tr t))) D env=D.rt (.tr t) env:=rfl
theorem A6z {Q:PEnv->Prop}:qNil [] env Q=Q env:=rfl
theorem A2e {pg:PyData->PEnv->(PEnv->Prop)->Prop} {pr:LP->PEnv->(PEnv->Prop)->Prop} {Q:PEnv->Prop}:B6q pg pr (x :: xs) env Q=pg x env fun e=>pr xs e Q:=rfl
def oPar (i j:Nat) (xs:LP) (D:PEnds) (e:PEnv):Prop:=match xs with
 | [x,y]=>D.nx ((e.set i (some (.d x))).set j (some (.d y)))
 | _=>False
theorem B3x {pa:PAr} {D:PEnds}:pPar i j pa D env=pa env fun xs e=>oPar i j xs D e:=rfl
theorem B42 {D:PEnds}:oPar i j [x,y] D e=D.nx ((e.set i (some (.d x))).set j (some (.d y))):=rfl
theorem B1h {k:LP->Prop}:N6 (some (some (.own xs))) k=k xs:=rfl
def A38 (o:Option (Option SV)) (i:Nat) (env:PEnv) (Q:LP->PEnv->Prop):Prop:=match o with
 | some (some (.d x))=>S6 x fun xs=>Q xs env
 | some (some (.own xs))=>Q xs (env.set i (some (.d (.list xs))))
 | some (some (.bor xs))=>Q xs env
 | _=>False
theorem A30 {Q:LP->PEnv->Prop}:A70 i env Q=A38 env[i]? i env Q:=rfl
theorem A36 {Q:LP->PEnv->Prop}:A38 (some (some (.d x))) i env Q=S6 x fun xs=>Q xs env:=rfl
theorem A35 {Q:LP->PEnv->Prop}:A38 (some (some (.own xs))) i env Q=Q xs (env.set i (some (.d (.list xs)))):=rfl
theorem A37 {Q:LP->PEnv->Prop}:A38 (some (some (.bor xs))) i env Q=Q xs env:=rfl
def C0y (xs:LP) (Q:LP->Prop):Prop:=match xs with
 | [.int j]=>(-(2 ^ 62)<=j/\j < 2 ^ 62)/\Q (rngD 0 j.toNat)
 | _=>False
theorem A7m {pa:PAr} {Q:LP->PEnv->Prop}:B90 pa env Q=pa env fun xs e=>C0y xs fun ys=>Q ys e:=rfl
theorem A8y {j:Int} {Q:LP->Prop}:C0y [.int j] Q=((-(2 ^ 62)<=j/\j < 2 ^ 62)/\Q (rngD 0 j.toNat)):=rfl
def C0x (xs:LP) (Q:LP->Prop):Prop:=match xs with
 | [.int i,.int j]=>(-(2 ^ 62)<=i/\i < 2 ^ 62/\-(2 ^ 62)<=j/\j < 2 ^ 62)/\Q (rngD i (j - i).toNat)
 | _=>False
theorem A7l {pa:PAr} {Q:LP->PEnv->Prop}:B9z pa env Q=pa env fun xs e=>C0x xs fun ys=>Q ys e:=rfl
theorem A8x {i j:Int} {Q:LP->Prop}:C0x [.int i,.int j] Q=((-(2 ^ 62)<=i/\i < 2 ^ 62/\-(2 ^ 62)<=j/\j < 2 ^ 62)/\Q (rngD i (j - i).toNat)):=rfl
def C0w (xs:LP) (Q:LP->Prop):Prop:=match xs with
 | [.int i,.int j,.int k]=>k=-1/\((-(2 ^ 61)<=i/\i < 2 ^ 61)/\-(2 ^ 61)<=j/\j < 2 ^ 61)/\Q (dwnD i (i - j).toNat)
 | _=>False
theorem A7k {pa:PAr} {Q:LP->PEnv->Prop}:C25 pa env Q=pa env fun xs e=>C0w xs fun ys=>Q ys e:=rfl
theorem A8w {i j k:Int} {Q:LP->Prop}:C0w [.int i,.int j,.int k] Q=(k=-1/\((-(2 ^ 61)<=i/\i < 2 ^ 61)/\-(2 ^ 61)<=j/\j < 2 ^ 61)/\Q (dwnD i (i - j).toNat)):=rfl
theorem B4j {Q:SV->Prop}:pCat (.list xs) (.list ys) Q=(xs.length + ys.length<=1000000/\Q (.own (xs++ys))):=rfl
theorem B4p {Q:SV->Prop}:pAll [.list ys] Q=∃ bs,blsD ys=some bs/\Q (.d (.bool (bs.all id))):=rfl
theorem B4o {Q:SV->Prop}:pAny [.list ys] Q=∃ bs,blsD ys=some bs/\Q (.d (.bool (bs.any id))):=rfl
def B2m (o:Option (Option SV)) (i:Nat) (env:PEnv) (Q:LP->PEnv->Prop):Prop:=match o with
 | some (some (.d x))=>asL x fun xs=>Q xs env
 | some (some (.own xs))=>Q xs (env.set i (some (.d (.list xs))))
 | some (some (.bor xs))=>Q xs env
 | _=>False
theorem A7s {Q:LP->PEnv->Prop}:B7m i env Q=B2m env[i]? i env Q:=rfl
theorem A88 {Q:LP->PEnv->Prop}:B2m (some (some (.d x))) i env Q=asL x fun xs=>Q xs env:=rfl
theorem A87 {Q:LP->PEnv->Prop}:B2m (some (some (.own xs))) i env Q=Q xs (env.set i (some (.d (.list xs)))):=rfl
theorem A89 {Q:LP->PEnv->Prop}:B2m (some (some (.bor xs))) i env Q=Q xs env:=rfl
def oZip (xss:List LP) (Q:LP->Prop):Prop:=match xss with
 | [xs,ys]=>Q (zipD xs ys)
 | _=>False
theorem B3r {pa:PEnv->(List LP->PEnv->Prop)->Prop} {Q:LP->PEnv->Prop}:pZip pa env Q=pa env fun xss e=>oZip xss fun ys=>Q ys e:=rfl
theorem B4t {Q:LP->Prop}:oZip [xs,ys] Q=Q (zipD xs ys):=rfl
def C00 (xss:List LP) (Q:LP->Prop):Prop:=match xss with
 | [xs]=>Q (A0g xs)
 | _=>False
theorem A73 {pa:PEnv->(List LP->PEnv->Prop)->Prop} {Q:LP->PEnv->Prop}:C0f pa env Q=pa env fun xss e=>C00 xss fun ys=>Q ys e:=rfl
theorem A9c {Q:LP->Prop}:C00 [xs] Q=Q (A0g xs):=rfl
def A8u (o:Option (Option SV)) (env:PEnv) (Q:PyData->PEnv->Prop):Prop:=match o with
 | some (some (.d x))=>Q x env
 | some (some (.own xs))=>Q (.list xs) env
 | some (some (.bor xs))=>Q (.list xs) env
 | some (some (.tr t))=>∃ x,t.dat=[x]/\Q x env
 | _=>False
theorem A7i {Q:PyData->PEnv->Prop}:B7d i env Q=A8u env[i]? env Q:=rfl
theorem A8s {Q:PyData->PEnv->Prop}:A8u (some (some (.d x))) env Q=Q x env:=rfl
theorem A8r {Q:PyData->PEnv->Prop}:A8u (some (some (.own xs))) env Q=Q (.list xs) env:=rfl
theorem A8t {Q:PyData->PEnv->Prop}:A8u (some (some (.bor xs))) env Q=Q (.list xs) env:=rfl
theorem A8q {Q:PyData->PEnv->Prop}:A8u (some (some (.tr t))) env Q=∃ x,t.dat=[x]/\Q x env:=rfl
theorem ot_d {k:OT->Prop}:(SV.d x).ot k=k (.leaf x):=rfl
theorem ot_o {k:OT->Prop}:(SV.own xs).ot k=∀ a,k (.nd true a (D2 xs)):=rfl
theorem ot_t {k:OT->Prop}:(SV.tr t).ot k=k t:=rfl
theorem B5v {k:OT->Prop}:asTr (some (some (.tr t))) k=k t:=rfl
theorem C2j {k:PyData->Prop}:(SV.d x).asH k=k x:=rfl
theorem C2i {k:PyData->Prop}:(SV.own xs).asH k=k (.list xs):=rfl
theorem C2h {k:PyData->Prop}:(SV.tr t).asH k=∃ x,t.dat=[x]/\k x:=rfl
def oTrV (o:Option (Option SV)) (env:PEnv) (Q:OT->PEnv->Prop):Prop:=match o with
 | some (some (.d x))=>Q (.leaf x) env
 | some (some (.tr t))=>Q t env
 | some (some (.bt t))=>Q t env
 | _=>False
theorem B3v {Q:OT->PEnv->Prop}:pTrV i env Q=oTrV env[i]? env Q:=rfl
theorem B40 {Q:OT->PEnv->Prop}:oTrV (some (some (.d x))) env Q=Q (.leaf x) env:=rfl
theorem B4z {Q:OT->PEnv->Prop}:oTrV (some (some (.tr t))) env Q=Q t env:=rfl
theorem B41 {Q:OT->PEnv->Prop}:oTrV (some (some (.bt t))) env Q=Q t env:=rfl
def oUnp (o:Option (Option SV)) (a b:Nat) (pr:LP->PEnv->(PEnv->Prop)->Prop) (D:PEnds) (env:PEnv):Prop:=match o with
 | some (some (.bt t))=>∃ u v,t.pair=some (u,v)/\D.nx ((env.set a (some u.sv)).set b (some v.sv))
 | some (some (.d x))=>qTup 2 pr x env D.nx
 | _=>False
theorem B3t {a b:Nat} {pr:LP->PEnv->(PEnv->Prop)->Prop} {D:PEnds}:pUnp i a b pr D env=oUnp env[i]? a b pr D env:=rfl
theorem B4y {a b:Nat} {pr:LP->PEnv->(PEnv->Prop)->Prop} {D:PEnds}:oUnp (some (some (.bt t))) a b pr D env=∃ u v,t.pair=some (u,v)/\D.nx ((env.set a (some u.sv)).set b (some v.sv)):=rfl
theorem B4x {a b:Nat} {pr:LP->PEnv->(PEnv->Prop)->Prop} {D:PEnds}:oUnp (some (some (.d x))) a b pr D env=qTup 2 pr x env D.nx:=rfl
def C01 (o:Option (Option SV)) (n:Int) (j:Nat) (D:PEnds) (env:PEnv):Prop:=match o with
 | some (some (.bt t))=>∃ u v,t.pair=some (u,v)/\((n=0/\D.nx (env.set j (some u.sv)))\/(n=1/\D.nx (env.set j (some v.sv))))
 | _=>False
theorem A8b {n:Int} {D:PEnds}:C28 i n j D env=C01 env[i]? n j D env:=rfl
theorem A9d {n:Int} {D:PEnds}:C01 (some (some (.bt t))) n j D env=∃ u v,t.pair=some (u,v)/\((n=0/\D.nx (env.set j (some u.sv)))\/(n=1/\D.nx (env.set j (some v.sv)))):=rfl
class Box (α:Type) where
 f:α->Prop
def hold {α:Type} [b:Box α] (x:α):Prop:=b.f x
theorem A4s {α:Type} {f:α->Prop} {x:α}:@hold α ⟨f⟩ x=f x:=rfl
theorem A8a {psp:PSp} {pa:PAs} {env:PEnv} {Q:SV->PEnv->Prop}:C0m psp pa env Q=pa env fun as e=>psp as (@hold SV ⟨fun s=>Q s e⟩):=rfl
theorem A34 {psp:PSp} {pa pb:PDt} {env:PEnv} {Q:SV->PEnv->Prop}:C0l psp pa pb env Q=pa env fun x e=>pb e fun y e2=>psp [.d x,.d y] (@hold SV ⟨fun s=>∃ b,s=.d (.bool b)/\Q (.d (.bool b)) e2⟩):=rfl
theorem B32 {xs:LP} {i:Int} {Q:SV->Prop}:pIx (.list xs) (.int i) Q=pGet xs i (@hold SV ⟨Q⟩):=rfl
theorem B31 {xs:LP} {i:Int} {Q:SV->Prop}:pIx (.tuple xs) (.int i) Q=pGet xs i (@hold SV ⟨Q⟩):=rfl
theorem A76 {pi:PAr} {pg:PyData->PEnv->(PEnv->Prop)->Prop} {pt:PTt} {pd:PDt} {cap:List (Option Nat)} {env:PEnv} {Q:SV->PEnv->Prop}:C0i pi pg pt pd cap env Q=pi env fun xs e=>xs.length < 1000000/\M8 xs pg pt pd (L1 cap e) (@hold LP ⟨fun ys=>Q (.own ys) e⟩):=rfl
theorem X3 {pi:PAr} {pg:PyData->PEnv->(PEnv->Prop)->Prop} {pt:PTt} {pd:PDt} {cap:List (Option Nat)} {i:Nat} {D:PEnds} {env:PEnv}:A3u pi pg pt pd cap i D env=pi env fun xs e=>xs.length < 1000000/\M8 xs pg pt pd (L1 cap e) (@hold LP ⟨fun ys=>D.nx (e.set i (some (.own ys)))⟩):=rfl
end
end Pu
namespace L2
open PySem PySem.Spec PyProof.Rows
section
variable {X:Cx}
def rInD (K:PySem.W.Frag) (neg:Bool):R2:=fun x y H Q=>∃ dx dy xs,Den K H x dx/\Den K H y dy/\(dy=.list xs\/dy=.tuple xs)/\PyData.canLayAll0 xs=true/\dx.canLay0=true/\dx.depth<=60/\Q (.bl (if neg then !(xs.any fun z=>z.eqv dx) else xs.any fun z=>z.eqv dx)) H
theorem C0r (hu:X.A.units + 64 < cLine):OpR X (compareOp .In) (rInD X.K false):=by
 intro pins s σ H x y v u Q I rx ry h;obtain ⟨dx,dy,xs,h1,h2,h3,c1,c2,hd,q⟩:=h;obtain ⟨as,r1⟩:=h1.reads I rx c2;obtain ⟨bs,r2⟩:=h2.reads I ry (by rcases h3 with rfl | rfl <;> exact c1)
 rcases h3 with rfl | rfl
 ·exact PySem.SeqAt.in_list_reads r2 r1 c1 c2 (by omega) ⟨.bl _,H,I,rfl,q⟩
 ·exact PySem.SeqAt.in_tuple_reads r2 r1 c1 c2 (by omega) ⟨.bl _,H,I,rfl,q⟩
theorem A2n {K:PySem.W.Frag} (h:X.K=K) (hu:X.A.units + 64 < cLine):OpR X (compareOp .In) (rInD K false):=by subst h; exact C0r hu
end
end L2
namespace Pu
open PySem L2 My Prf
def pIn (neg:Bool) (x y:PyData) (Q:SV->Prop):Prop:=S6 y fun xs=>PyData.canLayAll0 xs=true/\x.canLay0=true/\x.depth<=60/\Q (.d (.bool (if neg then !(xs.any fun z=>z.eqv x) else xs.any fun z=>z.eqv x)))
instance ro_in {K:Frag} {neg:Bool}:RO K (rInD K neg) (pIn neg) where
 ok:=by
  rintro c w env σ x y dx dy Qp Q rfl E vx vy p k;unfold pIn S6 at p;split at p
  ·rename_i xs;exact ⟨dx,_,xs,vx.den E.wok,vy.den E.wok,.inl rfl,p.1,p.2.1,p.2.2.1,k _ _ w (Res.data E (.bl _)) p.2.2.2⟩
  ·rename_i xs;exact ⟨dx,_,xs,vx.den E.wok,vy.den E.wok,.inr rfl,p.1,p.2.1,p.2.2.1,k _ _ w (Res.data E (.bl _)) p.2.2.2⟩
  ·exact p.elim
theorem hm_H {w:Wd}:Same (hm w) w.H:=fun _ _ h=>(B5o h).1
instance (priority:=high) re_neH {K:Frag} {ta tb:TE} {pa pb:PDt} [ha:RH K ta pa] [hb:RH K tb pb]:RE K (tOp (rNeD K) ta tb) (pOp pNeD pa pb) where
 ok:=by
  rintro c w env σ Qp Q rfl E p k;refine ha.ok c w env σ _ _ rfl E p fun x dx e1 w1 E1 l1 v1 q1=>?_;refine hb.ok c w1 e1 σ _ _ rfl E1 q1 fun y dy e2 w2 E2 l2 v2 q2=>?_;have v1':VH c.K w2 x dx:=Den.same (C1s l2) v1;exact ⟨dx,dy,Den.same hm_H v1',Den.same hm_H v2,q2.1,q2.2.1,q2.2.2.1,k _ _ e2 w2 ((Res.data E2 (.bl _)).pre (l1.trans l2)) q2.2.2.2⟩
instance (priority:=high) re_eqH {K:Frag} {ta tb:TE} {pa pb:PDt} [ha:RH K ta pa] [hb:RH K tb pb]:RE K (tOp (rEqD K) ta tb) (pOp pEqD pa pb) where
 ok:=by
  rintro c w env σ Qp Q rfl E p k;refine ha.ok c w env σ _ _ rfl E p fun x dx e1 w1 E1 l1 v1 q1=>?_;refine hb.ok c w1 e1 σ _ _ rfl E1 q1 fun y dy e2 w2 E2 l2 v2 q2=>?_;have v1':VH c.K w2 x dx:=Den.same (C1s l2) v1;exact ⟨dx,dy,Den.same hm_H v1',Den.same hm_H v2,q2.1,q2.2.1,q2.2.2.1,k _ _ e2 w2 ((Res.data E2 (.bl _)).pre (l1.trans l2)) q2.2.2.2⟩
def B44 (o:Option (Option SV)) (n:Int) (env:PEnv) (Q:LP->PEnv->Prop):Prop:=match o with
 | some (some (.bt t))=>∃ u v xs,t.pair=some (u,v)/\n=1/\v.sv=.bor xs/\Q xs env
 | _=>False
def B39 (i:Nat) (n:Int) (env:PEnv) (Q:LP->PEnv->Prop):Prop:=B44 env[i]? n env Q
theorem A39 {t:OT} {n:Int} {env:PEnv} {Q:LP->PEnv->Prop}:B44 (some (some (.bt t))) n env Q=∃ u v xs,t.pair=some (u,v)/\n=1/\v.sv=.bor xs/\Q xs env:=rfl
theorem EnvOk.take {c:Ct} {w:Wd} {env:PEnv} {σ:St} {i:Nat} {s:SV} (E:EnvOk c w env σ) (h:env[i]?=some (some s)) (hr:s.isRes=true):∃ v,σ[i]?=some (some v)/\Res c w (env.set i none) σ w v s:=by
 obtain ⟨v,hv,hV⟩:=E.at' i _ h;have up:∀ {j:Nat} {t:SV},(env.set i none)[j]?=some (some t)->i≠j/\env[j]?=some (some t):=by
  intro j t q;rw [List.getElem?_set] at q;split at q
  ·split at q <;> cases q
  ·rename_i z; exact ⟨z,q⟩
 have E':EnvOk c w (env.set i none) σ:=⟨E.wok,E.le0,by simpa using E.len,fun j s q=>E.at' j s (up q).2,fun j k s t v u a q1 q2=>E.own j k s t v u a (up q1).2 (up q2).2,E.zf,fun a j t u za q=>E.zo a j t u za (up q).2⟩;exact ⟨v,hv,E',Lw.refl w,hV,fun a f=>⟨fun j t u q z g=>(up q).1 (E.own i j _ _ _ _ a h (up q).2 hv z f g),fun za=>E.zo a i _ _ za h hv f⟩,hr⟩
def B2l (o:Option (Option SV)) (i:Nat) (env:PEnv) (k:OT->PEnv->Prop):Prop:=match o with
 | some (some (.d x))=>k (.leaf x) env
 | some (some (.own xs))=>∀ a,k (.nd true a (D2 xs)) (env.set i none)
 | some (some (.tr t))=>k t (env.set i none)
 | _=>False
theorem A86 {x:PyData} {i:Nat} {env:PEnv} {k:OT->PEnv->Prop}:B2l (some (some (.d x))) i env k=k (.leaf x) env:=rfl
theorem A85 {xs:LP} {i:Nat} {env:PEnv} {k:OT->PEnv->Prop}:B2l (some (some (.own xs))) i env k=∀ a,k (.nd true a (D2 xs)) (env.set i none):=rfl
theorem A84 {t:OT} {i:Nat} {env:PEnv} {k:OT->PEnv->Prop}:B2l (some (some (.tr t))) i env k=k t (env.set i none):=rfl
def B4f (i:Nat) (pr:PEnv->(OT->PEnv->Prop)->Prop) (env:PEnv) (Q:OT->PEnv->Prop):Prop:=B2l env[i]? i env fun t e1=>pr e1 fun r e2=>(∀ a ∈ r.fp,a ∉ t.fp)->Q (.cons t r) e2
def C0a (i:Nat) (n:Int) (env:PEnv) (Q:SV->PEnv->Prop):Prop:=asTr env[i]? fun t=>∃ (m:Nat) (b:Bool) (a:Addr) (ks:OT) (x:PyData),n=m/\t=.nd b a ks/\ks.kid m=some (.leaf x)/\Q (.d x) env
end Pu
namespace L2
open PySem PySem.Spec PyProof.Rows
section
variable {X:Cx} {tg:Expr}
def B6l (K:PySem.W.Frag):List V->Hp->VK->Prop:=fun xs H Q=>(∃ p ys,xs=[.ref p]/\(SqL K H p ys\/SqT K H p ys)/\Q (.int ys.length) H)\/∃ z,xs=[.str z]/\z.length<=sizeLine/\Q (.int z.length) H
theorem C5 {K:PySem.W.Frag} (h:X.K=K):CallR X (.builtin "len") (B6l K):=by subst h; exact call_len_seq.or A1w
theorem A4c:1000<=sizeLine:=by rw [sizeLine_eq]; decide
end
end L2
namespace L2
open PySem PySem.Spec PyProof.Rows
section
variable {X:Cx} {tg:Expr} {pos:Pos}
theorem M5 {o i:Expr} {to ti:TE} {t:TSet} (ho:QE X o to) (hi:QE X i ti) (hs:PSet X t)
  (ha:∀ v,assign (.Subscript o i pos) X.env v=(do
   let ov <- holding [v] (eval o X.env)
   let iv <- holding [v,ov] (eval i X.env)
   standAt pos
   holding [v,ov,iv] (setItem ov iv v)
   release [v,ov,iv] []):=by intro _; rfl):QG X (.Subscript o i pos) (gSub to ti t):=⟨A3s ho.out hi.out hs ha⟩
end
end L2
namespace Pu
open PySem L2 My Prf
def asS (x:PyData) (k:Str->Prop):Prop:=match x with
 | .str z=>k z
 | _=>False
theorem C2d {z:Str} {k:Str->Prop}:asS (.str z) k=k z:=rfl
theorem VV.strE {K:Frag} {w:Wd} {v:V} {z:Str} (h:VV K w v (.str z)):v=.str z:=by
 rcases h with h | ⟨l,vs,xs,e,e',_⟩
 ·cases h; rfl
 ·cases e'
def sgn (c:Nat):PyData:=.str ⟨#[c]⟩
def C2u (z:Str):LP:=z.cps.toList.map sgn
def B38 (pd:PDt) (env:PEnv) (Q:LP->PEnv->Prop):Prop:=pd env fun x e=>asS x fun z=>Q (C2u z) e
def pS (gd:Str->Str->PyData) (x y:PyData) (Q:SV->Prop):Prop:=asS x fun i=>asS y fun j=>Q (.d (gd i j))
def C0k (x y:PyData) (Q:SV->Prop):Prop:=asS x fun i=>asS y fun j=>i.length + j.length<=1000/\Q (.d (.str (i++j)))
def B7o (z:Str) (i:Int) (Q:SV->Prop):Prop:=∃ c,atI z.cps.toList i=some c/\Q (.d (sgn c))
def pIx2 (x y:PyData) (Q:SV->Prop):Prop:=match x with
 | .str z=>asI y fun i=>z.length<=1000/\B7o z i Q
 | x=>pIx x y Q
theorem B36 {xs:LP} {y:PyData} {Q:SV->Prop}:pIx2 (.list xs) y Q=pIx (.list xs) y Q:=rfl
theorem B33 {xs:LP} {y:PyData} {Q:SV->Prop}:pIx2 (.tuple xs) y Q=pIx (.tuple xs) y Q:=rfl
theorem B35 {q:Rat} {y:PyData} {Q:SV->Prop}:pIx2 (dq q) y Q=pIx (dq q) y Q:=rfl
theorem B37 {q:Rat × Rat} {y:PyData} {Q:SV->Prop}:pIx2 (dcn q) y Q=pIx (dcn q) y Q:=rfl
theorem B34 {z:Str} {i:Int} {Q:SV->Prop}:pIx2 (.str z) (.int i) Q=(z.length<=1000/\B7o z i Q):=rfl
instance (priority:=high) ro_ix2 {K:Frag}:RO K (rIx K) pIx2 where
 ok:=by
  rintro c w env σ x y dx dy Qp Q rfl E vx vy p k;unfold pIx2 at p;split at p
  ·unfold asI at p;split at p
   ·obtain ⟨hl,cc,h1,q⟩:=p;exact .inr (.inr ⟨_,_,cc,vx.strE,vy.intE,Nat.le_trans hl A4c,h1,k _ _ w (Res.data E (.str _)) q⟩)
   ·exact p.elim
  ·exact ro_ix.ok c w env σ x y dx dy Qp Q rfl E vx vy p k
def A5l (xs:LP) (Q:SV->Prop):Prop:=match xs with
 | [.list ys]=>Q (.d (.int ys.length))
 | [.tuple ys]=>Q (.d (.int ys.length))
 | [.str z]=>z.length<=1000/\Q (.d (.int z.length))
 | _=>False
theorem A7x {ys:LP} {Q:SV->Prop}:A5l [.list ys] Q=Q (.d (.int ys.length)):=rfl
theorem A7u {ys:LP} {Q:SV->Prop}:A5l [.tuple ys] Q=Q (.d (.int ys.length)):=rfl
theorem A7w {q:Rat} {Q:SV->Prop}:A5l [dq q] Q=Q (.d (.int 2)):=rfl
theorem A7v {z:Str} {Q:SV->Prop}:A5l [.str z] Q=(z.length<=1000/\Q (.d (.int z.length))):=rfl
instance rb_len2 {K:Frag}:RB K (B6l K) A5l where
 ok:=by
  rintro c w env σ vs xs Qp Q rfl E vv p k;unfold A5l at p;split at p
  ·cases vv with | cons h t=>cases t; obtain ⟨a,us,e,h1,h2⟩:=h.lst E.wok; exact .inl ⟨a,us,by rw [e],.inl h1,by rw [h2.len]; exact k _ _ w (Res.data E (.int _)) p⟩
  ·cases vv with | cons h t=>cases t; obtain ⟨a,us,e,h1,h2⟩:=h.tup E.wok; exact .inl ⟨a,us,by rw [e],.inr h1,by rw [h2.len]; exact k _ _ w (Res.data E (.int _)) p⟩
  ·cases vv with | cons h t=>cases t; exact .inr ⟨_,by rw [h.strE],Nat.le_trans p.1 A4c,k _ _ w (Res.data E (.int _)) p.2⟩
  ·exact p.elim
def B8x:LP->Option (List Str)
 | []=>some []
 | .str z :: r=>(B8x r).map (z :: ·)
 | _=>none
def C0b (po pa:PDt) (env:PEnv) (Q:SV->PEnv->Prop):Prop:=po env fun x e=>asS x fun sep=>pa e fun y e2=>asL y fun ys=>∃ zs,B8x ys=some zs/\(zs.map fun z=>z.length + sep.length).sum<=1000/\Q (.d (.str (sep.join zs))) e2
def B7e (pd:PDt) (i:Nat) (pi:PDt) (D:PEnds) (env:PEnv):Prop:=pd env fun x e=>N6 e[i]? fun _=>pi e fun y e2=>asI y fun n=>N6 e2[i]? fun xs=>∃ j,ixN xs.length n=some j/\D.nx (e2.set i (some (.own (xs.set j x))))
theorem DenAll.setAt {K:Frag} {F:Hpp} {v:V} {x:PyData} (d:Den K F v x):∀ {vs:List V} {xs:LP} (j:Nat),DenAll K F vs xs->DenAll K F (vs.set j v) (xs.set j x)
 | _,_,_,.nil=>.nil
 | _,_,0,.cons _ t=>.cons d t
 | _,_,j + 1,.cons h t=>.cons h (DenAll.setAt d j t)
instance rs_setI {K:Frag} {i:Nat} {te ti:TE} {pd pi:PDt} [he:RD K te pd] [hi:RW K ti pi]:RS K (tAsg te (gSub (tVar i) ti B6k)) (B7e pd i pi) where
 ok:=by
  rintro c w env σ Dp D rfl E h p;refine he.ok c w env σ _ _ rfl E p fun v x e1 w1 E1 l1 d1 q1=>?_;unfold N6 at q1;split at q1
  ·rename_i xs0 e0;obtain ⟨o,g0,l,vs,ev,h1,h2,h3,h4,h5⟩:=E1.at' i _ e0;subst ev;refine ⟨_,g0,hi.ok c w1 e1 σ _ _ rfl E1 q1 fun u y e2 w2 E2 l2 d2 q2=>?_⟩;unfold asI at q2;split at q2
   ·rename_i n;split at q2
    ·rename_i xs e;obtain ⟨j,hj,q2⟩:=q2;obtain ⟨o',g0',l',vs',ev',k1,k2,k3,k4,k5⟩:=E2.at' i _ e;rw [g0] at g0'; cases g0'; cases ev';have hn:=d2.intE;refine ⟨l,vs',n,j,rfl,hn,k1,by rw [k5.len]; exact hj,?_⟩;exact h.nx _ σ ⟨w2.M,upd w2.H l (.lst (vs'.set j v)),w2.F⟩ (E2.write e g0 k1 k2 k3 k4 (DenAll.setAt (Den.same l2.f d1) j k5)) (l1.f.trans l2.f) q2
    ·exact q2.elim
   ·exact q2.elim
  ·exact q1.elim
def C0g (env:PEnv) (Q:SV->PEnv->Prop):Prop:=Q (.d (.dict [])) env
def B4d (key:Key) (y:V) (env:PEnv) (Q:SV->PEnv->Prop):Prop:=Q (.d (.dict [A2w (key,y)])) env
theorem A95:kitB "int" "int"=some true:=by decide +kernel
theorem A96:kitB "int" "bool"=some false:=by decide +kernel
theorem A93:kitB "int" "tuple"=some false:=by decide +kernel
theorem A94:kitB "int" "str"=some false:=by decide +kernel
theorem B0d:kitB "bool" "int"=some true:=by decide +kernel
theorem B0e:kitB "bool" "bool"=some true:=by decide +kernel
theorem B0b:kitB "bool" "tuple"=some false:=by decide +kernel
theorem B0c:kitB "bool" "str"=some false:=by decide +kernel
theorem A9x:kitB "NoneType" "int"=some false:=by decide +kernel
theorem A9y:kitB "NoneType" "bool"=some false:=by decide +kernel
theorem A9v:kitB "NoneType" "tuple"=some false:=by decide +kernel
theorem A9w:kitB "NoneType" "str"=some false:=by decide +kernel
theorem A9t:kitB "str" "int"=some false:=by decide +kernel
theorem A9u:kitB "str" "bool"=some false:=by decide +kernel
theorem A9r:kitB "str" "tuple"=some false:=by decide +kernel
theorem A9s:kitB "str" "str"=some true:=by decide +kernel
theorem A91:kitB "list" "int"=some false:=by decide +kernel
theorem A92:kitB "list" "bool"=some false:=by decide +kernel
theorem A9z:kitB "list" "tuple"=some false:=by decide +kernel
theorem A90:kitB "list" "str"=some false:=by decide +kernel
theorem A9p:kitB "tuple" "int"=some false:=by decide +kernel
theorem A9q:kitB "tuple" "bool"=some false:=by decide +kernel
theorem A9n:kitB "tuple" "tuple"=some true:=by decide +kernel
theorem A9o:kitB "tuple" "str"=some false:=by decide +kernel
theorem A99:kitB "dict" "int"=some false:=by decide +kernel
theorem B0a:kitB "dict" "bool"=some false:=by decide +kernel
theorem A97:kitB "dict" "tuple"=some false:=by decide +kernel
theorem A98:kitB "dict" "str"=some false:=by decide +kernel
theorem A3d {kvs:List (PyData × PyData)}:tyD (.dict kvs)="dict":=rfl
def A78 (pr pr':PyData->PyData->(SV->Prop)->Prop) (pa pb pc:PDt) (env:PEnv) (Q:SV->PEnv->Prop):Prop :=
 pa env fun x e1=>pb e1 fun y e2=>pr x y fun s=>s.asD fun b=>asB b fun k=>if k=true then pc e2 fun z e3=>pr' y z fun s2=>Q s2 e3 else Q (.d (.bool false)) e2
instance re_chain {K:Frag} {r r':R2} {ta tb tc:TE} {pr pr':PyData->PyData->(SV->Prop)->Prop} {pa pb pc:PDt} [h:RO K r pr] [h':RO K r' pr'] [ha:RW K ta pa] [hb:RW K tb pb] [hc:RW K tc pc]:RE K (A6g r r' ta tb tc) (A78 pr pr' pa pb pc) where
 ok:=by
  rintro c w env σ Qp Q rfl E p k;refine ha.ok c w env σ _ _ rfl E p fun x dx e1 w1 E1 l1 v1 q1=>?_;refine hb.ok c w1 e1 σ _ _ rfl E1 q1 fun y dy e2 w2 E2 l2 v2 q2=>?_;refine h.ok c w2 e2 σ x y dx dy _ _ rfl E2 (v1.mono l2) v2 q2 fun v s w3 R q3=>?_;cases s with
  | d b =>
   cases b with
   | bool b =>
    have ev:v=.bl b:=Den.blE R.val;refine ⟨b,ev,?_⟩;cases b with
    | true =>
     refine hc.ok c w3 e2 σ _ _ rfl R.ev q3 fun z dz e3 w4 E4 l4 v4 q4=>?_;exact h'.ok c w4 e3 σ y z dy dz _ _ rfl E4 ((v2.mono R.lw).mono l4) v4 q4 fun v s w' R' q=>k v s e3 w' (R'.pre (l1.trans (l2.trans (R.lw.trans l4)))) q
    | false=>exact k _ _ e2 w3 ((Res.data R.ev (.bl _)).pre (l1.trans (l2.trans R.lw))) q3
   | _=>exact (show False from q3).elim
  | own xs=>exact (show False from q3).elim
  | bor xs=>exact (show False from q3).elim
  | st=>exact (show False from q3).elim
  | tr t=>exact (show False from q3).elim
  | bt t=>exact (show False from q3).elim
  | al t=>exact (show False from q3).elim
  | dk t=>exact (show False from q3).elim
end Pu
namespace L2
open PySem PySem.Spec PyProof.Rows
section
variable {prog:Program} {w:World} {A:Around} {E:Value->Shared->Prop} {h:Heap} {g:Array GenState} {d:Drawn} {t:Nat} {os:OsState} {a C:Addr} {o:Obj} {vs:Array Value} {K:PySem.W.Frag}
end
end L2
namespace L2
open PySem PySem.Spec PyProof.Rows
section
variable {P:Program} {w:World} {outer:List Env} {H H':Hp} {s s':Shared} {a:Addr} {cls a0:Value} {B:Heap}
end
section
variable {P:Program} {w:World} {K:PySem.W.Frag} {mg:Str->Option Value} {base:Heap} {N:List Str} {qual:Str} {scope:Scope} {f:Addr} {cd:Value} {A:Around} {outer:List Env} {s0:Shared} {H0:Hp} {E:XK}
end
end L2
namespace L2
open PySem PySem.Spec PyProof.Rows
section
variable {X:Cx} {E:XK} {x:Str} {C:Addr} {pos np cpos:Pos} {e:Expr} {es:List Expr} {t:TA}
end
abbrev Cx.held (X:Cx) (a:Addr) (oe:Obj):Cx:={ X with A:=X.A.mark (some (.ref a)),calm:=false,pn:=(a,oe) :: X.pn,xe:=fun _ _=>False }
section
variable {X:Cx} {pins:List (Addr × Obj)} {σ:St} {H:Hp} {s:Shared} {a:Addr} {oe:Obj}
end
end L2
namespace L2
open PySem PySem.Spec PyProof.Rows
section
variable {P:Program} {w:World} {outer:List Env} {H H':Hp} {s s':Shared} {a:Addr} {cls a0:Value} {B:Heap}
end
section
variable {X:Cx} {pins:List (Addr × Obj)} {σ:St} {H H':Hp} {s s':Shared} {a:Addr} {cls a0:Value} {B:Heap}
end
section
variable {X:Cx} {k i:Nat} {f C CH:Addr} {fd:FuncData} {ps:List Str} {sp:Sp} {x xh n:Str} {p pos pos2 pos3 pos4 pos5:Pos} {e:Expr} {es:List Expr} {t:TA} {b0:Stmt} {suite:List Stmt} {b:Bool}
end
end L2
namespace L2
open PySem PySem.Spec PyProof.Rows
section
variable {X:Cx} {a C:Addr} {oe:Obj} {i:Nat} {b:Bool}
inductive ClV:V->Value->Prop
 | own (c:Addr):ClV (.ref c) (.ref c)
 | ty (c:String):ClV (.ty c) (.type c)
theorem ClV.get {c:V} {u cv:Value} (h:ClV c cv) (r:RelV c u):u=cv:=by
 cases h with
 | own c=>exact r
 | ty c=>exact r
inductive ClVs:List V->List Value->Prop
 | nil:ClVs [] []
 | cons {c:V} {cv:Value} {r:List V} {s:List Value}:ClV c cv->ClVs r s->ClVs (c :: r) (cv :: s)
theorem ClVs.get:∀ {cs:List V} {us cvs:List Value},ClVs cs cvs->Vals cs us->us=cvs
 | [],_,_,.nil,.nil=>rfl
 | _ :: _,_,_,.cons h t,.cons r s=>by rw [h.get r,t.get s]
end
end L2
namespace L2
open PySem PySem.Spec PyProof.Rows
section
variable {X:Cx}
variable {k i:Nat} {f C CH:Addr} {fd:FuncData} {ps:List Str} {sp:Sp} {x xh n:Str} {p pos pos2 pos3 pos4 pos5:Pos} {e:Expr} {es:List Expr} {t:TA} {b0:Stmt} {suite:List Stmt} {b:Bool}
end
end L2
namespace Pu
open PySem PySem.Spec PyProof.Rows L2 My Prf
end Pu
namespace L2
open PySem PySem.Spec PyProof.Rows
theorem us0:∀ {us:List Value},us.length=0->us=[]
 | [],_=>rfl
theorem usS {n:Nat}:∀ {us:List Value},us.length=n + 1->∃ a r,us=a :: r/\r.length=n
 | a :: r,h=>⟨a,r,rfl,Nat.succ.inj h⟩
theorem us1 {us:List Value} (h:us.length=1):∃ a,us=[a]:=by
 obtain ⟨a,r,e,k⟩:=usS h;exact ⟨a,by rw [e,us0 k]⟩
theorem us2 {us:List Value} (h:us.length=2):∃ a b,us=[a,b]:=by
 obtain ⟨a,r,e,k⟩:=usS h; obtain ⟨b,z⟩:=us1 k; exact ⟨a,b,by rw [e,z]⟩
theorem us3 {us:List Value} (h:us.length=3):∃ a b c,us=[a,b,c]:=by
 obtain ⟨a,r,e,k⟩:=usS h; obtain ⟨b,c,z⟩:=us2 k; exact ⟨a,b,c,by rw [e,z]⟩
theorem us4 {us:List Value} (h:us.length=4):∃ a b c d,us=[a,b,c,d]:=by
 obtain ⟨a,r,e,k⟩:=usS h; obtain ⟨b,c,d,z⟩:=us3 k; exact ⟨a,b,c,d,by rw [e,z]⟩
end L2
namespace L2
open PySem PySem.Spec PyProof.Rows
section
variable {X:Cx}
end
end L2
namespace Pu
open PySem L2 My Prf
def pRep (pe:PX) (pb:PDt) (env:PEnv) (Q:SV->PEnv->Prop):Prop:=pe env fun s e=>∃ xs,s=.own xs/\pb e fun y e2=>∃ n:Int,y=.int n/\0<=n/\n<=1000/\xs.length<=1000/\Q (.own (List.replicate n.toNat xs).flatten) e2
def A8c (i j:Nat) (pd:PDt) (D:PEnds) (env:PEnv):Prop:=i≠j/\N6 env[i]? fun _=>N6 env[j]? fun _=>pd env fun x e=>N6 e[i]? fun xs=>N6 e[j]? fun ys=>∃ (k:Nat) (y:PyData),x=.int k/\ys[k]?=some y/\xs.length < 1000000/\ys.length < 1000000/\D.nx ((e.set j (some (.own (ys.eraseIdx k)))).set i (some (.own (xs++[y]))))
end Pu
namespace L2
open PySem PySem.Spec PyProof.Rows
section
variable {prog:Program} {w:World} {A:Around} {E:Value->Shared->Prop} {s:Shared}
end
section
variable {prog:Program} {w:World} {A:Around} {E:Value->Shared->Prop} {s:Shared} {R:Result->Shared->Prop} {us vs:Array Value}
end
section
variable {prog:Program} {w:World} {A:Around} {E:Value->Shared->Prop} {s:Shared} {us vs:Array Value}
end
end L2
namespace L2
open PySem PySem.Spec PyProof.Rows
section
variable {X:Cx} {pins:List (Addr × Obj)} {σ:St} {H:Hp} {s:Shared}
end
end L2
namespace L2
open PySem PySem.Spec PyProof.Rows
section
variable {X:Cx}
end
end L2
namespace Pu
open PySem L2 My Prf
def A7r (pa:PEnv->(List LP->PEnv->Prop)->Prop) (env:PEnv) (Q:SV->PEnv->Prop):Prop:=pa env fun xss e=>∃ xs ys,xss=[xs,ys]/\xs.length<=1000/\Q (.own (zipD xs ys)) e
end Pu
namespace L2
open PySem PySem.Spec PyProof.Rows
def A2d (K:PySem.W.Frag):V->List V->Hp->VK->Prop:=fun x vs H Q=>∃ y d xs j,vs=[y]/\Den K H x (.list xs)/\Den K H y d/\PyData.canLayAll0 xs=true/\d.canLay0=true/\d.depth<=60/\xs.length<=1000/\xs.findIdx? (fun z=>z.eqv d)=some j/\Q (.int j) H
section
variable {X:Cx}
theorem A9f (hu:X.A.units + 64 < cLine):MtR X "list.index" (A2d X.K):=by
 intro pins s σ H x vs v us Q I rx rv h;obtain ⟨y,d,xs,j,rfl,h1,h2,c1,c2,hd,hl,hj,q⟩:=h;obtain ⟨u,rfl,ru⟩:=rv.one;obtain ⟨as,r1⟩:=h1.reads I rx c1;obtain ⟨bs,r2⟩:=h2.reads I ru c2;cases r1 with
 | list e1 e2 e3 e4 =>
  rename_i l o vs n ns;have em:=PySem.SeqAt.readsAll_map xs _ _ c1 e4;have hsz:vs.size=xs.length:=by rw [<- em,List.length_map,Array.length_toList]
  obtain ⟨hjl,hjt,hjn⟩:=List.findIdx?_eq_some_iff_getElem.mp hj;have at':∀ m (hm:m < vs.size),PySem.SeqAt.readOf s.heap vs[m]=xs[m]'(by omega):=fun m hm=>by
   have:(vs.toList.map (PySem.SeqAt.readOf s.heap))[m]?=xs[m]?:=by rw [em]
   rw [List.getElem?_map,Array.getElem?_toList,Array.getElem?_eq_getElem hm,List.getElem?_eq_getElem (by omega)] at this;exact Option.some.inj this
  obtain ⟨cl,dd,dt,sl⟩:=o;have e2':cl=.type "list":=e2;have e3':dt=.seq vs n:=e3;subst e2' e3';refine call_meets PySem.F.slot_list_index ⟨_,e1,rfl⟩ PySem.F.entry_list_index (PySem.F.args_list_index_2 _ _) (PySem.SeqAt.list_indexAt l vs n dd sl u (fun z=>PyData.eqv (PySem.SeqAt.readOf s.heap z) d) j (by omega) (by omega) (by rw [at' j (by omega)]; exact hjt) (fun m hm hlt=>by
   rw [at' m hm];exact Bool.eq_false_iff.mpr (hjn m hlt))) ⟨e1,PySem.SeqAt.items_eqAt e4 r2 c1 c2 (by omega),?_⟩
  exact ⟨.int j,H,I.tok _,⟨_,rfl⟩,q⟩
theorem R6 {K:PySem.W.Frag} (h:X.K=K) (hu:X.A.units + 64 < cLine):MtR X "list.index" (A2d K):=by subst h; exact A9f hu
end
end L2
namespace Pu
open PySem L2 My Prf
def pIdx (po pa:PDt) (env:PEnv) (Q:SV->PEnv->Prop):Prop:=po env fun x e=>asL x fun xs=>pa e fun d e2=>PyData.canLayAll0 xs=true/\d.canLay0=true/\d.depth<=60/\xs.length<=1000/\∃ j:Nat,xs.findIdx? (fun z=>z.eqv d)=some j/\Q (.d (.int (j:Int))) e2
instance re_idx {K:Frag} {to ta:TE} {po pa:PDt} [ho:RW K to po] [ha:RD K ta pa]:RE K (tBM K "list" (A2d K) to (N2 ta tNil)) (pIdx po pa) where
 ok:=by
  rintro c w env σ Qp Q rfl E p k;refine ho.ok c w env σ _ _ rfl E p fun v x e1 w1 E1 l1 d1 q1=>?_;unfold asL at q1;split at q1
  ·rename_i xs;obtain ⟨a,us,e,h1,h2⟩:=d1.lst E1.wok;subst e;refine ⟨.inl ⟨rfl,_,h1⟩,ha.ok c w1 e1 σ _ _ rfl E1 q1 fun u y e2 w2 E2 l2 d2 q2=>?_⟩;obtain ⟨c1,c2,hd,hl,j,hj,q⟩:=q2;exact ⟨u,y,xs,j,rfl,(d1.mono l2).den E2.wok,Den.same E2.wok.sub d2,c1,c2,hd,hl,hj,k _ _ e2 w2 ((Res.data E2 (.int _)).pre (l1.trans l2)) q⟩
  ·exact q1.elim
end Pu
namespace L2
open PySem PySem.Spec PyProof.Rows
def B6f (d:PyData):Prop:=(d.canLay0=true/\d.showable=true/\d.hasDict=false\/d=.dict [])/\d.depth<=60/\d.shown.length<=sizeLine
section
variable {X:Cx}
end
end L2
namespace Pu
open PySem L2 My Prf
def B92 (pa:PDt) (env:PEnv) (Q:SV->PEnv->Prop):Prop:=pa env fun d e=>B6f d/\Q (.d (.str d.shown)) e
end Pu
namespace L2
open PySem PySem.Spec PyProof.Rows
def B8z (n:Nat) (i j:Int):List Nat:=sliceRange (sliceBounds (some i) none (some j) n).1 (sliceBounds (some i) none (some j) n).2.1 (sliceBounds (some i) none (some j) n).2.2
section
variable {X:Cx}
end
end L2
namespace Pu
open PySem L2 My Prf
def C2s (xs:LP) (i j:Int):LP:=(B8z xs.length i j).filterMap (xs[·]?)
def B9v (pe pl ps:PDt) (env:PEnv) (Q:SV->PEnv->Prop):Prop:=pe env fun x e1=>asL x fun xs=>pl e1 fun y e2=>asI y fun i=>ps e2 fun z e3=>asI z fun j=>j≠0/\Q (.own (C2s xs i j)) e3
end Pu
namespace L2
open PySem PySem.Spec PyProof.Rows
end L2
namespace Pu
open PySem L2 My Prf
def B3u (pa:PEnv->(List LP->PEnv->Prop)->Prop) (env:PEnv) (Q:SV->PEnv->Prop):Prop:=pa env fun xss e=>∃ xs,xss=[xs]/\Q (.d (.tuple xs)) e
end Pu
namespace L2
open PySem PySem.Spec PyProof.Rows
def told:PyData->Str
 | .str z=>z
 | d=>d.shown
section
variable {X:Cx}
end
end L2
namespace Pu
open PySem L2 My Prf
def pStr (pa:PDt) (env:PEnv) (Q:SV->PEnv->Prop):Prop:=pa env fun d e=>B6f d/\Q (.d (.str (told d))) e
end Pu
namespace L2
open PySem PySem.Spec PyProof.Rows
mutual
def lay1:PyData->Bool
 | .list xs=>B77 xs
 | .tuple xs=>B77 xs
 | .dict kvs=>kvs.isEmpty
 | .str x=>PyData.strOk x
 | _=>true
def B77:LP->Bool
 | []=>true
 | x :: r=>lay1 x && B77 r
end
section
variable {X:Cx} {pins:List (Addr × Obj)} {σ:St} {H:Hp} {s:Shared}
end
end L2
namespace L2
open PySem PySem.Spec PyProof.Rows
def B82 (d:PyData):Prop:=(lay1 d=true/\d.showable=true)/\d.depth<=60/\d.shown.length<=sizeLine
section
variable {X:Cx}
end
end L2
namespace Pu
open PySem L2 My Prf
def B9u (pa:PDt) (env:PEnv) (Q:SV->PEnv->Prop):Prop:=pa env fun d e=>B82 d/\Q (.d (.str (told d))) e
end Pu
namespace L2
open PySem PySem.Spec PyProof.Rows
end L2
namespace Pu
open PySem L2 My Prf
def C27 (x y:PyData) (Q:SV->Prop):Prop:=match x,y with
 | .tuple (x :: xs),.tuple (y :: ys)=>xs.length + ys.length<=1000/\Q (.d (.tuple (x :: xs++y :: ys)))
 | _,_=>False
theorem A79 {x y:PyData} {xs ys:LP} {Q:SV->Prop}:C27 (.tuple (x :: xs)) (.tuple (y :: ys)) Q=(xs.length + ys.length<=1000/\Q (.d (.tuple (x :: xs++y :: ys)))):=rfl
end Pu
namespace L2
open PySem PySem.Spec PyProof.Rows
section
variable {prog:Program} {w:World} {A:Around} {E:Value->Shared->Prop}
end
end L2
namespace Pu
open PySem L2 My Prf
def qLsU (n:Nat) (pr:LP->PEnv->(PEnv->Prop)->Prop) (x:PyData) (env:PEnv) (Q:PEnv->Prop):Prop:=match x with
 | .list xs=>xs.length=n/\pr xs env Q
 | _=>False
theorem B3k {n:Nat} {pr:LP->PEnv->(PEnv->Prop)->Prop} {xs:LP} {env:PEnv} {Q:PEnv->Prop}:qLsU n pr (.list xs) env Q=(xs.length=n/\pr xs env Q):=rfl
theorem B1p {K:Frag} {F H:Hpp} {a:Addr} {vs:List V} (s:Same F H) (h:SqL K F a vs):SqL K H a vs:=by
 rcases h with (h | ⟨o,h⟩) | h
 ·exact .inl (.inl (s _ _ h))
 ·exact .inl (.inr ⟨o,s _ _ h⟩)
 ·exact .inr h
def C0n (pd:PDt) (n:Nat) (pr:LP->PEnv->(PEnv->Prop)->Prop) (D:PEnds) (env:PEnv):Prop:=pd env fun x e=>qLsU n pr x e D.nx
end Pu
namespace L2
open PySem PySem.Spec PyProof.Rows
section
variable {M:Model} {A:Around} {E:Value->Shared->Prop} {s:Shared}
end
section
variable {P:Program} {w:World} {K:PySem.W.Frag} {mg:Str->Option Value} {base:Heap} {N:List Str} {qual:Str} {scope:Scope} {f:Addr} {cd:Value} {A:Around} {outer:List Env} {s0:Shared} {H0:Hp} {E:XK}
end
end L2
namespace L2
open PySem PySem.Spec PyProof.Rows
section
variable {X:Cx} {scope:Scope} {cl:List (Str × Addr)} {N':List Str} {cap:List (Option Nat)} {elt tg iter:Expr} {ifs:List Expr} {wi:TI} {g:TG} {tt:TT} {te:TE} {pos:Pos}
end
section
variable {P:Program} {w:World} {K:PySem.W.Frag} {mg:Str->Option Value} {base:Heap} {N:List Str} {qual:Str} {dsc:Scope} {f:Addr} {cd:Value} {A:Around} {outer:List Env} {s0:Shared} {H0:Hp} {E:XK}
variable {scope:Scope} {cl:List (Str × Addr)} {N':List Str} {cap:List (Option Nat)} {elt tg iter:Expr} {ifs:List Expr} {wi:TI} {g:TG} {tt:TT} {te:TE} {pos:Pos}
end
end L2
namespace L2
open PySem PySem.Spec PyProof.Rows
section
variable {X:Cx} {e:Expr} {t u:TE}
end
section
variable {P:Program} {w:World} {K:PySem.W.Frag} {mg:Str->Option Value} {base:Heap} {N:List Str} {qual:Str} {dsc:Scope} {f:Addr} {cd:Value} {A:Around} {outer:List Env} {s0:Shared} {H0:Hp} {E:XK}
variable {scope:Scope} {cl:List (Str × Addr)} {N':List Str} {cap:List (Option Nat)} {elt tg iter:Expr} {ifs:List Expr} {wi:TI} {g:TG} {tt:TT} {te:TE} {pos:Pos}
end
end L2
namespace Pu
open PySem PySem.Spec PyProof.Rows L2 My Prf
end Pu
namespace L2
open PySem PySem.Spec PyProof.Rows
def A6r:R2:=fun x y H Q=>∃ i n,x=.str i/\y=.int n/\(0<=n/\n<=100)/\i.length<=100/\Q (.str (Txt.mul i n)) H
theorem C06 {x:Str} {n:Int} (h0:0<=n) (h1:n<=100) (h:x.length<=100):MulOk x n:=by
 refine ⟨?_,fun hn _=>?_,fun hn _=>?_⟩
 ·rw [Bool.or_eq_false_iff];exact ⟨decide_eq_false (by omega),decide_eq_false (by omega)⟩
 ·have hp:0 < n:=by omega
  have h2:100 * n<=2 ^ 63 - 1:=by omega
  have h3:(100:Int)<=(2 ^ 63 - 1) / n:=Int.le_ediv_of_mul_le hp h2;omega
 ·have h2:x.length * n.toNat<=100 * 100:=Nat.mul_le_mul h (by omega);have h3:100 * 100<=sizeLine:=by rw [sizeLine_eq]; decide
  show decide _=false;exact decide_eq_false (by omega)
theorem B7v {X:Cx}:OpR X (binaryOp .Mult) A6r:=by
 intro pins s σ H x y v u Q I rx ry h;obtain ⟨i,n,rfl,rfl,⟨h0,h1⟩,h2,q⟩:=h;obtain ⟨t,rfl⟩:=rx;obtain ⟨t2,rfl⟩:=ry;exact PySem.SB.mul (C06 h0 h1 h2) fun t' k=>⟨.str _,H,I.tok _,⟨t',rfl⟩,q⟩
end L2
namespace Pu
open PySem L2 My Prf
def B7l (x y:PyData) (Q:SV->Prop):Prop:=asS x fun i=>asI y fun n=>(0<=n/\n<=100)/\i.length<=100/\Q (.d (.str (Txt.mul i n)))
theorem A7q {i:Str} {n:Int} {Q:SV->Prop}:B7l (.str i) (.int n) Q=((0<=n/\n<=100)/\i.length<=100/\Q (.d (.str (Txt.mul i n)))):=rfl
instance ro_mulS {K:Frag}:RO K A6r B7l where
 ok:=by
  rintro c w env σ x y dx dy Qp Q rfl E vx vy p k;unfold B7l asS at p;split at p
  ·unfold asI at p;split at p
   ·exact ⟨_,_,vx.strE,vy.intE,p.1,p.2.1,k _ _ w (Res.data E (.str _)) p.2.2⟩
   ·exact p.elim
  ·exact p.elim
end Pu
namespace L2
open PySem PySem.Spec PyProof.Rows
section
variable {pg:Program} {wo:World} {ar:Around} {xe:Value->Shared->Prop} {st:Shared}
end
end L2
namespace Pu
open PySem L2 My Prf
def pSlT (pa:PDt) (pl ph:PEnv->(Option Int->PEnv->Prop)->Prop) (env:PEnv) (Q:SV->PEnv->Prop):Prop:=pa env fun x e=>pl e fun lo e1=>ph e1 fun hi e2=>∃ (xs:LP) (b:Nat),x=.tuple xs/\lo=none/\hi=some (b:Int)/\Q (.d (.tuple (xs.take b))) e2
end Pu
namespace Pu
open PySem L2 My Prf
def OT.part:OT->Int->Option OT
 | .leaf (.tuple xs),i=>(L2.atI xs i).map .leaf
 | .leaf (.list xs),i=>(L2.atI xs i).map .leaf
 | .nd _ _ k,i=>(ixN k.len i).bind k.kid
 | _,_=>none
def B70 (o:Option (Option SV)) (env:PEnv) (Q:OT->PEnv->Prop):Prop:=match o with
 | some (some (.bt t))=>Q t env
 | some (some (.d x))=>Q (.leaf x) env
 | _=>False
def B99 (i:Nat) (env:PEnv) (Q:OT->PEnv->Prop):Prop:=B70 env[i]? env Q
theorem A9b {t:OT} {env:PEnv} {Q:OT->PEnv->Prop}:B70 (some (some (.bt t))) env Q=Q t env:=rfl
theorem A9a {x:PyData} {env:PEnv} {Q:OT->PEnv->Prop}:B70 (some (some (.d x))) env Q=Q (.leaf x) env:=rfl
def pPth (pb:PEnv->(OT->PEnv->Prop)->Prop) (pi:PDt) (env:PEnv) (Q:OT->PEnv->Prop):Prop:=pb env fun t e1=>pi e1 fun y e2=>asI y fun n=>∃ u,t.part n=some u/\Q u e2
def OT.vw (t:OT) (k:PyData->Prop):Prop:=match t with
 | .leaf x=>k x
 | t=>∃ xs,t.sv=.bor xs/\k (.list xs)
theorem A51 {x:PyData} {k:PyData->Prop}:OT.vw (.leaf x) k=k x:=rfl
def pVw (pb:PEnv->(OT->PEnv->Prop)->Prop) (env:PEnv) (Q:PyData->PEnv->Prop):Prop:=pb env fun t e=>t.vw fun x=>Q x e
def OT.lf (t:OT) (k:PyData->Prop):Prop:=match t with
 | .leaf x=>k x
 | _=>False
theorem A9i {x:PyData} {k:PyData->Prop}:OT.lf (.leaf x) k=k x:=rfl
def pLf (pb:PEnv->(OT->PEnv->Prop)->Prop) (env:PEnv) (Q:SV->PEnv->Prop):Prop:=pb env fun t e=>t.lf fun x=>Q (.d x) e
def pBr (pb:PEnv->(OT->PEnv->Prop)->Prop) (env:PEnv) (Q:LP->PEnv->Prop):Prop:=pb env fun t e=>∃ xs,t.sv=.bor xs/\Q xs e
end Pu
namespace L2
open PySem PySem.Spec PyProof.Rows
end L2
namespace Pu
open PySem L2 My Prf
def Wd.less (w:Wd) (p q:Addr):Wd:=⟨w.M,fun a=>if a=p\/a=q then none else w.H a,w.F⟩
def Mut (K:Frag) (w:Wd) (l:Addr) (xs:LP):Prop:=∃ vs,w.H l=some (.lst vs)/\w.F l=none/\¬ w.M l/\DenAll K w.F vs xs
abbrev PMu:=LP->LP->LP->(PyData->LP->LP->Prop)->Prop
def spMu (K:Frag) (nd:Nat) (psp:PMu):Sp:=fun vs H Q _=>∃ (w:Wd) (us:List V) (xs ys zs:LP) (p q:Addr) (Qp:PyData->LP->LP->Prop),w.H=H/\w.Ok/\vs=us++[.ref p,.ref q]/\us.length=nd/\p≠q/\DenAll K w.F us xs/\Mut K w p ys/\Mut K w q zs/\psp xs ys zs Qp /\
 ∀ v x ys' zs' w',w'.Ok->Le (w.less p q) w'->Den K w'.F v x->Mut K w' p ys'->Mut K w' q zs'->Qp x ys' zs'->Q v w'.H
theorem spMu.len {K:Frag} {nd:Nat} {psp:PMu} {n:Nat} (h:nd + 2=n):∀ vs H Q E,spMu K nd psp vs H Q E->vs.length=n:=by
 rintro vs H Q E ⟨w,us,xs,ys,zs,p,q,Qp,_,_,rfl,hl,_⟩;simp; omega
theorem A1b {w:Wd} {p q a:Addr} (h:a=p\/a=q):(w.less p q).H a=none:=if_pos h
theorem P9 {w:Wd} {p q a:Addr} (h:a≠p) (h':a≠q):(w.less p q).H a=w.H a:=if_neg (fun z=>z.elim h h')
theorem A1a {w:Wd} {p q a:Addr} {o:HO} (h:(w.less p q).H a=some o):w.H a=some o/\a≠p/\a≠q:=by
 unfold Wd.less at h;dsimp only at h;split at h
 ·cases h
 ·rename_i z; exact ⟨h,fun e=>z (.inl e),fun e=>z (.inr e)⟩
theorem B75 {w:Wd} {p q:Addr}:Le (w.less p q) w :=
 ⟨⟨Same.refl _,fun b o h _=>(A1a h).1,fun _ h=>h,fun _ h=>.inl h,fun b h=>by
  cases e:(w.less p q).H b with
  | none=>rfl
  | some o=>rw [(A1a e).1] at h; cases h⟩,fun a o h=>.inl h⟩
theorem Mut.fp {K:Frag} {w:Wd} {l:Addr} {xs:LP} (h:Mut K w l xs):Tre K w (.nd true l (D2 xs)) [.ref l]/\w.H l≠none/\w.F l=none/\¬ w.M l:=by
 obtain ⟨vs,h1,h2,h3,h4⟩:=h;exact ⟨⟨rfl,vs,h1,Q9 h4⟩,by rw [h1]; simp,h2,h3⟩
theorem fp_one {l a:Addr} {xs:LP}:a ∈ (OT.nd true l (D2 xs)).fp ↔ a=l:=by
 rw [show (OT.nd true l (D2 xs)).fp=l :: (D2 xs).fp from rfl,V1]; simp
theorem B8e {l:Addr} {xs:LP}:(OT.nd true l (D2 xs)).fp.Nodup:=by rw [show (OT.nd true l (D2 xs)).fp=l :: (D2 xs).fp from rfl,V1]; simp
theorem Mut.of {c:Ct} {w:Wd} {v:V} {l:Addr} {xs:LP} (h:VR c w v (.tr (.nd true l (D2 xs)))):Mut c.K w l xs:=by
 obtain ⟨⟨_,us,h1,h2⟩,h3⟩:=h;obtain ⟨_,g2,g3,_⟩:=h3.1 l (fp_one.mpr rfl);exact ⟨us,h1,g2,g3,P3 h2⟩
def B2w (nd:Nat) (p q:Addr) (Qp:PyData->LP->LP->Prop) (x:PyData) (e:PEnv):Prop:=∃ ys zs,e[nd]?=some (some (.tr (.nd true p (D2 ys))))/\e[nd + 1]?=some (some (.tr (.nd true q (D2 zs))))/\Qp x ys zs
def rtMu (nd:Nat) (p q:Addr) (Qp:PyData->LP->LP->Prop) (s:SV) (e:PEnv):Prop:=match s with
 | .d x=>B2w nd p q Qp x e
 | _=>False
theorem B3h {nd:Nat} {p q:Addr} {Qp:PyData->LP->LP->Prop} {x:PyData} {e:PEnv}:rtMu nd p q Qp (.d x) e=B2w nd p q Qp x e:=rfl
theorem B8f {K:Frag} {ts:TS} {ps:PSt} [hs:RS K ts ps] {nd:Nat} {psp:PMu} {vs:List V} {H:Hpp} {Q:VK} {E:XK} {N:List Str} (h:spMu K nd psp vs H Q E)
  (hb:∀ xs ys zs p q Qp,p≠q->psp xs ys zs Qp->ps ⟨B2w nd p q Qp .none,rtMu nd p q Qp,fun _=>False,fun _=>False⟩ (xs.map (fun x=>some (.d x))++(some (.tr (.nd true p (D2 ys))) :: some (.tr (.nd true q (D2 zs))) :: List.replicate (N.length - (nd + 2)) none))):ts { nx:=fun _ H'=>Q .non H',rt:=Q } (L2.start N vs) H:=by
 obtain ⟨w,us,xs,ys,zs,p,q,Qp,rfl,ok,rfl,hl,hne,hd,m1,m2,hp,k⟩:=h;have hxl:xs.length=nd:=by rw [<- hl]; exact hd.len.symm
 have cas:∀ (i:Nat) s,(xs.map (fun x=>some (SV.d x))++(some (.tr (.nd true p (D2 ys))) :: some (.tr (.nd true q (D2 zs))) :: List.replicate (N.length - (nd + 2)) none))[i]?=some (some s) ->
   (∃ x,xs[i]?=some x/\s=.d x)\/(i=nd/\s=.tr (.nd true p (D2 ys)))\/(i=nd + 1/\s=.tr (.nd true q (D2 zs))):=by
  intro i s e;rw [List.getElem?_append] at e;split at e
  ·rw [List.getElem?_map] at e;cases q:xs[i]? with
   | none=>rw [q] at e; cases e
   | some t=>rw [q] at e; cases e; exact .inl ⟨t,rfl,rfl⟩
  ·rename_i z;rw [List.length_map,hxl] at z e;match hi:i - nd,e with
   | 0,e=>cases e; exact .inr (.inl ⟨by omega,rfl⟩)
   | 1,e=>cases e; exact .inr (.inr ⟨by omega,rfl⟩)
   | j + 2,e =>
    rw [List.getElem?_cons_succ,List.getElem?_cons_succ,List.getElem?_replicate] at e;split at e <;> cases e
 have st0:∀ (i:Nat) u,us[i]?=some u->(L2.start N (us++[.ref p,.ref q]))[i]?=some (some u):=fun i u e=>by
  have:=(List.getElem?_eq_some_iff.mp e).1;unfold L2.start;rw [List.getElem?_append_left (by simp; omega),List.getElem?_map,List.getElem?_append_left (by omega),e]; rfl
 have st1:(L2.start N (us++[.ref p,.ref q]))[nd]?=some (some (.ref p)):=by
  unfold L2.start;rw [List.getElem?_append_left (by simp; omega),List.getElem?_map,List.getElem?_append_right (by omega),hl]; simp
 have st2:(L2.start N (us++[.ref p,.ref q]))[nd + 1]?=some (some (.ref q)):=by
  unfold L2.start;rw [List.getElem?_append_left (by simp; omega),List.getElem?_map,List.getElem?_append_right (by omega),hl]; simp
 have vr1:VR ⟨K,w.less p q,noZ⟩ w (.ref p) (.tr (.nd true p (D2 ys))):=⟨m1.fp.1,fun a ha=>by rw [fp_one.mp ha]; exact ⟨m1.fp.2.1,m1.fp.2.2.1,m1.fp.2.2.2,A1b (.inl rfl)⟩,B8e⟩;have vr2:VR ⟨K,w.less p q,noZ⟩ w (.ref q) (.tr (.nd true q (D2 zs))):=⟨m2.fp.1,fun a ha=>by rw [fp_one.mp ha]; exact ⟨m2.fp.2.1,m2.fp.2.2.1,m2.fp.2.2.2,A1b (.inr rfl)⟩,B8e⟩;have fin:∀ x env σ w',EnvOk ⟨K,w.less p q,noZ⟩ w' env σ->B2w nd p q Qp x env->∀ v,Den K w'.F v x->Q v w'.H:=fun x env σ w' E' ⟨ys',zs',e1,e2,qp⟩ v hv=>by
  obtain ⟨u1,_,g1⟩:=E'.at' _ _ e1;obtain ⟨u2,_,g2⟩:=E'.at' _ _ e2;exact k v x ys' zs' w' E'.wok E'.le0 hv (Mut.of g1) (Mut.of g2) qp
 refine hs.ok ⟨K,w.less p q,noZ⟩ w _ (L2.start N (us++[.ref p,.ref q])) _ { nx:=fun _ H'=>Q .non H',rt:=Q } rfl ⟨ok,B75,by simp [L2.start,hxl,hl],fun i s e=>?_,fun i j s t v u a e e' g g' f f'=>?_,fun a z=>z.elim,fun a j t u z=>z.elim⟩ ⟨fun env σ w' E' _ q=>fin _ env σ w' E' q _ .non,fun v s env σ w' E' h r hq=>?_,fun _ _ _ _ _ z=>False.elim z,fun _ _ _ _ _ z=>False.elim z⟩ (hb xs ys zs p q Qp hne hp)
 ·rcases cas i s e with ⟨x,hx,rfl⟩ | ⟨rfl,rfl⟩ | ⟨rfl,rfl⟩
  ·obtain ⟨u,hu,hx2⟩:=hd.at hx;exact ⟨u,st0 i u hu,hx2⟩
  ·exact ⟨_,st1,vr1⟩
  ·exact ⟨_,st2,vr2⟩
 ·rcases cas i s e with ⟨x,hx,rfl⟩ | ⟨rfl,rfl⟩ | ⟨rfl,rfl⟩
  ·exact f.elim
  ·rcases cas j t e' with ⟨x,hx,rfl⟩ | ⟨rfl,rfl⟩ | ⟨rfl,rfl⟩
   ·exact f'.elim
   ·rfl
   ·exact absurd ((fp_one.mp f).symm.trans (fp_one.mp f')) hne
  ·rcases cas j t e' with ⟨x,hx,rfl⟩ | ⟨rfl,rfl⟩ | ⟨rfl,rfl⟩
   ·exact f'.elim
   ·exact absurd ((fp_one.mp f').symm.trans (fp_one.mp f)) hne
   ·rfl
 ·have hq':rtMu nd p q Qp s env:=hq;unfold rtMu at hq';split at hq'
  ·exact fin _ env σ w' E' hq' v h
  ·exact hq'.elim
def tMu (i:Nat):TE:=tVar i
def oMu (o:Option (Option SV)) (k:Addr->LP->Prop):Prop:=match o with
 | some (some (.tr t))=>∃ a xs,t=.nd true a (D2 xs)/\k a xs
 | _=>False
theorem C3a {a:Addr} {xs:LP} {k:Addr->LP->Prop} (h:k a xs):oMu (some (some (.tr (.nd true a (D2 xs))))) k:=⟨a,xs,rfl,h⟩
theorem X7 {xs ys:LP} (h:D2 xs=D2 ys):xs=ys:=by
 have:=congrArg OT.dat h
 rwa [R8,R8] at this
theorem C0z {a:Addr} {xs:LP} {k:Addr->LP->Prop}:oMu (some (some (.tr (.nd true a (D2 xs))))) k=k a xs :=
 propext ⟨fun ⟨_,_,e,h⟩=>by
  have e1:=(OT.nd.inj e).2.1;have e2:=X7 (OT.nd.inj e).2.2;subst e1; subst e2; exact h,C3a⟩
def pMuV (i:Nat) (env:PEnv) (Q:PyData->PEnv->Prop):Prop:=oMu env[i]? fun _ xs=>Q (.list xs) env
instance (priority:=high) rw_mu {K:Frag} {i:Nat}:RW K (tMu i) (pMuV i) where
 ok:=by
  rintro c w env σ Qp Q rfl E p k;unfold pMuV oMu at p;split at p
  ·rename_i t e;obtain ⟨a,xs,rfl,p⟩:=p;obtain ⟨v,h1,h2⟩:=E.at' i _ e;obtain ⟨vs,g1,g2,g3,g4⟩:=Mut.of h2;have ev:v=.ref a:=List.singleton_inj.mp h2.1.1;exact ⟨v,h1,k v _ env w E (Lw.refl w) (.inr ⟨a,vs,xs,ev,rfl,g1,g3,g4⟩) p⟩
  ·exact p.elim
def A7j (pd:PDt) (i:Nat) (pi:PDt) (D:PEnds) (env:PEnv):Prop:=pd env fun x e=>oMu e[i]? fun _ _=>pi e fun y e2=>asI y fun n=>oMu e2[i]? fun a xs=>∃ j,ixN xs.length n=some j/\D.nx (e2.set i (some (.tr (.nd true a (D2 (xs.set j x))))))
instance (priority:=high) rs_setMu {K:Frag} {i:Nat} {te ti:TE} {pd pi:PDt} [he:RD K te pd] [hi:RW K ti pi]:RS K (tAsg te (gSub (tMu i) ti B6k)) (A7j pd i pi) where
 ok:=by
  rintro c w env σ Dp D rfl E h p;refine he.ok c w env σ _ _ rfl E p fun v x e1 w1 E1 l1 d1 q1=>?_;unfold oMu at q1;split at q1
  ·rename_i t0 e0;obtain ⟨a0,xs0,rfl,q1⟩:=q1;obtain ⟨o,g0,h2⟩:=E1.at' i _ e0;refine ⟨_,g0,hi.ok c w1 e1 σ _ _ rfl E1 q1 fun u y e2 w2 E2 l2 d2 q2=>?_⟩;unfold asI at q2;split at q2
   ·rename_i n;split at q2
    ·rename_i t e;obtain ⟨a,xs,rfl,j,hj,q2⟩:=q2;obtain ⟨o',g0',h2'⟩:=E2.at' i _ e;rw [g0] at g0'; cases g0';obtain ⟨vs',k1,k2,k3,k5⟩:=Mut.of h2';have ev:o=.ref a:=List.singleton_inj.mp h2'.1.1;subst ev;have hn:=d2.intE;refine ⟨a,vs',n,j,rfl,hn,k1,by rw [k5.len]; exact hj,?_⟩;refine h.nx _ σ ⟨w2.M,upd w2.H a (.lst (vs'.set j v)),w2.F⟩ (E2.writeAt (s':=.tr (.nd true a (D2 (xs.set j x)))) e g0 (fp_one.mpr rfl) (fun b hb=>fp_one.mpr (fp_one.mp hb)) ⟨⟨rfl,_,D7,Q9 (DenAll.setAt (Den.same l2.f d1) j k5)⟩,fun b hb=>?_,B8e⟩) (l1.f.trans l2.f) q2;rw [fp_one.mp hb];obtain ⟨z1,z2,z3,z4⟩:=h2'.2.1 a (fp_one.mpr rfl);exact ⟨fun z=>z1 (P2 z),z2,z3,z4⟩
    ·exact q2.elim
   ·exact q2.elim
  ·exact q1.elim
class RA2 (K:Frag) (nd:Nat) (ta:TA) (pa:outParam (PEnv->(LP->Nat->Nat->PEnv->Prop)->Prop)):Prop where
 ok:∀ (c:Ct) (w:Wd) (env:PEnv) (σ:St) (Qp:LP->Nat->Nat->PEnv->Prop) (Q:List V->Hpp->Prop),c.K=K->EnvOk c w env σ->pa env Qp->(∀ vs xs i j u v env' w',EnvOk c w' env' σ->Lw w w'->vs.length=nd->DenAll K w'.F vs xs->σ[i]?=some (some u)->σ[j]?=some (some v)->Qp xs i j env'->Q (vs++[u,v]) w'.H)->ta σ w.H Q
def is2 (o o':Option (Option SV)) (k:Prop):Prop:=match o,o' with
 | some (some (.own _)),some (some (.own _))=>k
 | _,_=>False
theorem C1n {xs ys:LP} {k:Prop}:is2 (some (some (.own xs))) (some (some (.own ys))) k=k:=rfl
def pA2 (i j:Nat) (env:PEnv) (Q:LP->Nat->Nat->PEnv->Prop):Prop:=is2 env[i]? env[j]? (Q [] i j env)
instance ra2_nil {K:Frag} {i j:Nat}:RA2 K 0 (N2 (tVar i) (N2 (tVar j) tNil)) (pA2 i j) where
 ok:=by
  rintro c w env σ Qp Q rfl E p k;unfold pA2 is2 at p;split at p
  ·rename_i xs ys e1 e2;obtain ⟨u,h1,_⟩:=E.at' i _ e1;obtain ⟨v,h2,_⟩:=E.at' j _ e2;exact ⟨u,h1,v,h2,k [] [] i j u v env w E (Lw.refl w) rfl .nil h1 h2 p⟩
  ·exact p.elim
def pC2 (pd:PDt) (pr:PEnv->(LP->Nat->Nat->PEnv->Prop)->Prop) (env:PEnv) (Q:LP->Nat->Nat->PEnv->Prop):Prop:=pd env fun x e1=>pr e1 fun xs i j e2=>Q (x :: xs) i j e2
instance ra2_cons {K:Frag} {n:Nat} {ta:TE} {tr:TA} {pd:PDt} {pr:PEnv->(LP->Nat->Nat->PEnv->Prop)->Prop} [ha:RD K ta pd] [hr:RA2 K n tr pr]:RA2 K (n + 1) (N2 ta tr) (pC2 pd pr) where
 ok:=by
  rintro c w env σ Qp Q rfl E p k;refine ha.ok c w env σ _ _ rfl E p fun x dx e1 w1 E1 l1 v1 q1=>?_;refine hr.ok c w1 e1 σ _ _ rfl E1 q1 fun vs xs i j u v e2 w2 E2 l2 hl d h1 h2 q2=>?_;exact k (x :: vs) (dx :: xs) i j u v e2 w2 E2 (l1.trans l2) (by simp [hl]) (.cons (Den.same l2.f v1) d) h1 h2 q2
theorem Tre.less {K:Frag} {w:Wd} {p q:Addr}:∀ {t:OT} {vs:List V},Tre K w t vs->p ∉ t.fp->q ∉ t.fp->Tre K (w.less p q) t vs
 | .leaf _,_,h,_,_=>h
 | .nd _ a _,_,⟨e,ys,h,k⟩,n,m=>⟨e,ys,by rw [P9 (fun z=>n (by simp [OT.fp,z])) (fun z=>m (by simp [OT.fp,z]))]; exact h,Tre.less k (fun z=>n (by simp [OT.fp,z])) fun z=>m (by simp [OT.fp,z])⟩
 | .nil,_,e,_,_=>e
 | .cons _ _,_,⟨v,r,e,h,t⟩,n,m=>⟨v,r,e,Tre.less h (fun z=>n (by simp [OT.fp,z])) fun z=>m (by simp [OT.fp,z]),Tre.less t (fun z=>n (by simp [OT.fp,z])) fun z=>m (by simp [OT.fp,z])⟩
theorem VR.less {c:Ct} {w:Wd} {v:V} {p q:Addr}:∀ {s:SV},VR c w v s->¬ s.foot v p->¬ s.foot v q->VR c (w.less p q) v s
 | .d _,h,_,_=>h
 | .own _,⟨l',vs,e,k1,k2,k3,k4,k5⟩,n,m=>⟨l',vs,e,by rw [P9 (fun z=>n (by rw [<- z]; exact e)) (fun z=>m (by rw [<- z]; exact e))]; exact k1,k2,k3,k4,k5⟩
 | .bor _,h,_,_=>h
 | .st,h,_,_=>h
 | .bt _,h,_,_=>h
 | .al _,h,_,_=>h
 | .dk _,⟨l',e,k1,k2,k3,k4⟩,n,m=>⟨l',e,by rw [P9 (fun z=>n (by rw [<- z]; exact e)) (fun z=>m (by rw [<- z]; exact e))]; exact k1,k2,k3,k4⟩
 | .tr _,⟨h,o,d⟩,n,m=>⟨h.less n m,fun a ha=>⟨by rw [P9 (fun z=>n (by rw [<- z]; exact ha)) (fun z=>m (by rw [<- z]; exact ha))]; exact (o a ha).1,(o a ha).2⟩,d⟩
theorem EnvOk.mut {c:Ct} {w w':Wd} {env:PEnv} {σ:St} {i j:Nat} {p q:Addr} {ys zs ys' zs':LP} (E:EnvOk c w env σ) (ei:env[i]?=some (some (.own ys))) (ej:env[j]?=some (some (.own zs))) (si:σ[i]?=some (some (.ref p))) (sj:σ[j]?=some (some (.ref q)))
  (ok:w'.Ok) (l:Le (w.less p q) w') (m1:Mut c.K w' p ys') (m2:Mut c.K w' q zs'):EnvOk c w' ((env.set i (some (.own ys'))).set j (some (.own zs'))) σ:=by
 obtain ⟨v1,hv1,hV1⟩:=E.at' i _ ei;rw [si] at hv1; cases hv1;obtain ⟨v2,hv2,hV2⟩:=E.at' j _ ej;rw [sj] at hv2; cases hv2;obtain ⟨_,_,_,z1⟩:=hV1.foot (a:=p) rfl;obtain ⟨_,_,_,z2⟩:=hV2.foot (a:=q) rfl;have le0:Le c.w0 (w.less p q):=⟨⟨E.le0.f,fun b o h n=>by
   rw [P9 (fun z=>by rw [z,z1] at h; cases h) (fun z=>by rw [z,z2] at h; cases h)]; exact E.le0.h b o h n,E.le0.m,E.le0.mn,fun b h=>by
   by_cases y:b=p\/b=q
   ·rcases y with rfl | rfl
    ·exact z1
    ·exact z2
   ·rw [P9 (fun z=>y (.inl z)) (fun z=>y (.inr z))] at h; exact E.le0.dom b h⟩,E.le0.n⟩
 have hd:∀ {k:Nat} {t:SV},((env.set i (some (.own ys'))).set j (some (.own zs')))[k]?=some (some t)->(k=j/\t=.own zs')\/(k=i/\t=.own ys')\/(k≠i/\k≠j/\env[k]?=some (some t)):=by
  intro k t q;rw [List.getElem?_set] at q;split at q
  ·rename_i e;split at q
   ·cases q; exact .inl ⟨e.symm,rfl⟩
   ·cases q
  ·rename_i e;rw [List.getElem?_set] at q;split at q
   ·rename_i e';split at q
    ·cases q; exact .inr (.inl ⟨e'.symm,rfl⟩)
    ·cases q
   ·rename_i e';exact .inr (.inr ⟨fun z=>e' z.symm,fun z=>e z.symm,q⟩)
 have fo:∀ {k:Nat} {t:SV} {u:V} {a:Addr},((env.set i (some (.own ys'))).set j (some (.own zs')))[k]?=some (some t)->σ[k]?=some (some u)->t.foot u a->∃ s,env[k]?=some (some s)/\s.foot u a:=by
  intro k t u a q g f;rcases hd q with ⟨rfl,rfl⟩ | ⟨rfl,rfl⟩ | ⟨_,_,q⟩
  ·exact ⟨_,ej,f⟩
  ·exact ⟨_,ei,f⟩
  ·exact ⟨_,q,f⟩
 refine ⟨ok,le0.trans l,by simpa using E.len,fun k t q=>?_,fun k k' s t v u a q1 q2 q3 q4 f1 f2=>?_,fun a za=>?_,fun a k t u za q q' f=>?_⟩
 ·rcases hd q with ⟨rfl,rfl⟩ | ⟨rfl,rfl⟩ | ⟨n1,n2,q⟩
  ·obtain ⟨vs,h1,h2,h3,h4⟩:=m2;exact ⟨_,sj,_,vs,rfl,h1,h2,h3,z2,h4⟩
  ·obtain ⟨vs,h1,h2,h3,h4⟩:=m1;exact ⟨_,si,_,vs,rfl,h1,h2,h3,z1,h4⟩
  ·obtain ⟨u,g1,g2⟩:=E.at' k t q;exact ⟨u,g1,(g2.less (fun f=>n1 (E.own k i _ _ _ _ p q ei g1 si f rfl)) (fun f=>n2 (E.own k j _ _ _ _ _ q ej g1 sj f rfl))).mono l⟩
 ·obtain ⟨s',p1,g1⟩:=fo q1 q3 f1;obtain ⟨t',p2,g2⟩:=fo q2 q4 f2;exact E.own k k' _ _ _ _ a p1 p2 q3 q4 g1 g2
 ·obtain ⟨y1,y2,y3⟩:=E.zf a za;have n1:a≠p:=fun z=>E.zo a i _ _ za ei si (by rw [z]; rfl);have n2:a≠q:=fun z=>E.zo a j _ _ za ej sj (by rw [z]; rfl);have y2':(w.less p q).H a≠none:=by rw [P9 n1 n2]; exact y2
  exact ⟨l.fnone y1 y2',l.hsome y2',l.nm y2' y3⟩
 ·obtain ⟨s',p1,g1⟩:=fo q q' f;exact E.zo a k _ _ za p1 q' g1
def own2 (o o':Option (Option SV)) (k:LP->LP->Prop):Prop:=match o,o' with
 | some (some (.own xs)),some (some (.own ys))=>k xs ys
 | _,_=>False
theorem B4r {xs ys:LP} {k:LP->LP->Prop}:own2 (some (some (.own xs))) (some (some (.own ys))) k=k xs ys:=rfl
def pMu (psp:PMu) (pa:PEnv->(LP->Nat->Nat->PEnv->Prop)->Prop) (env:PEnv) (Q:PyData->PEnv->Prop):Prop:=pa env fun xs i j e=>i≠j/\own2 e[i]? e[j]? fun ys zs=>psp xs ys zs fun x ys' zs'=>Q x ((e.set i (some (.own ys'))).set j (some (.own zs')))
theorem C2b {K:Frag} {nd:Nat} {psp:PMu} {E0:XK} {ta:TA} {pa:PEnv->(LP->Nat->Nat->PEnv->Prop)->Prop} [ha:RA2 K nd ta pa] {c:Ct} {w:Wd} {env:PEnv} {σ:St} {Qp:PyData->PEnv->Prop} {Q:VK} (hK:c.K=K) (E:EnvOk c w env σ) (p:pMu psp pa env Qp)
  (k:∀ v x env' w',EnvOk c w' env' σ->Same w.F w'.F->Den K w'.F v x->Qp x env'->Q v w'.H):A6h (spMu K nd psp) [] E0 ta σ w.H Q:=by
 subst hK;refine ha.ok c w env σ _ _ rfl E p fun vs xs i j u v e1 w1 E1 l1 hl d s1 s2 q1=>?_;rw [List.append_nil];obtain ⟨hij,q1⟩:=q1;unfold own2 at q1;split at q1
 ·rename_i ys zs ei ej;obtain ⟨u',g1,l,vs1,rfl,a1,a2,a3,a4,a5⟩:=E1.at' i _ ei;rw [s1] at g1; cases g1;obtain ⟨v',g2,l',vs2,rfl,b1,b2,b3,b4,b5⟩:=E1.at' j _ ej;rw [s2] at g2; cases g2;refine ⟨w1,vs,xs,ys,zs,l,l',_,rfl,E1.wok,rfl,hl,fun z=>hij (E1.own i j _ _ _ _ l ei ej s1 s2 rfl (by rw [z]; rfl)),d,⟨vs1,a1,a2,a3,a5⟩,⟨vs2,b1,b2,b3,b5⟩,q1,fun v x ys' zs' w' ok le hv m1 m2 q=>?_⟩;exact k v x _ w' (E1.mut ei ej s1 s2 ok le m1 m2) (l1.f.trans le.f) hv q
 ·exact q1.elim
def B4n (psp:PMu) (pa:PEnv->(LP->Nat->Nat->PEnv->Prop)->Prop) (m:Nat) (D:PEnds) (env:PEnv):Prop:=pMu psp pa env fun x e=>D.nx (e.set m (some (.d x)))
def A2l (psp:PMu) (pa:PEnv->(LP->Nat->Nat->PEnv->Prop)->Prop) (D:PEnds) (env:PEnv):Prop:=pMu psp pa env fun _ e=>D.nx e
instance (priority:=high) rs_dropMu {K:Frag} {nd:Nat} {psp:PMu} {E0:XK} {ta:TA} {pa:PEnv->(LP->Nat->Nat->PEnv->Prop)->Prop} [ha:RA2 K nd ta pa]:RS K (A6e (A6h (spMu K nd psp) [] E0 ta)) (A2l psp pa) where
 ok:=by
  rintro c w env σ Dp D rfl E h p;exact C2b rfl E p fun v x e1 w1 E1 s1 hv q=>h.nx _ _ w1 E1 s1 q
end Pu
namespace L2
open PySem PySem.Spec PyProof.Rows
theorem qMu {X:Cx} {e:Expr} {i:Nat} (h:QE X e (tVar i)):QE X e (Pu.tMu i):=h
end L2
namespace Pu
open PySem L2 My Prf
def B4h (i:Nat) (pg:PyData->PEnv->(PEnv->Prop)->Prop) (pt:PTt) (pd:PDt) (cap:List (Option Nat)) (env:PEnv) (Q:SV->PEnv->Prop):Prop:=N6 env[i]? fun xs=>xs.length < 1000000/\M8 xs pg pt pd (L1 cap env) fun ys=>Q (.own ys) env
def A04 (i:Nat) (pg:PyData->PEnv->(PEnv->Prop)->Prop) (pt:PTt) (pd:PDt) (cap:List (Option Nat)) (j:Nat) (D:PEnds) (env:PEnv):Prop:=N6 env[i]? fun xs=>xs.length < 1000000/\M8 xs pg pt pd (L1 cap env) fun ys=>D.nx (env.set j (some (.own ys)))
end Pu
namespace L2
open PySem PySem.Spec PyProof.Rows
end L2
namespace Pu
open PySem L2 My Prf
def pDa (pb:PEnv->(OT->PEnv->Prop)->Prop) (env:PEnv) (Q:PyData->PEnv->Prop):Prop:=pb env fun t e=>∃ x,t.dat=[x]/\Q x e
def OT.setK:OT->Nat->OT->OT
 | .cons _ t,0,x=>.cons x t
 | .cons h t,n + 1,x=>.cons h (t.setK n x)
 | t,_,_=>t
structure Sub (K:Frag) (w:Wd) (T u:OT) (r:OT->OT) (v0 v:V):Prop where
 tre:Tre K w u [v]
 re:∀ (w':Wd) x,(∀ a o,w.H a=some o->a ∉ u.fp->w'.H a=some o)->Same w.F w'.F->Tre K w' x [v]->Tre K w' (r x) [v0]
 fp:∃ A B,T.fp=A++u.fp++B/\∀ x,(r x).fp=A++x.fp++B
def C09 (T:OT) (k:OT->(OT->OT)->Prop):Prop:=k T fun x=>x
def mIx (pm:OT->(OT->(OT->OT)->Prop)->Prop) (n:Int) (T:OT) (k:OT->(OT->OT)->Prop):Prop:=pm T fun t r=>∃ b a ks j u,t=.nd b a ks/\ixN ks.len n=some j/\ks.kid j=some u/\k u fun x=>r (.nd b a (ks.setK j x))
def isLs (u:OT) (k:Addr->LP->Prop):Prop:=∃ a xs,u=.nd true a (D2 xs)/\k a xs
theorem B5m {a:Addr} {xs:LP} {k:Addr->LP->Prop}:isLs (.nd true a (D2 xs)) k=k a xs :=
 propext ⟨fun ⟨_,_,e,h⟩=>by
  have e1:=(OT.nd.inj e).2.1;have e2:=X7 (OT.nd.inj e).2.2;subst e1; subst e2; exact h,fun h=>⟨a,xs,rfl,h⟩⟩
def C0j (i:Nat) (pm:OT->(OT->(OT->OT)->Prop)->Prop) (D:PEnds) (env:PEnv):Prop:=asTr env[i]? fun T=>pm T fun u r=>isLs u fun a _=>D.nx (env.set i (some (.tr (r (.nd true a .nil)))))
def C0o (i:Nat) (pm:OT->(OT->(OT->OT)->Prop)->Prop) (x:PyData) (D:PEnds) (env:PEnv):Prop:=asTr env[i]? fun T=>pm T fun u r=>isLs u fun a xs=>xs.length < 1000000/\D.nx (env.set i (some (.tr (r (.nd true a (D2 (xs++[x])))))))
def oInt (o:Option (Option SV)) (k:Int->Prop):Prop:=match o with
 | some (some (.d (.int n)))=>k n
 | _=>False
def B9w (pd:PDt) (i:Nat) (pm:OT->(OT->(OT->OT)->Prop)->Prop) (j:Nat) (D:PEnds) (env:PEnv):Prop:=pd env fun x e=>asTr e[i]? fun T=>pm T fun u r=>isLs u fun a xs=>oInt e[j]? fun n=>∃ m,ixN xs.length n=some m/\D.nx (e.set i (some (.tr (r (.nd true a (D2 (xs.set m x)))))))
theorem B45 {n:Int} {k:Int->Prop}:oInt (some (some (.d (.int n)))) k=k n:=rfl
def OT.slot:OT->SV
 | .leaf x=>.d x
 | .nd true a k=>match k.lvs with
  | some xs=>.own xs
  | none=>.tr (.nd true a k)
 | t=>.tr t
theorem A0q {x:PyData}:OT.slot (.leaf x)=.d x:=rfl
theorem A6m {a:Addr} {xs:LP}:OT.slot (.nd true a (D2 xs))=.own xs:=by show (match (D2 xs).lvs with | some xs=>SV.own xs | none=>_)=_; rw [R7]
def tUn (te:TE):TE:=te
def unT (s:SV) (a b:Nat) (e:PEnv) (k:PEnv->Prop):Prop:=match s with
 | .d x=>∃ y z,x=.tuple [y,z]/\k ((e.set a (some (.d y))).set b (some (.d z)))
 | .tr t=>∃ p u v,t=.nd false p (.cons u (.cons v .nil))/\k ((e.set a (some u.slot)).set b (some v.slot))
 | _=>False
theorem B8t {p:Addr} {u v:OT} {a b:Nat} {e:PEnv} {k:PEnv->Prop}:unT (.tr (.nd false p (.cons u (.cons v .nil)))) a b e k=k ((e.set a (some u.slot)).set b (some v.slot)) :=
 propext ⟨fun ⟨_,_,_,e,h⟩=>by
  obtain ⟨_,_,e3⟩:=OT.nd.inj e;obtain ⟨e4,e5⟩:=OT.cons.inj e3;obtain ⟨e6,_⟩:=OT.cons.inj e5;subst e4; subst e6; exact h,fun h=>⟨p,u,v,rfl,h⟩⟩
def pUnT (pe:PX) (a b:Nat) (D:PEnds) (env:PEnv):Prop:=pe env fun s e=>unT s a b e D.nx
def B4k (psp:PSp) (pa:PAr) (env:PEnv) (Q:SV->PEnv->Prop):Prop:=pa env fun xs e=>psp (xs.map .d) fun s=>∃ b,s=.d (.bool b)/\Q (.d (.bool b)) e
def kids:List OT->OT
 | []=>.nil
 | t :: r=>.cons t (kids r)
def B2e (xs:LP) (pg:PyData->PEnv->(PEnv->Prop)->Prop) (pt:PTt) (pe:PX) (e0:PEnv) (Fin:List OT->Prop):Prop :=
 ∃ Pv:Nat->PEnv->List OT->Prop,Pv 0 e0 []/\(∀ i x e ys,xs[i]?=some x->Pv i e ys->pg x e fun e2=>pt e2 fun b e3=>if b=true then pe e3 fun s e4=>s.ot fun t=>Pv (i + 1) e4 (ys++[t]) else Pv (i + 1) e3 ys)/\∀ e ys,Pv xs.length e ys->Fin ys
def pCmT (pi:PAr) (pg:PyData->PEnv->(PEnv->Prop)->Prop) (pt:PTt) (pe:PX) (cap:List (Option Nat)) (env:PEnv) (Q:SV->PEnv->Prop):Prop:=pi env fun xs e=>xs.length < 1000000/\B2e xs pg pt pe (L1 cap e) fun ts=>∀ a,Q (.tr (.nd true a (kids ts))) e
def OT.tup (a:Addr) (k:OT):SV:=match k.lvs with
 | some xs=>.d (.tuple xs)
 | none=>.tr (.nd false a k)
def B9s (pe:PX) (env:PEnv) (Q:SV->PEnv->Prop):Prop:=pe env fun s e=>∃ a k,s=.tr (.nd true a k)/\∀ p,Q (OT.tup p k) e
end Pu
namespace L2
open PySem PySem.Spec PyProof.Rows
section
variable {X:Cx} {e:Expr}
end
end L2
namespace Pu
open PySem L2 My Prf
end Pu
namespace L2
open PySem PySem.Spec PyProof.Rows
section
variable {X:Cx} {e:Expr}
end
end L2
namespace L2
open PySem PySem.Spec PyProof.Rows
section
variable {X:Cx} {tg:Expr}
def B8y (i j k:Int):Nat:=if i < j then ((j - i - 1) / k + 1).toNat else 0
end
end L2
namespace Pu
open PySem L2 My Prf
def stpD (lo st:Int) (n:Nat):LP:=(List.range n).map fun k:Nat=>PyData.int (lo + (k:Nat) * st)
def C0v (xs:LP) (Q:LP->Prop):Prop:=match xs with
 | [.int i,.int j,.int k]=>((0<=i/\i<=1000)/\(0<=j/\j<=1000)/\0 < k/\k<=1000)/\Q (stpD i k (B8y i j k))
 | _=>False
theorem A8v {i j k:Int} {Q:LP->Prop}:C0v [.int i,.int j,.int k] Q=(((0<=i/\i<=1000)/\(0<=j/\j<=1000)/\0 < k/\k<=1000)/\Q (stpD i k (B8y i j k))):=rfl
def B9y (pa:PAr) (env:PEnv) (Q:LP->PEnv->Prop):Prop:=pa env fun xs e=>C0v xs fun ys=>Q ys e
def B94 (i j:Nat) (D:PEnds) (env:PEnv):Prop:=N6 env[j]? fun ys=>∃ y r,ys=y :: r/\D.nx ((env.set j (some (.own r))).set i (some (.d y)))
def A7o (i j a b:Nat) (D:PEnds) (env:PEnv):Prop:=a≠b/\N6 env[a]? fun xs=>N6 env[b]? fun ys=>∃ x r y t,xs=x :: r/\ys=y :: t/\D.nx ((((env.set a (some (.own r))).set b (some (.own t))).set i (some (.d x))).set j (some (.d y)))
def B95 (i j:Nat) (pa:PEnv->(OT->PEnv->Prop)->Prop) (D:PEnds) (env:PEnv):Prop:=pa env fun t e=>∃ a b xs ys,t=.cons (.nd true a (D2 xs)) (.cons (.nd true b (D2 ys)) .nil)/\i≠j/\D.nx ((e.set i (some (.own xs))).set j (some (.own ys)))
def OT.lks:OT->Bool
 | .nil=>true
 | .cons (.nd true _ _) t=>t.lks
 | _=>false
def A72 (i j:Nat) (D:PEnds) (env:PEnv):Prop:=asTr env[i]? fun t=>i≠j/\j < env.length/\∃ a ks,t=.nd true a ks/\ks.lks=true/\D.nx ((env.set i none).set j none)
def A2m (pe:PX) (pr:PAs) (env:PEnv) (Q:List SV->PEnv->Prop):Prop:=pe env fun s e1=>isSt (some (some s)) (pr e1 fun as e2=>Q (.st :: as) e2)
instance (priority:=low) ram_stE {K:Frag} {md:List Md} {te:TE} {tr:TA} {pe:PX} {pr:PAs} [he:RE K te pe] [hr:RAm K md tr pr]:RAm K (.st :: md) (N2 te tr) (A2m pe pr) where
 ok:=by
  rintro c w env σ Qp Q rfl E p k;refine he.ok c w env σ _ _ rfl E p fun v s e1 w1 R q1=>?_;unfold isSt at q1;split at q1
  ·rename_i e;cases e;refine hr.ok c w1 e1 σ _ _ rfl R.ev q1 fun vs xs e2 w2 E2 l2 v2 q2=>?_;obtain ⟨q,e',hm⟩:=R.val;exact k _ _ e2 w2 E2 (R.lw.trans l2) (.st ⟨q,e',l2.m _ hm⟩ v2) q2
  ·exact q1.elim
def B3w (pa:PDt) (env:PEnv) (Q:SV->PEnv->Prop):Prop:=pa env fun d e=>B6f d/\Q (.d (.str d.shown)) e
end Pu
namespace L2
open PySem
end L2
namespace L2
open PySem PySem.Spec PyProof.Rows
section
variable {X:Cx} {pos:Pos}
end
end L2
namespace Pu
open PySem L2 My Prf
def pDN (kvs:List (Key × V)) (env:PEnv) (Q:SV->PEnv->Prop):Prop:=Q (.d (.dict (kvs.map A2w))) env
def B73:List (PyData × PyData)->Str->Option PyData
 | [],_=>none
 | (.str x,z) :: r,s=>if x=s then some z else B73 r s
 | _ :: r,s=>B73 r s
def pDk (pa pb:PDt) (env:PEnv) (Q:SV->PEnv->Prop):Prop:=pa env fun x e=>pb e fun y e2=>∃ ds s t,x=.dict ds/\y=.str s/\B73 ds s=some (.str t)/\Q (.d (.str t)) e2
end Pu
namespace Pu
open PySem L2 My Prf
def B9t (pe:PX) (env:PEnv) (Q:SV->PEnv->Prop):Prop:=pe env fun s e=>∃ a k,s=.tr (.nd true a k)/\((∀ p,Q (OT.tup p k) e)\/∀ p,Q (.tr (.nd false p k)) e)
def OT.atoms:OT->Bool
 | .leaf x=>match x with
  | .list _=>false
  | .tuple _=>false
  | .dict _=>false
  | _=>true
 | .nd _ _ k=>k.atoms
 | .nil=>true
 | .cons h t=>h.atoms && t.atoms
def B4l (psp:PSp) (pa:PAr) (env:PEnv) (Q:SV->PEnv->Prop):Prop:=pa env fun xs e=>psp (xs.map .d) fun s=>∃ t,s=.tr t/\t.atoms=true/\Q (.tr t) e
end Pu
namespace L2
open PySem PySem.Spec PyProof.Rows
section
variable {X:Cx} {e:Expr}
end
end L2
namespace L2
open PySem PySem.Spec PyProof.Rows
section
variable {κ:Type} [DecidableEq κ]
def valV (kvs:List (κ × V)) (k:κ):Option V:=(kvs.find? fun kv=>decide (kv.1=k)).map (·.2)
def putK (kvs:List (κ × V)) (k:κ) (v:V):List (κ × V) :=
 if (kvs.any fun kv=>decide (kv.1=k))=true then kvs.map (fun kv=>if kv.1=k then (kv.1,v) else kv) else kvs++[(k,v)]
theorem Y3 {p:κ × V} {r:List (κ × V)} {k:κ} (e:p.1=k):valV (p :: r) k=some p.2:=by simp [valV,List.find?_cons,e]
theorem Y4 {p:κ × V} {r:List (κ × V)} {k:κ} (e:¬ p.1=k):valV (p :: r) k=valV r k:=by simp [valV,List.find?_cons,e]
theorem Y5 (k:κ):∀ kvs:List (κ × V),(kvs.any fun kv=>decide (kv.1=k))=(valV kvs k).isSome
 | []=>rfl
 | p :: r=>by
  rw [List.any_cons];by_cases e:p.1=k
  ·simp only [Y3 e,decide_eq_true e,Bool.true_or,Option.isSome_some]
  ·rw [Y4 e,decide_eq_false e,Bool.false_or]; exact Y5 k r
theorem Q0 (kvs:List (κ × V)) (k:κ) (v:V):(putK kvs k v).length<=kvs.length + 1:=by
 unfold putK;split
 ·rw [List.length_map]; omega
 ·rw [List.length_append,List.length_cons,List.length_nil]; omega
theorem A3o {kvs:List (κ × V)} {k:κ} (v:V) (h:valV kvs k=none):putK kvs k v=kvs++[(k,v)]:=by
 unfold putK;rw [Y5,h];exact if_neg (by decide)
theorem RelO.isSome_eq {o:Option V} {u:Option Value} (r:RelO o u):o.isSome=u.isSome:=by
 cases o with
 | none=>cases u with
  | none=>rfl
  | some _=>exact (show False from r).elim
 | some _=>cases u with
  | none=>exact (show False from r).elim
  | some _=>rfl
theorem KV.val {kvs:List (κ × V)} {vs:List (κ × Value)} (r:KV kvs vs) (k:κ):RelO (valV kvs k) (valueAt vs k):=by
 unfold KV at r;induction r with
 | nil=>exact True.intro
 | @cons p q ps qs h t ih =>
  obtain ⟨h1,h2⟩:=h;by_cases e:p.1=k
  ·have e':q.1=k:=h1.symm.trans e;have b:valueAt (q :: qs) k=some q.2:=by simp [valueAt,List.find?_cons,e']
   rw [Y3 e,b]; exact h2
  ·have e':¬ q.1=k:=fun z=>e (h1.trans z);have b:valueAt (q :: qs) k=valueAt qs k:=by simp [valueAt,List.find?_cons,e']
   rw [Y4 e,b]; exact ih
theorem KV.any {kvs:List (κ × V)} {vs:List (κ × Value)} (r:KV kvs vs) (k:κ):(kvs.any fun kv=>decide (kv.1=k))=vs.any fun kv=>decide (kv.1=k):=by
 unfold KV at r;induction r with
 | nil=>rfl
 | cons h t ih=>rw [List.any_cons,List.any_cons,ih,h.1]
theorem KV.repl {kvs:List (κ × V)} {vs:List (κ × Value)} (r:KV kvs vs) (k:κ) {y:V} {u:Value} (ry:RelV y u) :
  KV (kvs.map fun kv=>if kv.1=k then (kv.1,y) else kv) (vs.map fun kv=>if kv.1=k then (kv.1,u) else kv):=by
 unfold KV at r ⊢;induction r with
 | nil=>exact .nil
 | @cons p q ps qs h t ih =>
  rw [List.map_cons,List.map_cons];refine .cons ?_ ih;obtain ⟨h1,h2⟩:=h;by_cases e:p.1=k
  ·rw [if_pos e,if_pos (h1.symm.trans e)]; exact ⟨h1,ry⟩
  ·rw [if_neg e,if_neg (fun z=>e (h1.trans z))]; exact ⟨h1,h2⟩
theorem KV.put {kvs:List (κ × V)} {vs:List (κ × Value)} (r:KV kvs vs) (k:κ) {y:V} {u:Value} (ry:RelV y u):KV (putK kvs k y) (stored vs k u):=by
 unfold putK stored;rw [r.any k];by_cases e:(vs.any fun kv=>decide (kv.1=k))=true
 ·rw [if_pos e,if_pos e]; exact r.repl k ry
 ·rw [if_neg e,if_neg e]; exact Paired.snoc r ⟨rfl,ry⟩
theorem KV.length {kvs:List (κ × V)} {vs:List (κ × Value)} (r:KV kvs vs):kvs.length=vs.length:=Paired.length r
end
theorem B0h {P:Program} {w:World} {k:Key} {u:Value} (r:RelV (kV k) u):(J4 P w).is k u=true:=by
 cases k with
 | inl i=>obtain ⟨t,e⟩:=(show ∃ t,u=Value.int i t from r); subst e; exact A2s P w i t
 | inr x=>obtain ⟨t,e⟩:=(show ∃ t,u=Value.str x t from r); subst e; exact A2r P w x t
theorem A1g {P:Program} {w:World}:∀ {ks:List Key} {us:List Value},Vals (ks.map kV) us->ItemsAre (J4 P w) ks us
 | [],_,r=>by rw [List.map_nil] at r; cases r; exact .nil
 | k :: ks,_,r=>by
  rw [List.map_cons] at r;cases r with
  | cons h t=>exact .cons (B0h h) (A1g t)
abbrev KTb (H:Hp):List (List Key × V)->List (List Key × Addr × Value)->Prop:=Paired fun p q=>p.1=q.1/\H q.2.1=some (.tup (p.1.map kV))/\RelV p.2 q.2.2
theorem KTb.val {H:Hp} {kvs:List (List Key × V)} {xs:List (List Key × Addr × Value)} (r:KTb H kvs xs) (k:List Key):RelO (valV kvs k) ((atKey xs k).map (·.2)):=by
 induction r with
 | nil=>exact True.intro
 | @cons p q ps qs h t ih =>
  obtain ⟨h1,_,h2⟩:=h;by_cases e:p.1=k
  ·have e':q.1=k:=h1.symm.trans e;have b:atKey (q :: qs) k=some q.2:=by simp [atKey,List.find?_cons,e']
   rw [Y3 e,b]; exact h2
  ·have e':¬ q.1=k:=fun z=>e (h1.trans z);have b:atKey (q :: qs) k=atKey qs k:=by simp [atKey,List.find?_cons,e']
   rw [Y4 e,b]; exact ih
theorem KTb.repl {H:Hp} {kvs:List (List Key × V)} {xs:List (List Key × Addr × Value)} (r:KTb H kvs xs) (k:List Key) {y:V} {u:Value} (ry:RelV y u) :
  KTb H (kvs.map fun kv=>if kv.1=k then (kv.1,y) else kv) (xs.map (putAt k u)):=by
 induction r with
 | nil=>exact .nil
 | @cons p q ps qs h t ih =>
  rw [List.map_cons,List.map_cons];refine .cons ?_ ih;obtain ⟨h1,h2,h3⟩:=h;unfold putAt;by_cases e:p.1=k
  ·rw [if_pos e,if_pos (h1.symm.trans e)]; exact ⟨h1,h2,ry⟩
  ·rw [if_neg e,if_neg (fun z=>e (h1.trans z))]; exact ⟨h1,h2,h3⟩
theorem KTb.put {H:Hp} {kvs:List (List Key × V)} {xs:List (List Key × Addr × Value)} (r:KTb H kvs xs) (k:List Key) {b:Addr} {y:V} {u:Value} (hb:H b=some (.tup (k.map kV))) (ry:RelV y u) :
  KTb H (putK kvs k y) (storedH xs k b u):=by
 have e:(kvs.any fun kv=>decide (kv.1=k))=(atKey xs k).isSome:=by
  rw [Y5,(r.val k).isSome_eq,Option.isSome_map]
 unfold putK storedH;rw [e];by_cases q:(atKey xs k).isSome=true
 ·rw [if_pos q,if_pos q]; exact r.repl k ry
 ·rw [if_neg q,if_neg q]; exact Paired.snoc r ⟨rfl,hb,ry⟩
theorem KTb.keeps {H H':Hp} {kvs:List (List Key × V)} {xs:List (List Key × Addr × Value)} (r:KTb H kvs xs) (ht:∀ b ys,H b=some (.tup ys)->H' b=some (.tup ys)):KTb H' kvs xs :=
 Paired.mapP r fun _ _ z=>⟨z.1,ht _ _ z.2.1,z.2.2⟩
section
variable {P:Program} {w:World} {H:Hp} {h:Heap} {a:Addr}
theorem B6i {u:HO} (ok:HOk P w H h) (e:Rd H a u):ObjOk P w H h a u:=e.ok ok
theorem B2z {kvs:List (Key × V)} (ok:HOk P w H h) (e:Rd H a (.dK kvs)):kvs.length<=sizeLine/\(a == sysModules)=false/\∃ vs,KV kvs vs/\h.DictOf (J4 P w) a vs :=
 show ObjOk P w H h a (.dK kvs) from B6i ok e
theorem C17 {kvs:List (Key × V)} (ok:HOk P w H h) (e:H a=some (.dK kvs)):kvs.length<=sizeLine/\(a == sysModules)=false/\∃ vs,KV kvs vs/\h.DictOf (J4 P w) a vs:=B2z ok (.inl e)
theorem A4n {ks:List Key} (ok:HOk P w H h) (e:H a=some (.tup (ks.map kV))):(tupleKind (J4 P w)).is h ks a:=by
 obtain ⟨_,its,r,o,h1,h2,n,h3⟩:=(show ObjOk P w H h a (.tup (ks.map kV)) from ok a _ e);exact ⟨o,its.toArray,n,h1,h2,h3,by simpa using A1g r⟩
theorem B2x {kvs:List (List Key × V)} (ok:HOk P w H h) (e:Rd H a (.dT kvs)):kvs.length<=sizeLine/\(a == sysModules)=false /\
  ∃ xs,KTb H kvs xs/\h.DictOfH (tupleKind (J4 P w)) a xs:=by
 obtain ⟨z,y,xs,r,o,es,ep,h1,h2,h3,h4,h5⟩:=(show ObjOk P w H h a (.dT kvs) from B6i ok e);refine ⟨z,y,xs,r,o,es,ep,h1,h2,h3,h4,fun x hx=>?_,h5⟩;have all:∀ {l:List (List Key × V)} {m:List (List Key × Addr × Value)},KTb H l m->∀ x ∈ m,(tupleKind (J4 P w)).is h x.1 x.2.1:=by
  intro l m q;induction q with
  | nil=>intro x hx; exact nomatch hx
  | @cons p q ps qs hq t ih =>
   intro x hx;rcases List.mem_cons.mp hx with e | hx
   ·subst e;exact A4n ok (by rw [<- hq.1]; exact hq.2.1)
   ·exact ih x hx
 exact all r x hx
theorem C3i {kvs:List (List Key × V)} (ok:HOk P w H h) (e:H a=some (.dT kvs)):kvs.length<=sizeLine/\(a == sysModules)=false /\
  ∃ xs,KTb H kvs xs/\h.DictOfH (tupleKind (J4 P w)) a xs:=B2x ok (.inl e)
end
def DGet (H:Hp) (a:Addr) (y:V) (r:Option V):Prop :=
 (∃ kvs k,Rd H a (.dK kvs)/\y=kV k/\r=valV kvs k)\/∃ kvs k b,Rd H a (.dT kvs)/\y=.ref b/\H b=some (.tup (k.map kV))/\r=valV kvs k
def DPut (H:Hp) (a:Addr) (y v:V) (H':Hp):Prop :=
 (∃ kvs k,H a=some (.dK kvs)/\y=kV k/\kvs.length < sizeLine/\H'=upd H a (.dK (putK kvs k v))) \/
 ∃ kvs k b,H a=some (.dT kvs)/\y=.ref b/\H b=some (.tup (k.map kV))/\kvs.length < sizeLine/\H'=upd H a (.dT (putK kvs k v))
theorem DGet.k {H:Hp} {a:Addr} {kvs:List (Key × V)} {k:Key} (e:H a=some (.dK kvs)):DGet H a (kV k) (valV kvs k):=.inl ⟨kvs,k,.inl e,rfl,rfl⟩
theorem DGet.t {H:Hp} {a b:Addr} {kvs:List (List Key × V)} {k:List Key} (e:H a=some (.dT kvs)) (eb:H b=some (.tup (k.map kV))):DGet H a (.ref b) (valV kvs k):=.inr ⟨kvs,k,b,.inl e,rfl,eb,rfl⟩
theorem DPut.t {H:Hp} {a b:Addr} {kvs:List (List Key × V)} {k:List Key} {v:V} (e:H a=some (.dT kvs)) (eb:H b=some (.tup (k.map kV))) (hl:kvs.length < sizeLine) :
  DPut H a (.ref b) v (upd H a (.dT (putK kvs k v))):=.inr ⟨kvs,k,b,e,rfl,eb,hl,rfl⟩
section
variable {X:Cx} {pins:List (Addr × Obj)} {σ:St} {H:Hp} {s:Shared} {a:Addr} {y v:V} {u r:Value} {o:Option V} {A:Around} {E:Value->Shared->Prop}
theorem Inv.big (I:Inv X pins σ H s):sysModules < s.heap.objs.size:=by
 have h:mainGlobals < s.heap.objs.size:=(I.mod.glob.keeps I.bk).lt;exact Nat.lt_trans (by decide) h
theorem B02 {Q:Value->Shared->Prop} (hu:A.units + 1 < cLine) (I:Inv X pins σ H s) (g:DGet H a y (some v)) (ry:RelV y u) (h:∀ w' s',Inv X pins σ H s'->RelV v w'->Q w' s') :
  wpAny (model X.prog X.w) A (getItem (.ref a) u) Q E s:=by
 rcases g with ⟨kvs,k,e,ey,l⟩ | ⟨kvs,k,b,e,ey,eb,l⟩
 ·subst ey;obtain ⟨z,hd,vs,rel,dd⟩:=B2z I.hok e;obtain ⟨w',hw,rw'⟩:=RelO.some_of (v:=v) (o:=valueAt vs k) (by rw [l]; exact rel.val k);exact wpAny_getItem_of (B0h ry) dd.mapOf hw (h w' _ (I.tok _) rw')
 ·subst ey;cases (show u=Value.ref b from ry);obtain ⟨z,hd,xs,rel,dd⟩:=B2x I.hok e;obtain ⟨w',hw,rw'⟩:=RelO.some_of (v:=v) (o:=(atKey xs k).map (·.2)) (by rw [l]; exact rel.val k);obtain ⟨p,hp,hp2⟩:=Option.map_eq_some_iff.mp hw;refine wpAny_getItem_heap (tupleKind_room_in1 hu) (A4n I.hok eb) dd hp ?_;rw [hp2];exact h w' _ (I.tok _) rw'
theorem d_in {Q:Value->Shared->Prop} (hu:A.units + 1 < cLine) (I:Inv X pins σ H s) (g:DGet H a y o) (ry:RelV y u) (h:∀ s',Inv X pins σ H s'->Q (.bool o.isSome) s') :
  wpAny (model X.prog X.w) A (compareOp .In u (.ref a)) Q E s:=by
 rcases g with ⟨kvs,k,e,ey,l⟩ | ⟨kvs,k,b,e,ey,eb,l⟩
 ·subst ey;obtain ⟨z,hd,vs,rel,dd⟩:=B2z I.hok e;refine wpAny_in_of (B0h ry) hd dd.mapOf ?_;rw [<- (rel.val k).isSome_eq,<- l];exact h _ (I.tok _)
 ·subst ey;cases (show u=Value.ref b from ry);obtain ⟨z,hd,xs,rel,dd⟩:=B2x I.hok e;refine wpAny_in_heap (tupleKind_room_in1 hu) (A4n I.hok eb) hd dd ?_;have q:=(rel.val k).isSome_eq;rw [Option.isSome_map] at q;rw [<- q,<- l];exact h _ (I.tok _)
theorem A2y {h':Heap} {t':Nat} {ob:HO} (I:Inv X pins σ H s) (mu:Mut (H a)) (hs:Heap.SameBut a s.heap h') (he:∃ q,h'.get? a=some q) (new:ObjOk X.prog X.w (upd H a ob) h' a ob) :
  Inv X pins σ (upd H a ob) { s with heap:=h',toks:=t' } :=
 I.write (x:=a) (e:=a) mu (.inl rfl) (fun b q hb z=>(hs.2 b hb).trans z) he new
theorem B5s {P:Program} {w:World} {H':Hp} {h':Heap} {kvs:List (Key × V)} {vs:List (Key × Value)} (z:kvs.length<=sizeLine) (hd:(a == sysModules)=false) (rel:KV kvs vs) (dd:h'.DictOf (J4 P w) a vs) :
  ObjOk P w H' h' a (.dK kvs):=⟨z,hd,vs,rel,dd⟩
theorem B01 {H':Hp} {Q:Unit->Shared->Prop} (hu:A.units + 1 < cLine) (I:Inv X pins σ H s) (g:DPut H a y v H') (ry:RelV y u) (rv:RelV v r) (h:∀ s',Inv X pins σ H' s'->Q () s') :
  wpAny (model X.prog X.w) A (setItem (.ref a) u r) Q E s:=by
 rcases g with ⟨kvs,k,e,ey,l,eH⟩ | ⟨kvs,k,b,e,ey,eb,l,eH⟩
 ·subst ey eH;obtain ⟨z,hd,vs,rel,dd⟩:=C17 I.hok e;have hz:vs.length<=sizeLine:=by rw [<- rel.length]; exact z
  have hl:(putK kvs k v).length<=sizeLine:=by have:=Q0 kvs k v; omega
  refine wpAny_setItem_pairs (hsz:=hz) (B0h ry) dd fun h' dd' hs=>h _ ?_;have he:∃ q,h'.get? a=some q:=let ⟨q,_,_,hq,_⟩:=dd'; ⟨q,hq⟩;exact A2y I (by rw [e]; exact True.intro) hs he (B5s hl hd (rel.put k rv) dd')
 ·subst ey eH;cases (show u=Value.ref b from ry);obtain ⟨z,hd,xs,rel,dd⟩:=C3i I.hok e;have hz:xs.length<=sizeLine:=by rw [<- Paired.length rel]; exact z
  have hl:(putK kvs k v).length<=sizeLine:=by have:=Q0 kvs k v; omega
  refine wpAny_setItem_heap (hsz:=hz) (tupleKind_room_in1 hu) (A4n I.hok eb) dd fun h' dd' hs=>h _ ?_;obtain ⟨q,es,ep,hq,h2,h3,h4,_,h5⟩:=dd';refine A2y I (by rw [e]; exact True.intro) hs ⟨q,hq⟩ ⟨hl,hd,_,(rel.put k eb rv).keeps fun c ys ec=>?_,q,es,ep,hq,h2,h3,h4,h5⟩;rw [D8 (C3c ec e (fun z=>nomatch z))];exact ec
end
section
variable {X:Cx} {pins:List (Addr × Obj)} {σ:St} {H:Hp} {s:Shared} {a:Addr} {kvs:List (Key × V)} {k:Key} {u:Value} {A:Around} {E:Value->Shared->Prop}
end
def NoSl (i:Expr):Prop:=∀ ov iv,subscripted i false ov iv=operate [ov,iv] (getItem ov iv)
theorem B6a {prog:Program} {w:World} {A:Around} {E:Value->Shared->Prop} {s:Shared} {env:Env} {value slice:Expr} {pos:Pos} {T id:String} {Q:Value->Shared->Prop}
  (hl:typeLookup (.type T) "__getitem__"=pure (some (.builtin id))) (hs:NoSl slice)
  (h:wpAny (model prog w) A (eval value env) (fun o s₁=>wpAny (model prog w) A (eval slice env) (fun i s₂=>s₂.TypeIs o T/\wpAny (model prog w) A (getItem o i) Q E s₂) E s₁) E s) :
  wpAny (model prog w) A (eval (.Subscript value slice pos) env) Q E s:=by
 refine Subscript_ (wpAny_mono h (fun o s₁ h₁=>wpAny_mono h₁ (fun i s₂ h₂=>?_) fun _ _ x=>x) fun _ _ x=>x);obtain ⟨hT,h₂⟩:=h₂;unfold subscriptTail;refine wpAny_bind ?_;rw [getitemInPython_of_ne hT.not_modules];refine wpAny_bind (wpAny_specialOf hT hl ?_);have fin:wpAny (model prog w) A (subscripted slice false o i) (fun r s₃=>wpAny (model prog w) A (letTemporaryGo value o r >>= fun _=>pure r) Q E s₃) E s₂:=by
  rw [hs o i];exact wpAny_operating (wpAny_mono h₂ (fun r s₃ h₃=>wpAny_bind (wpAny_letTemporaryGo (wpAny_pure h₃))) fun _ _ x=>x)
 first
  | exact wpAny_pure (wpAny_bind fin)
  | exact wpAny_bind (wpAny_pure (wpAny_bind fin))
  | exact wpAny_bind fin
theorem A2x {X:Cx} {pins:List (Addr × Obj)} {σ:St} {H:Hp} {s:Shared} {a:Addr} {y:V} {o:Option V} (I:Inv X pins σ H s) (g:DGet H a y o):s.TypeIs (.ref a) "dict":=by
 rcases g with ⟨kvs,k,e,_,_⟩ | ⟨kvs,k,b,e,_,_,_⟩
 ·obtain ⟨_,_,vs,_,dd⟩:=B2z I.hok e;exact dd.typeIs
 ·obtain ⟨_,_,xs,_,dd⟩:=B2x I.hok e;exact dd.typeIs
def B57 (td ty:TE):TE:=fun σ H Q=>td σ H fun x H1=>ty σ H1 fun y H2=>∃ a v,x=.ref a/\DGet H2 a y (some v)/\Q v H2
def tDIn (ty td:TE):TE:=fun σ H Q=>ty σ H fun y H1=>td σ H1 fun x H2=>∃ a o,x=.ref a/\DGet H2 a y o/\Q (.bl o.isSome) H2
def B6h (td ty tv:TE):TS:=fun D σ H=>tv σ H fun v H1=>td σ H1 fun x H2=>ty σ H2 fun y H3=>∃ a H4,x=.ref a/\DPut H3 a y v H4/\D.nx σ H4
section
variable {X:Cx} {o i e value:Expr} {pos pos' tpos:Pos} {td ty tv:TE}
theorem B67 (hu:X.A.units + 1 < cLine) (ho:PE X o td) (hi:PE X i ty) (hs:NoSl i):PE X (.Subscript o i pos) (B57 td ty):=by
 intro pins s σ H Q I h;refine B6a PySem.F.slot_dict_getitem.lookup hs (thn (ho pins s σ H _ I h) fun u s1 ⟨x,H1,I1,rx,q1⟩=>thn (hi pins s1 σ H1 _ I1 q1) fun iv s2 ⟨y,H2,I2,ry,a,v,ex,g,q2⟩=>?_);subst ex;obtain rfl:u=Value.ref a:=rx;exact ⟨A2x I2 g,B02 hu I2 g ry fun w' s3 I3 rw'=>⟨v,H2,I3,rw',q2⟩⟩
theorem B3q (hu:X.A.units + 1 < cLine) (hi:PE X i ty) (ho:PE X o td):PC X .In i o (tDIn ty td):=by
 intro pins s σ H Q I h;refine thn (hi pins s σ H _ I h) fun iv s1 ⟨y,H1,I1,ry,q1⟩=>thn (ho pins s1 σ H1 _ I1 q1) fun u s2 ⟨x,H2,I2,rx,a,ov,ex,g,q2⟩=>?_;subst ex;obtain rfl:u=Value.ref a:=rx;exact d_in hu I2 g ry fun s3 I3=>⟨.bl ov.isSome,H2,I3,rfl,q2⟩
theorem B6x (hu:X.A.units + 1 < cLine) (ho:PE X o td) (hi:PE X i ty) (hv:PE X value tv) (hs:swapsWith value (some (.Subscript o i pos')) pos.line X.env=pure false) :
  PS X (.Assign [.Subscript o i pos'] value pos) (B6h td ty tv):=by
 intro pins s σ H D I h;refine wpAny_Assign_Subscript (thn (hv pins s σ H _ I h) fun r s1 ⟨v,H1,I1,rv,q1⟩=>thn (ho pins s1 σ H1 _ I1 q1) fun u s2 ⟨x,H2,I2,rx,q2⟩=>thn (hi pins s2 σ H2 _ I2 q2) fun iv s3 ⟨y,H3,I3,ry,a,H4,ex,g,q3⟩=>?_) hs;subst ex;obtain rfl:u=Value.ref a:=rx;exact B01 hu I3 g ry rv fun s4 I4=>⟨σ,H4,I4,q3⟩
end
theorem B20 {P:Program} {w:World} {H:Hp} (h:Heap) (hb:sysModules < h.objs.size):ObjOk P w H (h.push { cls:=.type "dict",data:=.dict #[] }) h.objs.size (.dK []) :=
 ⟨Nat.zero_le _,beq_eq_false_iff_ne.mpr (Ne.symm (Nat.ne_of_lt hb)),[],.nil,Heap.DictOf.new h⟩
theorem B2y {P:Program} {w:World} {H:Hp} (h:Heap) (hb:sysModules < h.objs.size):ObjOk P w H (h.push { cls:=.type "dict",data:=.dict #[] }) h.objs.size (.dT []) :=
 ⟨Nat.zero_le _,beq_eq_false_iff_ne.mpr (Ne.symm (Nat.ne_of_lt hb)),[],.nil,_,#[],0,Heap.get?_push_size _ rfl,⟨rfl,rfl,rfl⟩,rfl,rfl,List.nodup_nil⟩
def A6f:TE:=fun _ H Q=>∀ p,H p=none->Q (.ref p) (upd H p (.dT []))
section
variable {X:Cx} {pos:Pos}
theorem B2a:PE X (.Dict [] [] pos) A6f:=fun pins s σ H Q I h =>
 wpAny_Dict_empty ⟨.ref s.heap.objs.size,_,I.laid (a:=s.heap.objs.size) (o:=.dT []) (t':=s.toks) (fun _ _ q=>Heap.get?_push_of_some _ q) (Nat.le_refl _) (B2y s.heap I.big),rfl,h _ (I.hok.fresh (Nat.le_refl _))⟩
end
def A3f:List (TE × TE)->St->Hp->(List (V × V)->Hp->Prop)->Prop
 | [],_,H,Q=>Q [] H
 | (tk,tv) :: r,σ,H,Q=>tk σ H fun x H1=>tv σ H1 fun y H2=>A3f r σ H2 fun ps H3=>Q ((x,y) :: ps) H3
abbrev VVd:List (V × V)->List (Value × Value)->Prop:=Paired fun p q=>RelV p.1 q.1/\RelV p.2 q.2
def PPs (X:Cx) (pos:Pos) (keys:List (Option Expr)) (values:List Expr) (trs:List (TE × TE)):Prop :=
 ∀ (pins:List (Addr × Obj)) (s:Shared) (σ:St) (H:Hp) (Q:List (V × V)->Hp->Prop),Inv X pins σ H s->A3f trs σ H Q ->
  wpAny (model X.prog X.w) X.A (evalPairs (pairTrees keys values X.env pos)) (fun vs s'=>∃ ps H',Inv X pins σ H' s'/\VVd ps vs/\Q ps H') X.xe s
theorem B6y {X:Cx} {pos:Pos}:PPs X pos [] [] []:=fun pins s σ H Q I h=>pairTrees_nil_walk ⟨[],H,I,.nil,h⟩
theorem B15 {X:Cx} {pos:Pos} {k v:Expr} {ks:List (Option Expr)} {vs:List Expr} {tk tv:TE} {trs:List (TE × TE)} (hk:PE X k tk) (hv:PE X v tv) (hr:PPs X pos ks vs trs) :
  PPs X pos (some k :: ks) (v :: vs) ((tk,tv) :: trs):=fun pins s σ H Q I h =>
 pairTrees_cons_walk (thn (hk pins s σ H _ I h) fun u s1 ⟨x,H1,I1,rx,q1⟩=>thn (hv pins s1 σ H1 _ I1 q1) fun w2 s2 ⟨y,H2,I2,ry,q2⟩ =>
  thn (hr pins s2 σ H2 _ I2 q2) fun ws s3 ⟨ps,H3,I3,rel,q3⟩=>⟨(x,y) :: ps,H3,I3,.cons ⟨rx,ry⟩ rel,q3⟩)
def V0 (kvs more:List (Key × V)):List (Key × V):=more.foldl (fun acc kv=>putK acc kv.1 kv.2) kvs
theorem KV.merge:∀ {more:List (Key × V)} {rs:List (Key × Value)} {kvs:List (Key × V)} {vs:List (Key × Value)},KV more rs->KV kvs vs->KV (V0 kvs more) (merged vs rs):=by
 intro more rs kvs vs r;unfold KV at r;induction r generalizing kvs vs with
 | nil=>intro q; exact q
 | @cons p q ps qs h t ih =>
  intro r0;have e:KV (putK kvs p.1 p.2) (stored vs q.1 q.2):=by
   have:=r0.put p.1 h.2;rw [<- h.1]; exact this
  exact ih e
theorem Q7:∀ (more kvs:List (Key × V)),(V0 kvs more).length<=kvs.length + more.length
 | [],kvs=>by show kvs.length<=kvs.length + 0; omega
 | p :: r,kvs=>by
  have h1:=Q7 r (putK kvs p.1 p.2);have h2:=Q0 kvs p.1 p.2;show (V0 (putK kvs p.1 p.2) r).length<=_;rw [List.length_cons]; omega
theorem X8 {P:Program} {w:World}:∀ {kvs:List (Key × V)} {ws:List (Value × Value)},VVd (kvs.map fun kv=>(kV kv.1,kv.2)) ws->∃ rs,Carries (J4 P w) ws rs/\KV kvs rs
 | [],_,r=>by rw [List.map_nil] at r; cases r; exact ⟨[],True.intro,.nil⟩
 | p :: kvs,_,r=>by
  rw [List.map_cons] at r;cases r with
  | @cons a b as bs h t =>
   obtain ⟨rs,c,q⟩:=X8 (P:=P) (w:=w) t;obtain ⟨b1,b2⟩:=b;exact ⟨(p.1,b2) :: rs,⟨B0h h.1,rfl,c⟩,.cons ⟨rfl,h.2⟩ q⟩
def B56 (trs:List (TE × TE)):TE:=fun σ H Q=>∀ p,H p=none->A3f trs σ (upd H p (.dK [])) fun ps H2=>H2 p=some (.dK [])/\∃ kvs:List (Key × V),ps=kvs.map (fun kv=>(kV kv.1,kv.2))/\kvs.length<=15/\Q (.ref p) (upd H2 p (.dK (V0 [] kvs)))
theorem B66 {X:Cx} {pos:Pos} {keys:List (Option Expr)} {values:List Expr} {trs:List (TE × TE)} (h:PPs X pos keys values trs) (hall:keys.all (·.isSome)=true) (hl:keys.length=values.length) (h0:keys≠[])
  (h15:keys.length<=15):PE X (.Dict keys values pos) (B56 trs):=by
 intro pins s σ H Q I q;have hn:=I.hok.fresh (Nat.le_refl s.heap.objs.size);have I1:=I.laid (a:=s.heap.objs.size) (o:=.dK []) (h':=s.heap.push { cls:=.type "dict",data:=.dict #[] }) (t':=s.toks) (fun _ _ q=>Heap.get?_push_of_some _ q) (Nat.le_refl _) (B20 s.heap I.big);refine wpAny_Dict_walk (knd:=J4 X.prog X.w) hall hl h0 h15 (thn (h pins _ σ _ _ I1 (q _ hn)) fun ws s2 ⟨ps,H2,I2,rel,e,kvs,ep,lk,q2⟩=>?_);subst ep;obtain ⟨rs,c,rk⟩:=X8 (P:=X.prog) (w:=X.w) rel;obtain ⟨z,hd,vs0,r0,dd⟩:=C17 I2.hok e;cases r0;refine ⟨rs,c,dd,fun h' dd' hs=>⟨.ref s.heap.objs.size,_,?_,rfl,q2⟩⟩;have hz:(V0 [] kvs).length<=sizeLine:=by
  have h1:=Q7 kvs [];rw [List.length_nil] at h1;rw [sizeLine_eq]; omega
 have he:∃ q,h'.get? s.heap.objs.size=some q:=let ⟨q,_,_,hq,_⟩:=dd'; ⟨q,hq⟩;exact A2y I2 (by rw [e]; exact True.intro) hs he (B5s hz hd (rk.merge .nil) dd')
end L2
namespace L2
open PySem PySem.Spec PyProof.Rows
theorem C04 {a b:Int}:NSI [V.int a,V.int b]:=fun _ _ z=>nomatch z
theorem u1 {n:Nat} (h:n + 64 < cLine):n + 1 < cLine:=by omega
theorem X4:∀ {more acc:List (Key × V)},((acc++more).map (·.1)).Nodup->V0 acc more=acc++more
 | [],acc,_=>by rw [List.append_nil]; rfl
 | p :: r,acc,h=>by
  have hn:valV acc p.1=none:=by
   unfold valV;rw [Option.map_eq_none_iff,List.find?_eq_none];intro x hx e;have e:x.1=p.1:=of_decide_eq_true e;rw [List.map_append,List.nodup_append] at h;exact h.2.2 x.1 (List.mem_map.mpr ⟨x,hx,rfl⟩) p.1 (List.mem_map.mpr ⟨p,List.mem_cons_self,rfl⟩) e
  show V0 (putK acc p.1 p.2) r=_;rw [A3o _ hn,show (p.1,p.2)=p from rfl];have h':(((acc++[p])++r).map (·.1)).Nodup:=by rw [List.append_assoc]; exact h
  rw [X4 h',List.append_assoc]; rfl
def B8w (i j k:Nat) (ta:TA):TS:=fun D σ H=>ta σ H fun vs H1=>∃ v w z,vs=[v,w,z]/\D.nx (((σ.set i (some v)).set j (some w)).set k (some z)) H1
theorem B1s {X:Cx} {pos:Pos} {i j k:Nat} {x y z:Str} {a b c:Expr} {ta:TA} {px py pz pt:Pos} {kt k2 pt2} (hc:X.calm=true) (hN:X.N.Nodup) (hi:X.N[i]?=some x) (hj:X.N[j]?=some y) (hk:X.N[k]?=some z) (hij:i≠j) (hik:i≠k) (hjk:j≠k)
  (hx:X.env.scope.names.lookup x=some .local) (hy:X.env.scope.names.lookup y=some .local) (hz:X.env.scope.names.lookup z=some .local) (ha:QA X [a,b,c] ta)
  (hw:swappedStores [.Tuple [.Name x px,.Name y py,.Name z pz] kt pt] (.Tuple [a,b,c] k2 pt2) X.env=pure (some [x,y,z]))
  (hs:swapsWithSole [.Tuple [.Name x px,.Name y py,.Name z pz] kt pt] (.Tuple [a,b,c] k2 pt2) pos.line X.env=pure false) :
  QS X (.Assign [.Tuple [.Name x px,.Name y py,.Name z pz] kt pt] (.Tuple [a,b,c] k2 pt2) pos) (B8w i j k ta):=by
 refine ⟨fun pins s σ H D I h=>?_⟩;rw [exec_Assign_arm];apply wpAny_bind; apply wpAny_standAt;rw [hs];apply wpAny_bind; apply wpAny_pure;rw [if_neg Bool.false_ne_true];apply wpAny_bind;apply Tuple_;refine thn (ha.out _ pins s σ H _ I h) ?_;rintro us s1 ⟨vs,H1,I1,r1,v,w,t,rfl,q1⟩;cases r1 with | cons p1 r1=>cases r1 with | cons p2 r1=>cases r1 with | cons p3 r1 =>
 cases r1;rename_i u1 u2 u3;refine wpAny_newObj_type ?_ (by show 3<=sizeLine; decide);have I2:Inv X pins σ H1 { s1 with heap:=s1.heap.push ⟨.type "tuple",none,.seq [u1,u2,u3].toArray 0,#[]⟩ }:=I1.kept (t':=s1.toks) fun _ _ e=>Heap.get?_push_of_some _ e;rw [hw];apply wpAny_bind; apply wpAny_pure;show wpAny (model X.prog X.w) X.A (do rule "assign.swapped-stores"; let its <- unpackItems (.ref s1.heap.objs.size) 3 none; assignInOrder [fun v=>bindName X.env z v,fun v=>bindName X.env y v,fun v=>bindName X.env x v] its.reverse; pure Flow.next) _ _ _;apply wpAny_bind; apply wpAny_rule; apply wpAny_bind;refine unpackItems_tuple (items:=#[u1,u2,u3]) (I.ok.hd hc) (IsTup.new s1.heap _) fun h' hx'=>?_;have I3:=I2.kept (h':=h') (t':=s1.toks) fun b o e=>hx' b o (Nat.ne_of_lt (Heap.lt_size e)) e;show wpAny _ _ (assignInOrder [fun v=>bindName X.env z v,fun v=>bindName X.env y v,fun v=>bindName X.env x v] [u3,u2,u1] >>= fun _=>pure Flow.next) _ _ _;apply wpAny_bind;refine assignInOrder_cons (wpAny_bindName (N3 I3 hN hk (.inl hz) p3 (fun s2 I4=>?_) (.inr hz)));refine assignInOrder_cons (wpAny_bindName (N3 I4 hN hj (.inl hy) p2 (fun s3 I5=>?_) (.inr hy)));refine assignInOrder_cons (wpAny_bindName (N3 I5 hN hi (.inl hx) p1 (fun s4 I6=>assignInOrder_nil (wpAny_pure ?_)) (.inr hx)));have e:((σ.set k (some t)).set j (some w)).set i (some v)=((σ.set i (some v)).set j (some w)).set k (some t):=by
  rw [List.set_comm _ _ (Ne.symm hjk),List.set_comm _ _ (Ne.symm hik),List.set_comm _ _ (Ne.symm hij)]
 rw [e] at I6;exact ⟨_,H1,I6,q1⟩
section
variable {X:Cx} {o i e value:Expr} {pos pos':Pos} {td ty tv:TE}
structure QPs (X:Cx) (pos:Pos) (keys:List (Option Expr)) (values:List Expr) (trs:List (TE × TE)):Prop where
 out:PPs X pos keys values trs
theorem B6n:QPs X pos [] [] []:=⟨B6y⟩
theorem T2 {k v:Expr} {ks:List (Option Expr)} {vs:List Expr} {tk tv:TE} {trs:List (TE × TE)} (hk:QE X k tk) (hv:QE X v tv) (hr:QPs X pos ks vs trs):QPs X pos (some k :: ks) (v :: vs) ((tk,tv) :: trs):=⟨B15 hk.out hv.out hr.out⟩
theorem B1u {keys:List (Option Expr)} {values:List Expr} {trs:List (TE × TE)} (h:QPs X pos keys values trs) (hall:keys.all (·.isSome)=true) (hl:keys.length=values.length) (h0:keys≠[]) (h15:keys.length<=15):QE X (.Dict keys values pos) (B56 trs):=⟨B66 h.out hall hl h0 h15⟩
theorem A6w:QE X (.Dict [] [] pos) A6f:=⟨B2a⟩
theorem B6o (hu:X.A.units + 1 < cLine) (hi:QE X i ty) (ho:QE X o td) (h1:behindInMarks .In o=false):QE X (.Compare i [.In] [o] pos) (tDIn ty td):=⟨B9p (B3q hu hi.out ho.out) h1⟩
theorem B6m (hu:X.A.units + 1 < cLine) (hi:QE X i ty) (ho:QE X o td) (h1:behindInMarks .In o=false):QT X (.Compare i [.In] [o] pos) (tB (tDIn ty td)):=⟨B9e (B3q hu hi.out ho.out) h1⟩
theorem B1v (hu:X.A.units + 1 < cLine) (ho:QE X o td) (hi:QE X i ty) (hs:NoSl i):QE X (.Subscript o i pos) (B57 td ty):=⟨B67 hu ho.out hi.out hs⟩
theorem B1t (hu:X.A.units + 1 < cLine) (ho:QE X o td) (hi:QE X i ty) (hv:QE X value tv) (hs:swapsWith value (some (.Subscript o i pos')) pos.line X.env=pure false):QS X (.Assign [.Subscript o i pos'] value pos) (B6h td ty tv):=⟨B6x hu ho.out hi.out hv.out hs⟩
end
end L2
namespace Pu
open PySem L2 My Prf
abbrev dkV (ks:List (Str × Int)):List (List Key × V):=ks.map fun k=>([Sum.inr k.1,Sum.inl k.2],V.bl true)
theorem A53 {c:Str} {n:Int}:∀ {ks:List (Str × Int)},valV (dkV ks) [Sum.inr c,Sum.inl n]=if (c,n) ∈ ks then some (.bl true) else none
 | []=>rfl
 | k :: r=>by
  unfold valV;rw [dkV,List.map_cons,List.find?_cons];by_cases h:k=(c,n)
  ·subst h;rw [decide_eq_true rfl,if_pos List.mem_cons_self]; rfl
  ·have h1:¬ (([Sum.inr k.1,Sum.inl k.2]:List Key)=[Sum.inr c,Sum.inl n]):=fun e=>by
    have e1:=(List.cons.inj e).1;have e2:=(List.cons.inj (List.cons.inj e).2).1;exact h (Prod.ext (Sum.inr.inj e1) (Sum.inl.inj e2))
   rw [decide_eq_false h1];have ih:=A53 (c:=c) (n:=n) (ks:=r);unfold valV at ih;refine ih.trans ?_;by_cases hr:(c,n) ∈ r
   ·rw [if_pos hr,if_pos (List.mem_cons_of_mem _ hr)]
   ·rw [if_neg hr,if_neg fun z=>by
     rcases List.mem_cons.mp z with z | z
     ·exact h z.symm
     ·exact hr z]
def pDk0 (env:PEnv) (Q:SV->PEnv->Prop):Prop:=Q (.dk []) env
instance re_dk0 {K:Frag}:RE K A6f pDk0 where
 ok:=by
  rintro c w env σ Qp Q rfl E p k q hq;exact k (.ref q) (.dk []) env (w.lay q (.dT [])) ⟨E.mono (Wd.lay_ok E.wok hq) (Wd.lay_le hq),(Wd.lay_le hq).toLw,⟨q,rfl,D7,E.wok.fnone hq,fun z=>E.wok.mne hq z rfl,E.le0.dom q hq⟩,fun a f=>(by
   have:V.ref q=.ref a:=f;cases this;exact E.fresh hq),rfl⟩ p
def asP (x:PyData) (k:Str->Int->Prop):Prop:=match x with
 | .tuple [.str c,.int n]=>k c n
 | _=>False
theorem C2e {c:Str} {n:Int} {k:Str->Int->Prop}:asP (.tuple [.str c,.int n]) k=k c n:=rfl
def hasD (kvs:List (PyData × PyData)) (c:Str):Bool:=kvs.any fun p=>match p.1 with
 | .str s=>decide (s=c)
 | _=>false
def inD (o:Option (Option SV)) (x:PyData) (k:Bool->Prop):Prop:=match o with
 | some (some (.dk ks))=>asP x fun c n=>k (decide ((c,n) ∈ ks))
 | some (some (.d (.dict kvs)))=>asS x fun c=>k (hasD kvs c)
 | _=>False
theorem C1q {ks:List (Str × Int)} {x:PyData} {k:Bool->Prop}:inD (some (some (.dk ks))) x k=asP x fun c n=>k (decide ((c,n) ∈ ks)):=rfl
theorem C1r {kvs:List (PyData × PyData)} {x:PyData} {k:Bool->Prop}:inD (some (some (.d (.dict kvs)))) x k=asS x fun c=>k (hasD kvs c):=rfl
theorem B0n {c:Str}:∀ {kvs:List (Key × V)},(valV kvs (.inr c)).isSome=hasD (kvs.map A2w) c
 | []=>rfl
 | p :: r=>by
  have ih:=B0n (c:=c) (kvs:=r);unfold valV hasD at *;rw [List.map_cons,List.any_cons,List.find?_cons];obtain ⟨k,v⟩:=p;cases k with
  | inl i =>
   rw [decide_eq_false (show ¬ ((Sum.inl i:Key)=Sum.inr c) from fun z=>nomatch z)];exact ih
  | inr s =>
   by_cases h:s=c
   ·subst h;rw [decide_eq_true rfl];show true=(decide (s=s) || _);rw [decide_eq_true rfl]; rfl
   ·rw [decide_eq_false (show ¬ ((Sum.inr s:Key)=Sum.inr c) from fun z=>h (Sum.inr.inj z))];show _=(decide (s=c) || _);rw [decide_eq_false h,Bool.false_or];exact ih
theorem Den.dctE {K:Frag} {F:Hpp} {v:V} {ds:List (PyData × PyData)} (h:Den K F v (.dict ds)):∃ a kvs,v=.ref a/\F a=some (.dK kvs)/\ds=kvs.map A2w:=by
 cases h with | dct h=>exact ⟨_,_,rfl,h,rfl⟩
def pDIn (pd:PDt) (i:Nat) (env:PEnv) (Q:SV->PEnv->Prop):Prop:=pd env fun x e=>inD e[i]? x fun b=>Q (.d (.bool b)) e
instance re_din {K:Frag} {ty:TE} {i:Nat} {pd:PDt} [hd:RD K ty pd]:RE K (tDIn ty (tVar i)) (pDIn pd i) where
 ok:=by
  rintro c w env σ Qp Q rfl E p k;refine hd.ok c w env σ _ _ rfl E p fun y x e1 w1 E1 l1 d1 q1=>?_;unfold inD at q1;split at q1
  ·rename_i ks ei;unfold asP at q1;split at q1
   ·obtain ⟨v,hv,l,rfl,h1,h2,h3,h4⟩:=E1.at' i _ ei;obtain ⟨b,rfl,hb⟩:=Den.pairE d1;refine ⟨_,hv,l,_,rfl,DGet.t (k:=[Sum.inr _,Sum.inl _]) h1 (E1.wok.sub _ _ hb),?_⟩;rw [A53];rename_i cc nn;have eb:(if (cc,nn) ∈ ks then some (V.bl true) else none).isSome=decide ((cc,nn) ∈ ks):=by
     by_cases z:(cc,nn) ∈ ks
     ·rw [if_pos z,decide_eq_true z]; rfl
     ·rw [if_neg z,decide_eq_false z]; rfl
    rw [eb];exact k _ _ e1 w1 ((Res.data E1 (.bl _)).pre l1) q1
   ·exact q1.elim
  ·rename_i kvs ei;unfold asS at q1;split at q1
   ·obtain ⟨v,hv,h1⟩:=E1.at' i _ ei;obtain ⟨a,kvs',rfl,h2,rfl⟩:=Den.dctE h1;have ey:=d1.strE;subst ey;refine ⟨_,hv,a,_,rfl,DGet.k (k:=Sum.inr _) (E1.wok.sub _ _ h2),?_⟩;rw [B0n];exact k _ _ e1 w1 ((Res.data E1 (.bl _)).pre l1) q1
   ·exact q1.elim
  ·exact q1.elim
def isDk (o:Option (Option SV)) (k:List (Str × Int)->Prop):Prop:=match o with
 | some (some (.dk ks))=>k ks
 | _=>False
theorem B5n {ks:List (Str × Int)} {k:List (Str × Int)->Prop}:isDk (some (some (.dk ks))) k=k ks:=rfl
def B2d (i:Nat) (pd:PDt) (D:PEnds) (env:PEnv):Prop:=isDk env[i]? fun _=>pd env fun x e=>asP x fun c n=>isDk e[i]? fun ks=>(c,n) ∉ ks/\ks.length < 1000000/\D.nx (e.set i (some (.dk (ks++[(c,n)]))))
instance rs_dput {K:Frag} {i:Nat} {ty:TE} {pd:PDt} [hd:RD K ty pd]:RS K (B6h (tVar i) ty (tC (.bl true))) (B2d i pd) where
 ok:=by
  rintro c w env σ Dp D rfl E h p;unfold B2d isDk at p;split at p
  ·rename_i ks0 e0;obtain ⟨o,g0,l,rfl,_⟩:=E.at' i _ e0;refine ⟨_,g0,hd.ok c w env σ _ _ rfl E p fun y x e1 w1 E1 l1 d1 q1=>?_⟩;unfold asP at q1;split at q1
   ·rename_i cc nn;split at q1
    ·rename_i ks e;obtain ⟨nin,hl,q⟩:=q1;obtain ⟨o',g0',l',ev',k1,k2,k3,k4⟩:=E1.at' i _ e;rw [g0] at g0'; cases g0'; cases ev';obtain ⟨b,rfl,hb⟩:=Den.pairE d1;have hv:valV (dkV ks) [Sum.inr cc,Sum.inl nn]=none:=by rw [A53,if_neg nin]
     refine ⟨l,_,rfl,DPut.t (k:=[Sum.inr cc,Sum.inl nn]) k1 (E1.wok.sub _ _ hb) (by rw [List.length_map]; exact A3h hl),?_⟩;rw [A3o _ hv];have e2:dkV ks++[([Sum.inr cc,Sum.inl nn],V.bl true)]=dkV (ks++[(cc,nn)]):=by unfold dkV; rw [List.map_append]; rfl
     rw [e2];exact h.nx _ σ ⟨w1.M,upd w1.H l (.dT (dkV (ks++[(cc,nn)]))),w1.F⟩ (E1.writeAt (s':=.dk (ks++[(cc,nn)])) e g0 rfl (fun a f=>f) ⟨l,rfl,D7,k2,k3,k4⟩) l1.f q
    ·exact q1.elim
   ·exact q1.elim
  ·exact p.elim
def numD:List (PyData × PyData)->Str->Option Int
 | [],_=>none
 | (.str x,.int n) :: r,s=>if x=s then some n else numD r s
 | _,_=>none
theorem A9e {s:Str} {n:Int}:∀ {kvs:List (Key × V)},numD (kvs.map A2w) s=some n->valV kvs (.inr s)=some (.int n)
 | [],h=>by cases h
 | (.inl i,v) :: r,h=>by cases v <;> cases h
 | (.inr x,v) :: r,h=>by
  unfold valV;rw [List.find?_cons];cases v with
  | int m =>
   have h:(if x=s then some m else numD (r.map A2w) s)=some n:=h;by_cases e:x=s
   ·subst e;rw [if_pos rfl] at h; cases h;rw [decide_eq_true rfl]; rfl
   ·rw [if_neg e] at h;rw [decide_eq_false (show ¬ ((Sum.inr x:Key)=Sum.inr s) from fun z=>e (Sum.inr.inj z))];exact A9e (kvs:=r) h
  | _=>cases h
def B0v (o:Option (Option SV)) (k:List (PyData × PyData)->Prop):Prop:=match o with
 | some (some (.d (.dict ds)))=>k ds
 | _=>False
theorem A4z {ds:List (PyData × PyData)} {k:List (PyData × PyData)->Prop}:B0v (some (some (.d (.dict ds)))) k=k ds:=rfl
def B6b (o:Option (Option SV)) (k:Str->Prop):Prop:=match o with
 | some (some (.d (.str s)))=>k s
 | _=>False
theorem A6j {s:Str} {k:Str->Prop}:B6b (some (some (.d (.str s)))) k=k s:=rfl
def A32 (i j:Nat) (env:PEnv) (Q:SV->PEnv->Prop):Prop:=B0v env[i]? fun ds=>B6b env[j]? fun s=>∃ n,numD ds s=some n/\Q (.d (.int n)) env
instance re_dgetN {K:Frag} {i j:Nat}:RE K (B57 (tVar i) (tVar j)) (A32 i j) where
 ok:=by
  rintro c w env σ Qp Q rfl E p k;unfold A32 B0v at p;split at p
  ·rename_i ds ei;unfold B6b at p;split at p
   ·rename_i s ej;obtain ⟨n,hn,q⟩:=p;obtain ⟨v,hv,h1⟩:=E.at' i _ ei;obtain ⟨u,hu,h2⟩:=E.at' j _ ej;obtain ⟨a,kvs,rfl,h3,rfl⟩:=Den.dctE h1;have ey:=Den.strE h2;subst ey;have g:=DGet.k (k:=Sum.inr s) (E.wok.sub _ _ h3);rw [A9e hn] at g;exact ⟨_,hv,_,hu,a,_,rfl,g,k _ _ env w (Res.data E (.int n)) q⟩
   ·exact p.elim
  ·exact p.elim
class RPr (K:Frag) (trs:List (TE × TE)) (pp:outParam (PEnv->(List (Str × Int)->Prop)->Prop)):Prop where
 ok:∀ (c:Ct) (w:Wd) (env:PEnv) (σ:L2.St) (H':Hpp) (Qp:List (Str × Int)->Prop) (Q:List (V × V)->Hpp->Prop),c.K=K->EnvOk c w env σ->Same w.H H'->pp env Qp->(∀ ps,Qp ps->Q (ps.map fun p=>(V.str p.1,V.int p.2)) H')->A3f trs σ H' Q
def pPr0 (_:PEnv) (Q:List (Str × Int)->Prop):Prop:=Q []
instance rpr_nil {K:Frag}:RPr K [] pPr0:=⟨fun _ _ _ _ _ _ _ _ _ _ p k=>k [] p⟩
def B76 (o:Option (Option SV)) (k:Int->Prop):Prop:=match o with
 | some (some (.d (.list xs)))=>k (xs.length:Int)
 | _=>False
theorem A9j {xs:LP} {k:Int->Prop}:B76 (some (some (.d (.list xs)))) k=k (xs.length:Int):=rfl
def pPr (s:Str) (i:Nat) (pp:PEnv->(List (Str × Int)->Prop)->Prop) (env:PEnv) (Q:List (Str × Int)->Prop):Prop:=B76 env[i]? fun n=>pp env fun ps=>Q ((s,n) :: ps)
instance rpr_cons {K:Frag} {s:Str} {i:Nat} {r:List (TE × TE)} {pp:PEnv->(List (Str × Int)->Prop)->Prop} [hr:RPr K r pp]:RPr K ((tC (.str s),tCB (B6l K) (N2 (tVar i) tNil)) :: r) (pPr s i pp) where
 ok:=by
  rintro c w env σ H' Qp Q rfl E sm p k;unfold pPr B76 at p;split at p
  ·rename_i xs e;obtain ⟨v,hv,hd⟩:=E.at' i _ e;obtain ⟨a,vs,rfl,hs,hd⟩:=Den.lstE hd;refine ⟨_,hv,.inl ⟨a,vs,rfl,.inl ((E.wok.sub.trans sm).seq hs),?_⟩⟩;rw [hd.len];exact hr.ok c w env σ H' _ _ rfl E sm p fun ps q=>k _ q
  ·exact p.elim
def B7s (pp:PEnv->(List (Str × Int)->Prop)->Prop) (env:PEnv) (Q:SV->PEnv->Prop):Prop:=pp env fun ps=>(ps.map (·.1)).Nodup/\ps.length<=15/\Q (.d (.dict (ps.map fun p=>(.str p.1,.int p.2)))) env
instance re_disp {K:Frag} {trs:List (TE × TE)} {pp:PEnv->(List (Str × Int)->Prop)->Prop} [h:RPr K trs pp]:RE K (B56 trs) (B7s pp) where
 ok:=by
  rintro c w env σ Qp Q rfl E p k q hq;refine h.ok c w env σ (upd w.H q (.dK [])) _ _ rfl E (Same.upd hq) p fun ps ⟨nd,hl,qq⟩=>?_;refine ⟨D7,ps.map fun p=>(Sum.inr p.1,V.int p.2),by rw [List.map_map]; rfl,by rw [List.length_map]; exact hl,?_⟩;have nd':((([]:List (Key × V))++ps.map fun p:Str × Int=>((Sum.inr p.1,V.int p.2):Key × V)).map fun x=>x.1).Nodup:=by
   rw [List.nil_append,List.map_map];have:(ps.map fun p=>(Sum.inr p.1:Key))=(ps.map (·.1)).map fun s=>(Sum.inr s:Key):=by rw [List.map_map]; rfl
   show (ps.map fun p=>(Sum.inr p.1:Key)).Nodup;rw [this];exact List.Pairwise.map (fun s=>(Sum.inr s:Key)) (fun a b ne e=>ne (Sum.inr.inj e)) nd
  rw [X4 nd',List.nil_append,B5y];refine k (.ref q) (.d (.dict (ps.map fun p=>(.str p.1,.int p.2)))) env (w.tup q (.dK (ps.map fun p=>(Sum.inr p.1,V.int p.2)))) ⟨E.mono (Wd.tup_ok E.wok hq) (Wd.tup_le E.wok hq),(Wd.tup_le E.wok hq).toLw,?_,fun _ e=>(show False from e).elim,rfl⟩ qq;have:=Den.dct (K:=c.K) (H:=upd w.F q (.dK (ps.map fun p=>(Sum.inr p.1,V.int p.2)))) D7;rw [List.map_map] at this;exact this
def B7h (i j k:Nat) (pa:PAr) (D:PEnds) (env:PEnv):Prop:=pa env fun xs e=>match xs with
 | [x,y,z]=>D.nx (((e.set i (some (.d x))).set j (some (.d y))).set k (some (.d z)))
 | _=>False
instance rs_par3 {K:Frag} {ta:TA} {pa:PAr} {i j k:Nat} [ha:RAd K ta pa]:RS K (B8w i j k ta) (B7h i j k pa) where
 ok:=by
  rintro c w env σ Dp D rfl E h p;refine ha.ok c w env σ _ _ rfl E p fun vs xs e1 w1 E1 l1 d1 q1=>?_;split at q1
  ·cases d1 with
   | cons a t=>cases t with
    | cons b t=>cases t with
     | cons d t =>
      cases t;exact ⟨_,_,_,rfl,h.nx _ _ w1 (((E1.set (s:=.d _) a (fun _ z=>nomatch z)).set (s:=.d _) b (fun _ z=>nomatch z)).set (s:=.d _) d (fun _ z=>nomatch z)) l1.f q1⟩
  ·exact q1.elim
end Pu
set_option synthInstance.maxHeartbeats 0
set_option synthInstance.maxSize 100000
set_option maxHeartbeats 4000000
namespace Prf
open PySem L2 My Pu
local macro_rules | `(tactic| trivial) => `(tactic| try simp only [pSeq, B7k, B4m, C0h, A7p, B7r, pRet, A7n, A82, A81, A80, A8z, B91, pIf, pAsg, B7t, B3x, B42, pApp, B1h, B4i, B93, B2c, C2m, pYes, pNot, pAnd, pOr, B7i, B7u, pOrV, pIfE, pOp, pI_i, C0c, pEqD, pNeD, pIsN, B96, A1h, A4q, A1j, A4p, A1i, A4o, B32, B31, pU_i, pUn, pNil, L0, pTup, pLst, pCB, A7t, A05, A3x, B4q, B3z, B3y, B4b, B4c, A3w, A3v, B4a, B43, A57, A3e, A56, A3b, A3c, A55, A58, B3s, B4w, B4v, B4u, A7h, A8o, A8n, A8p, pC, pdat, C2l, C2k, A8a, B7j, A75, A74, A33, C2f, B5l, B1w, A6z, A2e, T3, A3m, A7g, B7n, A30, A36, A35, A37, A49, Y1, A15, A16, A7m, A8y, A7l, A8x, pFor, A76, X3, L1, SV.lent, A2k, B7g, C2g, pSlL, pRev, A7k, A8w, B4j, B4p, B4o, A71, List.map_cons, List.map_nil, List.replicate_succ, List.replicate_zero, List.cons_append, List.nil_append, List.getElem?_cons_zero, List.getElem?_cons_succ, List.set_cons_zero, List.set_cons_succ, List.length_cons, List.length_nil, B7q, B7p, C0e, C0d, Option.bind_some, Option.bind_none, Option.map_some, Option.map_none, Option.join_some, A7z, A7y, A9m, A4g, A4f, B0y, A42, B0w, A40, B46, B5t, S1, B5q, A1m, A1l, B0j, B3d, decide_eq_true_eq, Bool.not_eq_true', decide_eq_false_iff_not, ite_not, true_and, and_true, reduceIte, Nat.zero_le, Nat.reduceAdd, Nat.reduceLeDiff, Nat.reduceSub, Int.zero_add, A3z, A3y, List.length_map, A50, B4s, A59, B0o, B0s, A9l, B0x, B47, B5h, B5k, B5g, B5j, B5a, B5e, B5d, B48, B49, B5b, Bool.true_eq_false, Bool.false_eq_true, reduceCtorEq, Bool.not_true, Bool.not_false, decide_true, decide_false, B3r, B4t, A73, A9c, pLsN, pLsC, B98, A7s, A88, A87, A89, A2u, B0z, B0t, A4r, eq_self, B9r, Y0, A14, A4x, B0r, A4m, A4j, A4l, A4i, A4k, A4h, B5f, B5i, B5c, B9x, B4e, B97, ot_d, ot_o, ot_t, A34, A7i, A8s, A8r, A8t, A8q, pKid, A77, B5v, B7b, C2j, C2i, C2h, pTr, B3v, B40, B4z, B41, B4g, B3t, B4y, B4x, A8b, A9d, A0l, A6y, A4s, B39, A39, B4f, A86, A85, A84, C0a, pIn, A95, A96, A93, A94, B0d, B0e, B0b, B0c, A9x, A9y, A9v, A9w, A9t, A9u, A9r, A9s, A91, A92, A9z, A90, A9p, A9q, A9n, A9o, A99, B0a, A97, A98, A3d, C2d, B38, pS, C0k, B36, B33, B35, B37, B34, A7x, A7u, A7w, A7v, C0b, B7e, C0g, A78, pRep, A7r, B4d, pIdx, B92, B9v, B3u, pStr, B9u, A79, C0n, B3k, A7q, pSlT, B99, A9b, A9a, pPth, pVw, A51, pLf, A9i, pBr, pMuV, C0z, A7j, pA2, C1n, pC2, pMu, B4r, B4n, A2l, B3h, B4h, A04, pDa, C0j, C0o, B9w, C09, mIx, B5m, B45, pUnT, B8t, A0q, A6m, B4k, pCmT, B9s, B9t, B4l, B9y, A8v, B94, A7o, B95, A72, B3w, A8c, A2m, pDN, pDk, pDk0, pDIn, C1q, C1r, C2e, B2d, B5n, A32, A4z, A6j, pPr0, pPr, A9j, B7s, B7h])
local macro_rules | `(tactic| nofun) => `(tactic| try simp -implicitDefEqProofs only [pSeq, B7k, B4m, C0h, A7p, B7r, pRet, A7n, A82, A81, A80, A8z, B91, pIf, pAsg, B7t, B3x, B42, pApp, B1h, B4i, B93, B2c, C2m, pYes, pNot, pAnd, pOr, B7i, B7u, pOrV, pIfE, pOp, pI_i, C0c, pEqD, pNeD, pIsN, B96, A1h, A4q, A1j, A4p, A1i, A4o, B32, B31, pU_i, pUn, pNil, L0, pTup, pLst, pCB, A7t, A05, A3x, B4q, B3z, B3y, B4b, B4c, A3w, A3v, B4a, B43, A57, A3e, A56, A3b, A3c, A55, A58, B3s, B4w, B4v, B4u, A7h, A8o, A8n, A8p, pC, pdat, C2l, C2k, A8a, B7j, A75, A74, A33, C2f, B5l, B1w, A6z, A2e, T3, A3m, A7g, B7n, A30, A36, A35, A37, A49, Y1, A15, A16, A7m, A8y, A7l, A8x, pFor, A76, X3, L1, SV.lent, A2k, B7g, C2g, pSlL, pRev, A7k, A8w, B4j, B4p, B4o, A71, List.map_cons, List.map_nil, List.replicate_succ, List.replicate_zero, List.cons_append, List.nil_append, List.getElem?_cons_zero, List.getElem?_cons_succ, List.set_cons_zero, List.set_cons_succ, List.length_cons, List.length_nil, B7q, B7p, C0e, C0d, Option.bind_some, Option.bind_none, Option.map_some, Option.map_none, Option.join_some, A7z, A7y, A9m, A4g, A4f, B0y, A42, B0w, A40, B46, B5t, S1, B5q, A1m, A1l, B0j, B3d, decide_eq_true_eq, Bool.not_eq_true', decide_eq_false_iff_not, ite_not, true_and, and_true, reduceIte, Nat.zero_le, Nat.reduceAdd, Nat.reduceLeDiff, Nat.reduceSub, Int.zero_add, A3z, A3y, List.length_map, A50, B4s, A59, B0o, B0s, A9l, B0x, B47, B5h, B5k, B5g, B5j, B5a, B5e, B5d, B48, B49, B5b, Bool.true_eq_false, Bool.false_eq_true, reduceCtorEq, Bool.not_true, Bool.not_false, decide_true, decide_false, B3r, B4t, A73, A9c, pLsN, pLsC, B98, A7s, A88, A87, A89, A2u, B0z, B0t, A4r, eq_self, B9r, Y0, A14, A4x, B0r, A4m, A4j, A4l, A4i, A4k, A4h, B5f, B5i, B5c, B9x, B4e, B97, ot_d, ot_o, ot_t, A34, A7i, A8s, A8r, A8t, A8q, pKid, A77, B5v, B7b, C2j, C2i, C2h, pTr, B3v, B40, B4z, B41, B4g, B3t, B4y, B4x, A8b, A9d, A0l, A6y, A4s, B39, A39, B4f, A86, A85, A84, C0a, pIn, A95, A96, A93, A94, B0d, B0e, B0b, B0c, A9x, A9y, A9v, A9w, A9t, A9u, A9r, A9s, A91, A92, A9z, A90, A9p, A9q, A9n, A9o, A99, B0a, A97, A98, A3d, C2d, B38, pS, C0k, B36, B33, B35, B37, B34, A7x, A7u, A7w, A7v, C0b, B7e, C0g, A78, pRep, A7r, B4d, pIdx, B92, B9v, B3u, pStr, B9u, A79, C0n, B3k, A7q, pSlT, B99, A9b, A9a, pPth, pVw, A51, pLf, A9i, pBr, pMuV, C0z, A7j, pA2, C1n, pC2, pMu, B4r, B4n, A2l, B3h, B4h, A04, pDa, C0j, C0o, B9w, C09, mIx, B5m, B45, pUnT, B8t, A0q, A6m, B4k, pCmT, B9s, B9t, B4l, B9y, A8v, B94, A7o, B95, A72, B3w, A8c, A2m, pDN, pDk, pDk0, pDIn, C1q, C1r, C2e, B2d, B5n, A32, A4z, A6j, pPr0, pPr, A9j, B7s, B7h])
set_option genInjectivity false
set_option genSizeOfSpec false
structure Adr where
 a_b0:Addr
 d_b0:FuncData
 a_a6:Addr
 d_a6:FuncData
 a_a2:Addr
 d_a2:FuncData
 a_af:Addr
 d_af:FuncData
 a_cc:Addr
 d_cc:FuncData
 a_c7:Addr
 d_c7:FuncData
 a_b1:Addr
 d_b1:FuncData
 a_bd:Addr
 d_bd:FuncData
 a_b2:Addr
 d_b2:FuncData
 a_c8:Addr
 d_c8:FuncData
 a_a7:Addr
 d_a7:FuncData
 a_a0:Addr
 d_a0:FuncData
 a_c6:Addr
 d_c6:FuncData
 a_a5:Addr
 d_a5:FuncData
 a_a3:Addr
 d_a3:FuncData
 a_ae:Addr
 d_ae:FuncData
 a_ac:Addr
 d_ac:FuncData
 a_a4:Addr
 d_a4:FuncData
 a_be:Addr
 d_be:FuncData
 a_aa:Addr
 d_aa:FuncData
 a_a9:Addr
 d_a9:FuncData
 a_ad:Addr
 d_ad:FuncData
 a_ca:Addr
 d_ca:FuncData
 a_b3:Addr
 d_b3:FuncData
 a_c4:Addr
 d_c4:FuncData
 a_c9:Addr
 d_c9:FuncData
 a_c2:Addr
 d_c2:FuncData
 a_b6:Addr
 d_b6:FuncData
 a_bb:Addr
 d_bb:FuncData
 a_bc:Addr
 d_bc:FuncData
 a_ab:Addr
 d_ab:FuncData
 a_b7:Addr
 d_b7:FuncData
 a_ba:Addr
 d_ba:FuncData
 a_c5:Addr
 d_c5:FuncData
 a_c3:Addr
 d_c3:FuncData
 a_b8:Addr
 d_b8:FuncData
 a_b9:Addr
 d_b9:FuncData
 a_c0:Addr
 d_c0:FuncData
 a_b5:Addr
 d_b5:FuncData
 a_a1:Addr
 d_a1:FuncData
 a_b4:Addr
 d_b4:FuncData
 a_a8:Addr
 d_a8:FuncData
 a_c1:Addr
 d_c1:FuncData
 a_cd:Addr
 d_cd:FuncData
 k_NOUGHT:Addr
structure Txt (K:PySem.W.Frag) (mg:Str->Option Value) (D:Adr):Prop where
 F_b0:Fun K "is_whole" "is_whole" s_b0 D.a_b0 D.d_b0
 m_b0:mg "is_whole"=some (.ref D.a_b0)
 F_a6:Fun K "is_tuple_of" "is_tuple_of" s_a6 D.a_a6 D.d_a6
 m_a6:mg "is_tuple_of"=some (.ref D.a_a6)
 F_a2:Fun K "common_part" "common_part" s_a2 D.a_a2 D.d_a2
 m_a2:mg "common_part"=some (.ref D.a_a2)
 F_af:Fun K "is_ratio" "is_ratio" s_af D.a_af D.d_af
 m_af:mg "is_ratio"=some (.ref D.a_af)
 F_cc:Fun K "plus" "plus" s_cc D.a_cc D.d_cc
 m_cc:mg "plus"=some (.ref D.a_cc)
 F_c7:Fun K "minus" "minus" s_c7 D.a_c7 D.d_c7
 m_c7:mg "minus"=some (.ref D.a_c7)
 F_b1:Fun K "product" "product" s_b1 D.a_b1 D.d_b1
 m_b1:mg "product"=some (.ref D.a_b1)
 F_bd:Fun K "is_less" "is_less" s_bd D.a_bd D.d_bd
 m_bd:mg "is_less"=some (.ref D.a_bd)
 F_b2:Fun K "smaller" "smaller" s_b2 D.a_b2 D.d_b2
 m_b2:mg "smaller"=some (.ref D.a_b2)
 F_c8:Fun K "sum_of" "sum_of" s_c8 D.a_c8 D.d_c8
 m_c8:mg "sum_of"=some (.ref D.a_c8)
 F_a7:Fun K "least_with" "least_with" s_a7 D.a_a7 D.d_a7
 m_a7:mg "least_with"=some (.ref D.a_a7)
 F_a0:Fun K "is_number_below" "is_number_below" s_a0 D.a_a0 D.d_a0
 m_a0:mg "is_number_below"=some (.ref D.a_a0)
 F_c6:Fun K "is_arc" "is_arc" s_c6 D.a_c6 D.d_c6
 m_c6:mg "is_arc"=some (.ref D.a_c6)
 F_a5:Fun K "is_carried" "is_carried" s_a5 D.a_a5 D.d_a5
 m_a5:mg "is_carried"=some (.ref D.a_a5)
 F_a3:Fun K "look_at_form" "look_at_form" s_a3 D.a_a3 D.d_a3
 m_a3:mg "look_at_form"=some (.ref D.a_a3)
 F_ae:Fun K "flows_of" "flows_of" s_ae D.a_ae D.d_ae
 m_ae:mg "flows_of"=some (.ref D.a_ae)
 F_ac:Fun K "add_hold" "add_hold" s_ac D.a_ac D.d_ac
 m_ac:mg "add_hold"=some (.ref D.a_ac)
 F_a4:Fun K "amounts_of" "amounts_of" s_a4 D.a_a4 D.d_a4
 m_a4:mg "amounts_of"=some (.ref D.a_a4)
 F_be:Fun K "rate_of" "rate_of" s_be D.a_be D.d_be
 m_be:mg "rate_of"=some (.ref D.a_be)
 F_aa:Fun K "weight_of" "weight_of" s_aa D.a_aa D.d_aa
 m_aa:mg "weight_of"=some (.ref D.a_aa)
 F_a9:Fun K "claims_of" "claims_of" s_a9 D.a_a9 D.d_a9
 m_a9:mg "claims_of"=some (.ref D.a_a9)
 F_ad:Fun K "claimed" "claimed" s_ad D.a_ad D.d_ad
 m_ad:mg "claimed"=some (.ref D.a_ad)
 F_ca:Fun K "bars" "bars" s_ca D.a_ca D.d_ca
 m_ca:mg "bars"=some (.ref D.a_ca)
 F_b3:Fun K "_law_begun" "_law_begun" s_b3 D.a_b3 D.d_b3
 m_b3:mg "_law_begun"=some (.ref D.a_b3)
 F_c4:Fun K "_law_take" "_law_take" s_c4 D.a_c4 D.d_c4
 m_c4:mg "_law_take"=some (.ref D.a_c4)
 F_c9:Fun K "_law_low" "_law_low" s_c9 D.a_c9 D.d_c9
 m_c9:mg "_law_low"=some (.ref D.a_c9)
 F_c2:Fun K "_law_plus" "_law_plus" s_c2 D.a_c2 D.d_c2
 m_c2:mg "_law_plus"=some (.ref D.a_c2)
 F_b6:Fun K "_law_minus" "_law_minus" s_b6 D.a_b6 D.d_b6
 m_b6:mg "_law_minus"=some (.ref D.a_b6)
 F_bb:Fun K "_law_times" "_law_times" s_bb D.a_bb D.d_bb
 m_bb:mg "_law_times"=some (.ref D.a_bb)
 F_bc:Fun K "_law_under" "_law_under" s_bc D.a_bc D.d_bc
 m_bc:mg "_law_under"=some (.ref D.a_bc)
 F_ab:Fun K "_law_amount" "_law_amount" s_ab D.a_ab D.d_ab
 m_ab:mg "_law_amount"=some (.ref D.a_ab)
 F_b7:Fun K "_law_offer" "_law_offer" s_b7 D.a_b7 D.d_b7
 m_b7:mg "_law_offer"=some (.ref D.a_b7)
 F_ba:Fun K "_law_shape" "_law_shape" s_ba D.a_ba D.d_ba
 m_ba:mg "_law_shape"=some (.ref D.a_ba)
 F_c5:Fun K "_law_walk" "_law_walk" s_c5 D.a_c5 D.d_c5
 m_c5:mg "_law_walk"=some (.ref D.a_c5)
 F_c3:Fun K "_law_rate" "_law_rate" s_c3 D.a_c3 D.d_c3
 m_c3:mg "_law_rate"=some (.ref D.a_c3)
 F_b8:Fun K "_law_paper" "_law_paper" s_b8 D.a_b8 D.d_b8
 m_b8:mg "_law_paper"=some (.ref D.a_b8)
 F_b9:Fun K "_law_price" "_law_price" s_b9 D.a_b9 D.d_b9
 m_b9:mg "_law_price"=some (.ref D.a_b9)
 F_c0:Fun K "_law_cost" "_law_cost" s_c0 D.a_c0 D.d_c0
 m_c0:mg "_law_cost"=some (.ref D.a_c0)
 F_b5:Fun K "_law_loose" "_law_loose" s_b5 D.a_b5 D.d_b5
 m_b5:mg "_law_loose"=some (.ref D.a_b5)
 F_a1:Fun K "_law_times_drawn" "_law_times_drawn" s_a1 D.a_a1 D.d_a1
 m_a1:mg "_law_times_drawn"=some (.ref D.a_a1)
 F_b4:Fun K "_law_keeps" "_law_keeps" s_b4 D.a_b4 D.d_b4
 m_b4:mg "_law_keeps"=some (.ref D.a_b4)
 F_a8:Fun K "_law_soonest" "_law_soonest" s_a8 D.a_a8 D.d_a8
 m_a8:mg "_law_soonest"=some (.ref D.a_a8)
 F_c1:Fun K "_law_held" "_law_held" s_c1 D.a_c1 D.d_c1
 m_c1:mg "_law_held"=some (.ref D.a_c1)
 F_cd:Fun K "law" "law" s_cd D.a_cd D.d_cd
 m_cd:mg "law"=some (.ref D.a_cd)
 c_NOUGHT:mg "NOUGHT"=some (.ref D.k_NOUGHT)
 z_abs:mg "abs"=none
 z_any:mg "any"=none
 z_bool:mg "bool"=none
 z_enumerate:mg "enumerate"=none
 z_int:mg "int"=none
 z_isinstance:mg "isinstance"=none
 z_len:mg "len"=none
 z_list:mg "list"=none
 z_max:mg "max"=none
 z_min:mg "min"=none
 z_range:mg "range"=none
 z_str:mg "str"=none
 z_tuple:mg "tuple"=none
 z_zip:mg "zip"=none
 c2_NOUGHT:Pu.GD K D.k_NOUGHT (dq 0)
abbrev sp_law:=B6c
section
variable {K:PySem.W.Frag} {mg:Str->Option Value} {D:Adr}
theorem sc_b0:FnScope ["thing"] ["thing"] (A6 s_b0):=⟨rfl,rfl,rfl,by decide +kernel,rfl,by decide +kernel,by decide +kernel⟩
theorem V7 (T:Txt K mg D):Binds K D.d_b0 ["thing"] []:=T.F_b0.binds (ps:=["thing"]) fun _ _ _ _ _ _ us hl=>by obtain ⟨_,rfl⟩:=us1 hl; rfl
theorem sc_a6:FnScope ["thing","many"] ["thing","many"] (A6 s_a6):=⟨rfl,rfl,rfl,by decide +kernel,rfl,by decide +kernel,by decide +kernel⟩
theorem Q1 (T:Txt K mg D):Binds K D.d_a6 ["thing","many"] []:=T.F_a6.binds (ps:=["thing","many"]) fun _ _ _ _ _ _ us hl=>by obtain ⟨_,_,rfl⟩:=us2 hl; rfl
theorem sc_a2:FnScope ["one","other"] ["one","other"] (A6 s_a2):=⟨rfl,rfl,rfl,by decide +kernel,rfl,by decide +kernel,by decide +kernel⟩
theorem K8 (T:Txt K mg D):Binds K D.d_a2 ["one","other"] []:=T.F_a2.binds (ps:=["one","other"]) fun _ _ _ _ _ _ us hl=>by obtain ⟨_,_,rfl⟩:=us2 hl; rfl
theorem sc_af:FnScope ["thing","top","bottom"] ["thing"] (A6 s_af):=⟨rfl,rfl,rfl,by decide +kernel,rfl,by decide +kernel,by decide +kernel⟩
theorem B1d (T:Txt K mg D):Binds K D.d_af ["thing"] []:=T.F_af.binds (ps:=["thing"]) fun _ _ _ _ _ _ us hl=>by obtain ⟨_,rfl⟩:=us1 hl; rfl
theorem sc_cc:FnScope ["one","other","shared","mine","theirs","top","rest"] ["one","other"] (A6 s_cc):=⟨rfl,rfl,rfl,by decide +kernel,rfl,by decide +kernel,by decide +kernel⟩
theorem N1 (T:Txt K mg D):Binds K D.d_cc ["one","other"] []:=T.F_cc.binds (ps:=["one","other"]) fun _ _ _ _ _ _ us hl=>by obtain ⟨_,_,rfl⟩:=us2 hl; rfl
theorem sc_c7:FnScope ["one","other"] ["one","other"] (A6 s_c7):=⟨rfl,rfl,rfl,by decide +kernel,rfl,by decide +kernel,by decide +kernel⟩
theorem A22 (T:Txt K mg D):Binds K D.d_c7 ["one","other"] []:=T.F_c7.binds (ps:=["one","other"]) fun _ _ _ _ _ _ us hl=>by obtain ⟨_,_,rfl⟩:=us2 hl; rfl
theorem sc_b1:FnScope ["one","other","mine","theirs"] ["one","other"] (A6 s_b1):=⟨rfl,rfl,rfl,by decide +kernel,rfl,by decide +kernel,by decide +kernel⟩
theorem N0 (T:Txt K mg D):Binds K D.d_b1 ["one","other"] []:=T.F_b1.binds (ps:=["one","other"]) fun _ _ _ _ _ _ us hl=>by obtain ⟨_,_,rfl⟩:=us2 hl; rfl
theorem sc_bd:FnScope ["one","other"] ["one","other"] (A6 s_bd):=⟨rfl,rfl,rfl,by decide +kernel,rfl,by decide +kernel,by decide +kernel⟩
theorem T6 (T:Txt K mg D):Binds K D.d_bd ["one","other"] []:=T.F_bd.binds (ps:=["one","other"]) fun _ _ _ _ _ _ us hl=>by obtain ⟨_,_,rfl⟩:=us2 hl; rfl
theorem sc_b2:FnScope ["one","other"] ["one","other"] (A6 s_b2):=⟨rfl,rfl,rfl,by decide +kernel,rfl,by decide +kernel,by decide +kernel⟩
theorem B1c (T:Txt K mg D):Binds K D.d_b2 ["one","other"] []:=T.F_b2.binds (ps:=["one","other"]) fun _ _ _ _ _ _ us hl=>by obtain ⟨_,_,rfl⟩:=us2 hl; rfl
theorem sc_c8:FnScope ["some","total","one"] ["some"] (A6 s_c8):=⟨rfl,rfl,rfl,by decide +kernel,rfl,by decide +kernel,by decide +kernel⟩
theorem A21 (T:Txt K mg D):Binds K D.d_c8 ["some"] []:=T.F_c8.binds (ps:=["some"]) fun _ _ _ _ _ _ us hl=>by obtain ⟨_,rfl⟩:=us1 hl; rfl
theorem sc_a7:FnScope ["offer","rate","costs","least","cost"] ["offer","rate"] (A6 s_a7):=⟨rfl,rfl,rfl,by decide +kernel,rfl,by decide +kernel,by decide +kernel⟩
theorem A23 (T:Txt K mg D):Binds K D.d_a7 ["offer","rate"] []:=T.F_a7.binds (ps:=["offer","rate"]) fun _ _ _ _ _ _ us hl=>by obtain ⟨_,_,rfl⟩:=us2 hl; rfl
theorem sc_a0:FnScope ["thing","many"] ["thing","many"] (A6 s_a0):=⟨rfl,rfl,rfl,by decide +kernel,rfl,by decide +kernel,by decide +kernel⟩
theorem V8 (T:Txt K mg D):Binds K D.d_a0 ["thing","many"] []:=T.F_a0.binds (ps:=["thing","many"]) fun _ _ _ _ _ _ us hl=>by obtain ⟨_,_,rfl⟩:=us2 hl; rfl
theorem sc_c6:FnScope ["net","thing","works","waits","holds","many","word","number"] ["net","thing"] (A6 s_c6):=⟨rfl,rfl,rfl,by decide +kernel,rfl,by decide +kernel,by decide +kernel⟩
theorem B8i (T:Txt K mg D):Binds K D.d_c6 ["net","thing"] []:=T.F_c6.binds (ps:=["net","thing"]) fun _ _ _ _ _ _ us hl=>by obtain ⟨_,_,rfl⟩:=us2 hl; rfl
theorem sc_a5:FnScope ["net","thing","arc","amount"] ["net","thing"] (A6 s_a5):=⟨rfl,rfl,rfl,by decide +kernel,rfl,by decide +kernel,by decide +kernel⟩
theorem A24 (T:Txt K mg D):Binds K D.d_a5 ["net","thing"] []:=T.F_a5.binds (ps:=["net","thing"]) fun _ _ _ _ _ _ us hl=>by obtain ⟨_,_,rfl⟩:=us2 hl; rfl
theorem sc_a3:FnScope ["net","thing","ahead","at","carried"] ["net","thing"] (A6 s_a3):=⟨rfl,rfl,rfl,by decide +kernel,rfl,by decide +kernel,by decide +kernel⟩
theorem A13 (T:Txt K mg D):Binds K D.d_a3 ["net","thing"] []:=T.F_a3.binds (ps:=["net","thing"]) fun _ _ _ _ _ _ us hl=>by obtain ⟨_,_,rfl⟩:=us2 hl; rfl
theorem sc_ae:FnScope ["net","paper","waits","holds","amounts","offs","word","number","amount","one","other","lag"] ["net","paper"] (A6 s_ae):=⟨rfl,rfl,rfl,by decide +kernel,rfl,by decide +kernel,by decide +kernel⟩
theorem B1e (T:Txt K mg D):Binds K D.d_ae ["net","paper"] []:=T.F_ae.binds (ps:=["net","paper"]) fun _ _ _ _ _ _ us hl=>by obtain ⟨_,_,rfl⟩:=us2 hl; rfl
theorem sc_ac:FnScope ["hold","amount","amounts","offs","kind","work","moment"] ["hold","amount","amounts","offs"] (A6 s_ac):=⟨rfl,rfl,rfl,by decide +kernel,rfl,by decide +kernel,by decide +kernel⟩
theorem B1g (T:Txt K mg D):Binds K D.d_ac ["hold","amount","amounts","offs"] []:=T.F_ac.binds (ps:=["hold","amount","amounts","offs"]) fun _ _ _ _ _ _ us hl=>by obtain ⟨_,_,_,_,rfl⟩:=us4 hl; rfl
theorem sc_a4:FnScope ["net","paper","amounts","offs","work","amount"] ["net","paper"] (A6 s_a4):=⟨rfl,rfl,rfl,by decide +kernel,rfl,by decide +kernel,by decide +kernel⟩
theorem A25 (T:Txt K mg D):Binds K D.d_a4 ["net","paper"] []:=T.F_a4.binds (ps:=["net","paper"]) fun _ _ _ _ _ _ us hl=>by obtain ⟨_,_,rfl⟩:=us2 hl; rfl
theorem sc_be:FnScope ["paper"] ["paper"] (A6 s_be):=⟨rfl,rfl,rfl,by decide +kernel,rfl,by decide +kernel,by decide +kernel⟩
theorem B26 (T:Txt K mg D):Binds K D.d_be ["paper"] []:=T.F_be.binds (ps:=["paper"]) fun _ _ _ _ _ _ us hl=>by obtain ⟨_,rfl⟩:=us1 hl; rfl
theorem sc_aa:FnScope ["net","paper","waits","holds","weight","word","number","amount","kind","work","moment","share"] ["net","paper"] (A6 s_aa):=⟨rfl,rfl,rfl,by decide +kernel,rfl,by decide +kernel,by decide +kernel⟩
theorem A5x (T:Txt K mg D):Binds K D.d_aa ["net","paper"] []:=T.F_aa.binds (ps:=["net","paper"]) fun _ _ _ _ _ _ us hl=>by obtain ⟨_,_,rfl⟩:=us2 hl; rfl
theorem sc_a9:FnScope ["net","paper","amounts","offered","weight","leasts","quicks"] ["net","paper"] (A6 s_a9):=⟨rfl,rfl,rfl,by decide +kernel,rfl,by decide +kernel,by decide +kernel⟩
theorem S2 (T:Txt K mg D):Binds K D.d_a9 ["net","paper"] []:=T.F_a9.binds (ps:=["net","paper"]) fun _ _ _ _ _ _ us hl=>by obtain ⟨_,_,rfl⟩:=us2 hl; rfl
theorem sc_ad:FnScope ["net","paper","whole","price","rate","length"] ["net","paper","whole"] (A6 s_ad):=⟨rfl,rfl,rfl,by decide +kernel,rfl,by decide +kernel,by decide +kernel⟩
theorem B1f (T:Txt K mg D):Binds K D.d_ad ["net","paper","whole"] []:=T.F_ad.binds (ps:=["net","paper","whole"]) fun _ _ _ _ _ _ us hl=>by obtain ⟨_,_,_,rfl⟩:=us3 hl; rfl
theorem sc_ca:FnScope ["net","paper","whole","price","rate","length"] ["net","paper","whole"] (A6 s_ca):=⟨rfl,rfl,rfl,by decide +kernel,rfl,by decide +kernel,by decide +kernel⟩
theorem A48 (T:Txt K mg D):Binds K D.d_ca ["net","paper","whole"] []:=T.F_ca.binds (ps:=["net","paper","whole"]) fun _ _ _ _ _ _ us hl=>by obtain ⟨_,_,_,rfl⟩:=us3 hl; rfl
theorem sc_b3:FnScope ["_law_script","_law_k","_law_cell"] ["_law_script","_law_k"] (A6 s_b3):=⟨rfl,rfl,rfl,by decide +kernel,rfl,by decide +kernel,by decide +kernel⟩
theorem M3 (T:Txt K mg D):Binds K D.d_b3 ["_law_script","_law_k"] []:=T.F_b3.binds (ps:=["_law_script","_law_k"]) fun _ _ _ _ _ _ us hl=>by obtain ⟨_,_,rfl⟩:=us2 hl; rfl
theorem sc_c4:FnScope ["_law_state","_law_many","_law_digit","_law_made","_law_turn"] ["_law_state","_law_many"] (A6 s_c4):=⟨rfl,rfl,rfl,by decide +kernel,rfl,by decide +kernel,by decide +kernel⟩
theorem D5 (T:Txt K mg D):Binds K D.d_c4 ["_law_state","_law_many"] []:=T.F_c4.binds (ps:=["_law_state","_law_many"]) fun _ _ _ _ _ _ us hl=>by obtain ⟨_,_,rfl⟩:=us2 hl; rfl
theorem sc_c9:FnScope ["_law_top","_law_bottom","_law_one","_law_other"] ["_law_top","_law_bottom"] (A6 s_c9):=⟨rfl,rfl,rfl,by decide +kernel,rfl,by decide +kernel,by decide +kernel⟩
theorem V9 (T:Txt K mg D):Binds K D.d_c9 ["_law_top","_law_bottom"] []:=T.F_c9.binds (ps:=["_law_top","_law_bottom"]) fun _ _ _ _ _ _ us hl=>by obtain ⟨_,_,rfl⟩:=us2 hl; rfl
theorem sc_c2:FnScope ["_law_one","_law_other"] ["_law_one","_law_other"] (A6 s_c2):=⟨rfl,rfl,rfl,by decide +kernel,rfl,by decide +kernel,by decide +kernel⟩
theorem J5 (T:Txt K mg D):Binds K D.d_c2 ["_law_one","_law_other"] []:=T.F_c2.binds (ps:=["_law_one","_law_other"]) fun _ _ _ _ _ _ us hl=>by obtain ⟨_,_,rfl⟩:=us2 hl; rfl
theorem sc_b6:FnScope ["_law_one","_law_other"] ["_law_one","_law_other"] (A6 s_b6):=⟨rfl,rfl,rfl,by decide +kernel,rfl,by decide +kernel,by decide +kernel⟩
theorem L6 (T:Txt K mg D):Binds K D.d_b6 ["_law_one","_law_other"] []:=T.F_b6.binds (ps:=["_law_one","_law_other"]) fun _ _ _ _ _ _ us hl=>by obtain ⟨_,_,rfl⟩:=us2 hl; rfl
theorem sc_bb:FnScope ["_law_one","_law_other"] ["_law_one","_law_other"] (A6 s_bb):=⟨rfl,rfl,rfl,by decide +kernel,rfl,by decide +kernel,by decide +kernel⟩
theorem T7 (T:Txt K mg D):Binds K D.d_bb ["_law_one","_law_other"] []:=T.F_bb.binds (ps:=["_law_one","_law_other"]) fun _ _ _ _ _ _ us hl=>by obtain ⟨_,_,rfl⟩:=us2 hl; rfl
theorem sc_bc:FnScope ["_law_one","_law_other"] ["_law_one","_law_other"] (A6 s_bc):=⟨rfl,rfl,rfl,by decide +kernel,rfl,by decide +kernel,by decide +kernel⟩
theorem K6 (T:Txt K mg D):Binds K D.d_bc ["_law_one","_law_other"] []:=T.F_bc.binds (ps:=["_law_one","_law_other"]) fun _ _ _ _ _ _ us hl=>by obtain ⟨_,_,rfl⟩:=us2 hl; rfl
theorem sc_ab:FnScope ["_law_state","_law_plain","_law_least","_law_way","_law_bottom"] ["_law_state","_law_plain","_law_least"] (A6 s_ab):=⟨rfl,rfl,rfl,by decide +kernel,rfl,by decide +kernel,by decide +kernel⟩
theorem K9 (T:Txt K mg D):Binds K D.d_ab ["_law_state","_law_plain","_law_least"] []:=T.F_ab.binds (ps:=["_law_state","_law_plain","_law_least"]) fun _ _ _ _ _ _ us hl=>by obtain ⟨_,_,_,rfl⟩:=us3 hl; rfl
theorem sc_b7:FnScope ["_law_state","_law_kind","_law_most","_law_plain","_law_many","_law_time","_law_price_here","_law_gaps","_law_gap","_law_corners","_law_rate_here","_law_step"] ["_law_state","_law_kind","_law_most","_law_plain"] (A6 s_b7):=⟨rfl,rfl,rfl,by decide +kernel,rfl,by decide +kernel,by decide +kernel⟩
theorem B3a (T:Txt K mg D):Binds K D.d_b7 ["_law_state","_law_kind","_law_most","_law_plain"] []:=T.F_b7.binds (ps:=["_law_state","_law_kind","_law_most","_law_plain"]) fun _ _ _ _ _ _ us hl=>by obtain ⟨_,_,_,_,rfl⟩:=us4 hl; rfl
theorem sc_ba:FnScope ["_law_script","_law_kinds","_law_state","_law_many","_law_size","_law_least","_law_works","_law_k","_law_own","_law_kind","_law_waits","_law_holds","_law_one"] ["_law_script","_law_kinds"] (A6 s_ba):=⟨rfl,rfl,rfl,by decide +kernel,rfl,by decide +kernel,by decide +kernel⟩
theorem B27 (T:Txt K mg D):Binds K D.d_ba ["_law_script","_law_kinds"] []:=T.F_ba.binds (ps:=["_law_script","_law_kinds"]) fun _ _ _ _ _ _ us hl=>by obtain ⟨_,_,rfl⟩:=us2 hl; rfl
theorem sc_c5:FnScope ["_law_shape_here","_law_state","_law_works","_law_waits","_law_holds","_law_work","_law_seen","_law_arcs","_law_going","_law_some","_law_first","_law_last"] ["_law_shape_here","_law_state"] (A6 s_c5):=⟨rfl,rfl,rfl,by decide +kernel,rfl,by decide +kernel,by decide +kernel⟩
theorem B8j (T:Txt K mg D):Binds K D.d_c5 ["_law_shape_here","_law_state"] []:=T.F_c5.binds (ps:=["_law_shape_here","_law_state"]) fun _ _ _ _ _ _ us hl=>by obtain ⟨_,_,rfl⟩:=us2 hl; rfl
theorem sc_c3:FnScope ["_law_shape_here","_law_state","_law_kind","_law_corners","_law_amount_here","_law_k","_law_up","_law_gap"] ["_law_shape_here","_law_state"] (A6 s_c3):=⟨rfl,rfl,rfl,by decide +kernel,rfl,by decide +kernel,by decide +kernel⟩
theorem B8k (T:Txt K mg D):Binds K D.d_c3 ["_law_shape_here","_law_state"] []:=T.F_c3.binds (ps:=["_law_shape_here","_law_state"]) fun _ _ _ _ _ _ us hl=>by obtain ⟨_,_,rfl⟩:=us2 hl; rfl
theorem sc_b8:FnScope ["_law_shape_here","_law_script","_law_at","_law_state","_law_arcs","_law_amounts","_law_turn","_law_amount_here","_law_arc","_law_paper_here","_law_cut"] ["_law_shape_here","_law_script","_law_at"] (A6 s_b8):=⟨rfl,rfl,rfl,by decide +kernel,rfl,by decide +kernel,by decide +kernel⟩
theorem B29 (T:Txt K mg D):Binds K D.d_b8 ["_law_shape_here","_law_script","_law_at"] []:=T.F_b8.binds (ps:=["_law_shape_here","_law_script","_law_at"]) fun _ _ _ _ _ _ us hl=>by obtain ⟨_,_,_,rfl⟩:=us3 hl; rfl
theorem sc_b9:FnScope ["_law_offer_here","_law_time","_law_corners","_law_k","_law_up","_law_gap","_law_share"] ["_law_offer_here","_law_time"] (A6 s_b9):=⟨rfl,rfl,rfl,by decide +kernel,rfl,by decide +kernel,by decide +kernel⟩
theorem B28 (T:Txt K mg D):Binds K D.d_b9 ["_law_offer_here","_law_time"] []:=T.F_b9.binds (ps:=["_law_offer_here","_law_time"]) fun _ _ _ _ _ _ us hl=>by obtain ⟨_,_,rfl⟩:=us2 hl; rfl
theorem sc_c0:FnScope ["_law_net","_law_plan","_law_made","_law_i"] ["_law_net","_law_plan"] (A6 s_c0):=⟨rfl,rfl,rfl,by decide +kernel,rfl,by decide +kernel,by decide +kernel⟩
theorem B8m (T:Txt K mg D):Binds K D.d_c0 ["_law_net","_law_plan"] []:=T.F_c0.binds (ps:=["_law_net","_law_plan"]) fun _ _ _ _ _ _ us hl=>by obtain ⟨_,_,rfl⟩:=us2 hl; rfl
theorem sc_b5:FnScope ["_law_shape_here","_law_script","_law_works","_law_waits","_law_holds","_law_lags","_law_k","_law_own","_law_lag","_law_moments","_law_moment","_law_way"] ["_law_shape_here","_law_script"] (A6 s_b5):=⟨rfl,rfl,rfl,by decide +kernel,rfl,by decide +kernel,by decide +kernel⟩
theorem B3b (T:Txt K mg D):Binds K D.d_b5 ["_law_shape_here","_law_script"] []:=T.F_b5.binds (ps:=["_law_shape_here","_law_script"]) fun _ _ _ _ _ _ us hl=>by obtain ⟨_,_,rfl⟩:=us2 hl; rfl
theorem sc_a1:FnScope ["_law_net","_law_script","_law_at","_law_times_here","_law_i","_law_own","_law_kind","_law_corners","_law_k","_law_time","_law_gap"] ["_law_net","_law_script","_law_at"] (A6 s_a1):=⟨rfl,rfl,rfl,by decide +kernel,rfl,by decide +kernel,by decide +kernel⟩
theorem A0j (T:Txt K mg D):Binds K D.d_a1 ["_law_net","_law_script","_law_at"] []:=T.F_a1.binds (ps:=["_law_net","_law_script","_law_at"]) fun _ _ _ _ _ _ us hl=>by obtain ⟨_,_,_,rfl⟩:=us3 hl; rfl
theorem sc_b4:FnScope ["_law_net","_law_plan","_law_whole","_law_ends","_law_start","_law_time","_law_one","_law_other","_law_lag","_law_kind","_law_i","_law_moment"] ["_law_net","_law_plan","_law_whole"] (A6 s_b4):=⟨rfl,rfl,rfl,by decide +kernel,rfl,by decide +kernel,by decide +kernel⟩
theorem B3c (T:Txt K mg D):Binds K D.d_b4 ["_law_net","_law_plan","_law_whole"] []:=T.F_b4.binds (ps:=["_law_net","_law_plan","_law_whole"]) fun _ _ _ _ _ _ us hl=>by obtain ⟨_,_,_,rfl⟩:=us3 hl; rfl
theorem sc_a8:FnScope ["_law_net","_law_times_here","_law_starts","_law_kind","_law_i","_law_moment","_law_turn","_law_one","_law_other","_law_lag","_law_start"] ["_law_net","_law_times_here"] (A6 s_a8):=⟨rfl,rfl,rfl,by decide +kernel,rfl,by decide +kernel,by decide +kernel⟩
theorem A5y (T:Txt K mg D):Binds K D.d_a8 ["_law_net","_law_times_here"] []:=T.F_a8.binds (ps:=["_law_net","_law_times_here"]) fun _ _ _ _ _ _ us hl=>by obtain ⟨_,_,rfl⟩:=us2 hl; rfl
theorem sc_c1:FnScope ["_law_net","_law_paper_here","_law_plan","_law_whole","_law_price_here","_law_rate_here","_law_length"] ["_law_net","_law_paper_here","_law_plan","_law_whole"] (A6 s_c1):=⟨rfl,rfl,rfl,by decide +kernel,rfl,by decide +kernel,by decide +kernel⟩
theorem B8l (T:Txt K mg D):Binds K D.d_c1 ["_law_net","_law_paper_here","_law_plan","_law_whole"] []:=T.F_c1.binds (ps:=["_law_net","_law_paper_here","_law_plan","_law_whole"]) fun _ _ _ _ _ _ us hl=>by obtain ⟨_,_,_,_,rfl⟩:=us4 hl; rfl
theorem sc_cd:FnScope ["_law_script","_law_shape_here","_law_net","_law_k","_law_paper_here","_law_times_here","_law_plan","_law_late","_law_start","_law_time","_law_end","_law_far","_law_whole"] ["_law_script"] (A6 s_cd):=⟨rfl,rfl,rfl,by decide +kernel,rfl,by decide +kernel,by decide +kernel⟩
end
theorem C1f:(PyData.str "steps").canLay0=true:=by decide +kernel
theorem A4e:(PyData.str "straight").canLay0=true:=by decide +kernel
theorem C1u:PyData.eqv (.str "straight") (.str "straight")=true:=by decide +kernel
def offD (kd:Str) (cs:LR):PyData:=.tuple [.str kd,.list (cs.map dcn)]
def Kd (kd:Str):Prop:=kd="straight"\/kd="steps"
theorem Kd.lay {kd:Str} (h:Kd kd):(PyData.str kd).canLay0=true:=by rcases h with rfl | rfl; exact A4e; exact C1f
def J3 (c d:Rat × Rat):Rat:=(d.2 - c.2) / (c.1 - d.1)
def B7y (c d:Rat × Rat) (t:Rat):Rat:=c.2 + J3 c d * (c.1 - t)
theorem C2o {c d:Rat × Rat} (h:d.1 < c.1) (h1:SmR 161 85 c.1) (h2:SmR 285 151 c.2) (h3:SmR 161 85 d.1) (h4:SmR 285 151 d.2):SmR 607 549 (J3 c d) :=
 ((h4.sub h2).div (h1.sub h3) (by grind)).mono (by decide) (by decide)
def lm (vs:LQ) (m:Rat):Rat:=vs.foldl (fun m v=>if v < m then v else m) m
theorem B74 (vs:LQ) (v m:Rat):lm (vs++[v]) m=if v < lm vs m then v else lm vs m:=by unfold lm; rw [List.foldl_append]; rfl
theorem B2q:∀ (vs:LQ) (m:Rat),lm vs m<=m/\∀ v ∈ vs,lm vs m<=v
 | [],m=>⟨Rat.le_refl,fun v h=>absurd h (by simp)⟩
 | v :: r,m=>by
  obtain ⟨h1,h2⟩:=B2q r (if v < m then v else m);have e:lm (v :: r) m=lm r (if v < m then v else m):=rfl;rw [e];have h3:(if v < m then v else m)<=m/\(if v < m then v else m)<=v:=by
   split
   ·constructor <;> grind
   ·constructor <;> grind
  refine ⟨by grind,fun x hx=>?_⟩;rcases List.mem_cons.mp hx with rfl | hx
  ·grind
  ·exact h2 x hx
theorem A9h:∀ (vs:LQ) (m:Rat),lm vs m=m\/lm vs m ∈ vs
 | [],m=>.inl rfl
 | v :: r,m=>by
  have e:lm (v :: r) m=lm r (if v < m then v else m):=rfl;rw [e];rcases A9h r (if v < m then v else m) with h | h
  ·rw [h];split
   ·exact .inr List.mem_cons_self
   ·exact .inl rfl
  ·exact .inr (List.mem_cons_of_mem _ h)
def val (q:Rat) (c:Rat × Rat):Rat:=c.2 + q * c.1
theorem A0c {f:Rat × Rat->Rat} {cs:LR} {i:Nat} {c:Rat × Rat} (h:cs[i]?=some c):(cs.map f).take (i + 1)=(cs.map f).take i++[f c]:=by
 rw [List.take_add_one,List.getElem?_map,h]; rfl
theorem B8q {q m t:Rat} {c d:Rat × Rat} (hcd:d.1 < c.1) (h1:m<=val q c) (h2:m<=val q d) (t1:d.1<=t) (t2:t<=c.1):¬ B7y c d t + q * t < m:=by
 have hn:c.1 - d.1≠0:=by grind
 have hp:0 < c.1 - d.1:=by grind
 obtain ⟨x,hx⟩:∃ x,x=(c.1 - t) / (c.1 - d.1):=⟨_,rfl⟩;have hx1:x * (c.1 - d.1)=c.1 - t:=by rw [hx]; exact Rat.div_mul_cancel hn
 have x0:0<=x:=by
  refine Rat.le_of_mul_le_mul_right (c:=c.1 - d.1) ?_ hp;rw [hx1]; grind
 have x1:x<=1:=by
  refine Rat.le_of_mul_le_mul_right (c:=c.1 - d.1) ?_ hp;rw [hx1]; grind
 have e1:J3 c d * (c.1 - t)=(d.2 - c.2) * x:=by
  unfold J3;rw [hx,Rat.div_def,Rat.div_def]; grind
 have e2:B7y c d t + q * t=(1 - x) * val q c + x * val q d:=by
  unfold B7y val;rw [e1];have ht:t=c.1 - x * (c.1 - d.1):=by grind
  rw [ht]; grind
 have a1:0<=(1 - x) * (val q c - m):=Rat.mul_nonneg (by grind) (by grind);have a2:0<=x * (val q d - m):=Rat.mul_nonneg x0 (by grind);rw [e2];grind
theorem C2p {x:Int} (h:x<=60):Rat.divInt x 60<=1:=by
 have e:Rat.divInt 1 1 - Rat.divInt x 60=Rat.divInt (1 * 60 - x * 1) (1 * 60):=Rat.divInt_sub_divInt _ _ (by decide) (by decide);have h1:0<=Rat.divInt (1 * 60 - x * 1) (1 * 60):=Q4 (by omega) (by decide);have h2:Rat.divInt 1 1=1:=by decide +kernel
 rw [<- e,h2] at h1;grind
theorem smr0:SmR 1 1 0:=⟨by unfold Sm; decide,by unfold Sm; decide⟩
theorem smq0:SmQ 3900 0:=⟨smr0.1.mono (by decide),smr0.2.mono (by decide)⟩
def CvI (l:LR):Prop:=∀ (i:Nat) a b c,l[i]?=some a->l[i + 1]?=some b->l[i + 2]?=some c->J3 a b < J3 b c
def Ltt (l:LR):Prop:=l.Pairwise fun a b=>b.1 < a.1
theorem T9 {a b:Rat × Rat} (h:b.1 < a.1):J3 a b * (a.1 - b.1)=b.2 - a.2:=by unfold J3; exact Rat.div_mul_cancel (by grind)
theorem CvI.push {l:LR} {c:Rat × Rat} (H:CvI l) (h:∀ A a b,l=A++[a,b]->J3 a b < J3 b c):CvI (l++[c]):=by
 intro j x y z h1 h2 h3;have hl:j + 2 < l.length + 1:=by have:=(List.getElem?_eq_some_iff.mp h3).1; simpa using this
 rcases (show j + 2 < l.length\/j + 2=l.length by omega) with q | q
 ·rw [List.getElem?_append_left (by omega)] at h1 h2 h3;exact H j x y z h1 h2 h3
 ·rw [List.getElem?_append_left (by omega)] at h1 h2;rw [List.getElem?_append_right (by omega),q,Nat.sub_self] at h3;cases h3;refine h (l.take j) x y ?_;have e1:l.drop j=[x,y]:=by
   refine List.ext_getElem? fun k=>?_;rw [List.getElem?_drop];match k with
   | 0=>simpa using h1
   | 1=>simpa using h2
   | k + 2=>simp; omega
  rw [<- e1,List.take_append_drop]
def CvR (l:LR) (R:Rat):Prop:=CvI l/\∀ A a b,l=A++[a,b]->J3 a b=R
theorem CvR.one (c:Rat × Rat):CvR [c] 0:=by
 refine ⟨fun i a b d h1 h2 h3=>?_,fun A a b e=>?_⟩
 ·have:=(List.getElem?_eq_some_iff.mp h3).1; simp at this
 ·have:=congrArg List.length e; simp at this
theorem CvR.step {cs:LR} {T P R q v v2:Rat} (q0:0 < q) (v0:0 < v) (hv:v2=(R + v) * q) (h:CvR (cs++[(T,P)]) R):CvR (cs++[(T,P)]++[(T - q,P + v2)]) (R + v):=by
 have es:J3 (T,P) (T - q,P + v2)=R + v:=by
  have e:=T9 (a:=(T,P)) (b:=(T - q,P + v2)) (by show T - q < T; grind);have e':J3 (T,P) (T - q,P + v2) * q=(R + v) * q:=by
   rw [<- hv];have:J3 (T,P) (T - q,P + v2) * (T - (T - q))=P + v2 - P:=e;grind
  have hq:q≠0:=by grind
  rw [<- Rat.mul_div_cancel (b:=q) hq (a:=J3 (T,P) (T - q,P + v2)),e',Rat.mul_div_cancel hq]
 refine ⟨h.1.push fun A a b e=>?_,fun A a b e=>?_⟩
 ·have hb:b=(T,P):=by
   have e':cs++[(T,P)]=(A++[a])++[b]:=by rw [e]; simp
   have:=(List.append_inj' e' rfl).2;cases this; rfl
  have:=h.2 A a b e;rw [this,hb,es]; grind
 ·have e':cs++[(T,P),(T - q,P + v2)]=A++[a,b]:=by rw [<- e]; simp
  have:=(List.append_inj' e' rfl).2;cases this; exact es
theorem CvI.scale {l:LR} {s k:Rat} (hs:0 < s) (hk:0 < k) (d:Ltt l) (h:CvI l):CvI (l.map fun c=>(c.1 * s,c.2 * k)):=by
 have hh:∀ {a b:Rat × Rat},b.1 < a.1->J3 (a.1 * s,a.2 * k) (b.1 * s,b.2 * k) * s=J3 a b * k:=by
  intro a b hb;have m:=Rat.mul_pos (show 0 < a.1 - b.1 by grind) hs;have e1:=T9 (a:=(a.1 * s,a.2 * k)) (b:=(b.1 * s,b.2 * k)) (by show b.1 * s < a.1 * s; grind);have e2:=T9 hb;have e1':J3 (a.1 * s,a.2 * k) (b.1 * s,b.2 * k) * (a.1 * s - b.1 * s)=b.2 * k - a.2 * k:=e1;generalize J3 (a.1 * s,a.2 * k) (b.1 * s,b.2 * k)=z at *;have hn:a.1 - b.1≠0:=by grind
  have e3:(z * s) * (a.1 - b.1)=(J3 a b * k) * (a.1 - b.1):=by grind
  rw [<- Rat.mul_div_cancel (b:=a.1 - b.1) hn (a:=z * s),e3,Rat.mul_div_cancel hn]
 intro i a b c h1 h2 h3;rw [List.getElem?_map] at h1 h2 h3;cases x1:l[i]? with
 | none=>rw [x1] at h1; cases h1
 | some a'=>cases x2:l[i + 1]? with
  | none=>rw [x2] at h2; cases h2
  | some b'=>cases x3:l[i + 2]? with
   | none=>rw [x3] at h3; cases h3
   | some c' =>
    rw [x1] at h1; rw [x2] at h2; rw [x3] at h3;cases h1; cases h2; cases h3;have lt1:b'.1 < a'.1:=List.pairwise_iff_getElem.mp d i (i + 1) (List.getElem?_eq_some_iff.mp x1).1 (List.getElem?_eq_some_iff.mp x2).1 (by omega) |> fun z=>by
     rw [(List.getElem?_eq_some_iff.mp x1).2,(List.getElem?_eq_some_iff.mp x2).2] at z; exact z
    have lt2:c'.1 < b'.1:=List.pairwise_iff_getElem.mp d (i + 1) (i + 2) (List.getElem?_eq_some_iff.mp x2).1 (List.getElem?_eq_some_iff.mp x3).1 (by omega) |> fun z=>by
     rw [(List.getElem?_eq_some_iff.mp x2).2,(List.getElem?_eq_some_iff.mp x3).2] at z; exact z
    have g:=h i a' b' c' x1 x2 x3;have g1:=hh lt1;have g2:=hh lt2;have g3:=Rat.mul_pos (show 0 < J3 b' c' - J3 a' b' by grind) hk;refine Rat.not_le.mp fun z=>?_;have g4:=Rat.mul_nonneg (show 0<=J3 (a'.1 * s,a'.2 * k) (b'.1 * s,b'.2 * k) - J3 (b'.1 * s,b'.2 * k) (c'.1 * s,c'.2 * k) by grind) (Rat.le_of_lt hs);grind
theorem C2a {α:Type} {f:α->PyData} {xs:List α} {n:Nat} (h:n<=xs.length):cutD (xs.map f) none (some (n:Int))=(xs.take n).map f:=by
 unfold cutD;rw [HT.sIx_none,show HT.sIx (xs.map f).length (xs.map f).length (some (n:Int))=min n xs.length by rw [List.length_map]; exact HT.sIx_nat _ _ n,List.map_take];rw [Nat.min_eq_left h]; simp
theorem B5u {α:Type} {f:α->PyData} {xs:List α} {n:Nat} (h:n<=xs.length):cutD (xs.map f) (some (n:Int)) none=(xs.drop n).map f:=by
 unfold cutD;rw [HT.sIx_none,show HT.sIx (xs.map f).length 0 (some (n:Int))=min n xs.length by rw [List.length_map]; exact HT.sIx_nat _ _ n,List.map_drop,Nat.min_eq_left h,List.length_map];rw [List.take_of_length_le (by simp)]
def RiseO (cs:LR):Prop:=∀ (i:Nat) c d,cs[i]?=some c->cs[i + 1]?=some d->d.1 < c.1/\c.2 < d.2
theorem RiseO.one (c:Rat × Rat):RiseO [c]:=fun i a b _ h=>by rw [List.getElem?_eq_none (by simp)] at h; cases h
theorem RiseO.snoc {cs:LR} {c d:Rat × Rat} (h:RiseO (cs++[c])) (h1:d.1 < c.1) (h2:c.2 < d.2):RiseO (cs++[c]++[d]):=fun i a b ha hb=>by
 rcases Nat.lt_trichotomy (i + 1) (cs++[c]).length with z | z | z
 ·rw [List.getElem?_append_left (by omega)] at ha;rw [List.getElem?_append_left z] at hb;exact h i a b ha hb
 ·rw [List.getElem?_append_left (by omega)] at ha;rw [z,List.getElem?_append_right (Nat.le_refl _),Nat.sub_self] at hb;have hi:i=cs.length:=by simp at z; exact z
  rw [hi,List.getElem?_append_right (Nat.le_refl _),Nat.sub_self] at ha;cases ha; cases hb;exact ⟨h1,h2⟩
 ·rw [List.getElem?_eq_none (by simp at z ⊢; omega)] at hb; cases hb
def sumR (qs:LQ):Rat:=qs.foldr (· + ·) 0
theorem A0m:∀ (qs:LQ) (q:Rat),sumR (qs++[q])=sumR qs + q
 | [],q=>by show q + 0=0 + q; grind
 | p :: r,q=>by
  have h:=A0m r q;show p + sumR (r++[q])=p + sumR r + q;rw [h]; grind
theorem Y7:∀ {qs:LQ},(∀ q ∈ qs,0 < q)->0<=sumR qs
 | [],_=>Rat.le_refl
 | p :: r,h=>by
  have h1:=Y7 (qs:=r) fun q hq=>h q (List.mem_cons_of_mem _ hq);have h2:=h p List.mem_cons_self;show 0<=p + sumR r;grind
structure OfG (kd:Str) (cs:LR) (a b c d:Nat):Prop where
 ok:OfOk cs a b c d
 nn:∀ x ∈ cs,0<=x.1/\0<=x.2
 up:RiseO cs
 cv:kd="straight"->CvI cs
def wD (w:Int × Int × Rat):PyData:=.tuple [.int w.1,.int w.2.1,dq w.2.2]
def hD (h:Str × Int × Rat):PyData:=.tuple [.str h.1,.int h.2.1,dq h.2.2]
def On (B k:Nat) (q:Rat):Prop:=∃ z:Int,q=Rat.divInt z (B:Int)/\z.natAbs<=k * B
theorem On.mono {B k l:Nat} {q:Rat} (h:On B k q) (g:k<=l):On B l q:=let ⟨z,e,b⟩:=h; ⟨z,e,Nat.le_trans b (Nat.mul_le_mul_right _ g)⟩
theorem On.add {B k l:Nat} {p q:Rat} (hB:0 < B) (h:On B k p) (g:On B l q):On B (k + l) (p + q):=by
 obtain ⟨z,rfl,b⟩:=h;obtain ⟨y,rfl,c⟩:=g;have hn:(B:Int)≠0:=by omega
 refine ⟨z + y,?_,Nat.le_trans (Int.natAbs_add_le _ _) (by rw [Nat.add_mul]; omega)⟩;rw [Rat.divInt_add_divInt _ _ hn hn,<- Int.add_mul,Rat.divInt_mul_right hn]
theorem On.neg {B k:Nat} {p:Rat} (h:On B k p):On B k (-p):=by
 obtain ⟨z,rfl,b⟩:=h;exact ⟨-z,by rw [Rat.neg_divInt],by rw [Int.natAbs_neg]; exact b⟩
theorem On.sub {B k l:Nat} {p q:Rat} (hB:0 < B) (h:On B k p) (g:On B l q):On B (k + l) (p - q):=by
 rw [Rat.sub_eq_add_neg]; exact h.add hB g.neg
theorem On.of {B a b:Nat} {q:Rat} (hB:0 < B) (h:SmR a b q) (d:q.den ∣ B):On B (2 ^ a) q:=by
 obtain ⟨c,rfl⟩:=d;have hd:=q.den_pos;by_cases hc:c=0
 ·subst hc; rw [Nat.mul_zero] at hB; exact absurd hB (Nat.lt_irrefl _)
 ·refine ⟨q.num * c,?_,?_⟩
  ·rw [Int.natCast_mul,Rat.divInt_mul_right (by omega),Rat.num_divInt_den]
  ·rw [Int.natAbs_mul,Int.natAbs_natCast];have h1:q.num.natAbs<=2 ^ a:=Nat.le_of_lt h.1;exact Nat.mul_le_mul h1 (Nat.le_mul_of_pos_left _ hd)
theorem On.zero {B:Nat}:On B 0 0:=⟨0,by rw [Rat.zero_divInt],by simp⟩
theorem On.q {B k:Nat} {q:Rat} (hB:0 < B) (h:On B k q) (g:k * B < 2 ^ 3900) (g2:B < 2 ^ 3900):SmQ 3900 q:=by
 obtain ⟨z,rfl,b⟩:=h;have:=SmR.low (n:=3900) (d:=3900) (t:=z) (b:=(B:Int)) (Nat.lt_of_le_of_lt b g) (by unfold Sm; rw [Int.natAbs_natCast]; exact g2) (by omega);exact ⟨this.1,this.2⟩
theorem On.up {B C k:Nat} {q:Rat} (hC:0 < C) (h:On B k q):On (B * C) k q:=by
 obtain ⟨z,rfl,b⟩:=h;refine ⟨z * C,by rw [Int.natCast_mul,Rat.divInt_mul_right (by omega)],?_⟩;rw [Int.natAbs_mul,Int.natAbs_natCast,<- Nat.mul_assoc];exact Nat.mul_le_mul_right _ b
theorem L5 {a b:Str}:PyData.eqv (.str a) (.str b)=decide (a=b):=by
 rw [Bool.eq_iff_iff,decide_eq_true_eq];simp [PyData.eqv]
def LL:Nat:=591133442051411133755680800
theorem E5:0 < LL:=by decide
theorem C1c {d:Nat} (h0:0 < d) (h:d < 64):d ∣ LL:=by
 have k:∀ d:Fin 64,d.val=0\/LL % d.val=0:=by decide +kernel
 rcases k ⟨d,h⟩ with z | z
 ·exact absurd z (Nat.ne_of_gt h0)
 ·exact Nat.dvd_of_mod_eq_zero z
theorem O0 {q:Rat} (h:SmR 41 6 q):On LL (2 ^ 41) q:=by
 refine On.of E5 h (C1c q.den_pos ?_);have:=h.2; unfold Sm at this; rw [Int.natAbs_natCast] at this; exact this
theorem On.mul {B C k l:Nat} {p q:Rat} (h:On B k p) (g:On C l q):On (B * C) (k * l) (p * q):=by
 obtain ⟨z,rfl,b⟩:=h;obtain ⟨y,rfl,c⟩:=g;refine ⟨z * y,by rw [Rat.divInt_mul_divInt,Int.natCast_mul],?_⟩;rw [Int.natAbs_mul];have:=Nat.mul_le_mul b c;rw [Nat.mul_mul_mul_comm] at this;exact this
theorem A8d {B k:Nat} {n:Int} (hB:0 < B) (h:n.natAbs<=k):On B k (n:Rat):=by
 refine ⟨n * (B:Int),?_,by rw [Int.natAbs_mul,Int.natAbs_natCast]; exact Nat.mul_le_mul_right _ h⟩;have:=Rat.divInt_mul_right (n:=n) (d:=1) (a:=(B:Int)) (by omega);rw [Int.one_mul] at this;rw [this];have e:=Rat.num_divInt_den (n:Rat);rw [Rat.num_intCast,Rat.den_intCast] at e;exact e.symm
theorem onQ {B k:Nat} {q:Rat} (h:On B k q) (hB:0 < B) (hb:B<=2 ^ 1000) (g:k<=2 ^ 1000):SmQ 3900 q:=by
 refine h.q hB (Nat.lt_of_le_of_lt (Nat.mul_le_mul g hb) ?_) (Nat.lt_of_le_of_lt hb ?_)
 ·rw [<- Nat.pow_add]; exact Nat.pow_lt_pow_right (by decide) (by decide)
 ·exact Nat.pow_lt_pow_right (by decide) (by decide)
theorem C2n:LL<=2 ^ 1000:=Nat.le_trans (Nat.le_of_ble_eq_true rfl:LL<=2 ^ 100) (Nat.pow_le_pow_right (by decide) (by decide))
theorem onL {a:Nat} {q:Rat} (h:On LL (2 ^ a) q) (ha:a<=1000):SmQ 3900 q:=onQ h E5 C2n (Nat.pow_le_pow_right (by decide) ha)
theorem On.p2 {B a b:Nat} {q:Rat} (h:On B (2 ^ a) q) (g:a<=b):On B (2 ^ b) q:=h.mono (Nat.pow_le_pow_right (by decide) g)
theorem On.add2 {B a b:Nat} {p q:Rat} (hB:0 < B) (h:On B (2 ^ a) p) (g:On B (2 ^ a) q) (hb:a + 1<=b):On B (2 ^ b) (p + q):=by
 refine (h.add hB g).mono (Nat.le_trans ?_ (Nat.pow_le_pow_right (by decide) hb));rw [Nat.pow_succ]; omega
theorem On.sub2 {B a b:Nat} {p q:Rat} (hB:0 < B) (h:On B (2 ^ a) p) (g:On B (2 ^ a) q) (hb:a + 1<=b):On B (2 ^ b) (p - q):=by
 refine (h.sub hB g).mono (Nat.le_trans ?_ (Nat.pow_le_pow_right (by decide) hb));rw [Nat.pow_succ]; omega
def OnP (l:LR):Prop:=∀ (i:Nat) a b,l[i]?=some a->l[i + 1]?=some b->On LL (2 ^ 45) (J3 a b)
theorem OnP.one (c:Rat × Rat):OnP [c]:=fun i a b _ h=>by rw [List.getElem?_eq_none (by simp)] at h; cases h
theorem OnP.snoc {l:LR} {c d:Rat × Rat} (h:OnP (l++[c])) (h1:On LL (2 ^ 45) (J3 c d)):OnP (l++[c]++[d]):=fun i a b ha hb=>by
 rcases Nat.lt_trichotomy (i + 1) (l++[c]).length with z | z | z
 ·rw [List.getElem?_append_left (by omega)] at ha;rw [List.getElem?_append_left z] at hb;exact h i a b ha hb
 ·rw [List.getElem?_append_left (by omega)] at ha;rw [z,List.getElem?_append_right (Nat.le_refl _),Nat.sub_self] at hb;have hi:i=l.length:=by simp at z; exact z
  rw [hi,List.getElem?_append_right (Nat.le_refl _),Nat.sub_self] at ha;cases ha; cases hb;exact h1
 ·rw [List.getElem?_eq_none (by simp at z ⊢; omega)] at hb; cases hb
def OnC (cs:LR):Prop:=∀ c ∈ cs,On LL (2 ^ 45) c.1/\On (LL * LL) (2 ^ 90) c.2
def Hk (k:Str):Prop:=k="from"\/k="till"\/k="by"
def HOk (n:Int) (hs:LH):Prop:=∀ h ∈ hs,Hk h.1/\(0<=h.2.1/\h.2.1 < n)/\On LL (2 ^ 55) h.2.2
theorem Hk.lay {kd:Str} (h:Hk kd):(PyData.str kd).canLay0=true:=by rcases h with rfl | rfl | rfl <;> decide +kernel
theorem A1e:(PyData.str "from").canLay0=true:=by decide +kernel
theorem B85 {c:Nat} (h:c < 128):(sgn c).canLay0=true:=by
 show PyData.strOk ⟨#[c]⟩=true;unfold PyData.strOk;simp;omega
theorem getS {z:Str} {n:Int} (hl:z.length<=1000) (all:z.cps.toList.all (fun c=>decide (c < 128))=true) (h0:0<=n) (h1:n < z.length) {Q:SV->Prop} (q:∀ c,c < 128->Q (.d (sgn c))):B7o z n Q:=by
 obtain ⟨m,rfl⟩:=Int.eq_ofNat_of_zero_le h0;have hm:m < z.cps.toList.length:=by rw [Array.length_toList]; exact Int.ofNat_lt.mp h1
 refine ⟨z.cps.toList[m],M0 (List.getElem?_eq_getElem hm),q _ ?_⟩;have:=List.all_eq_true.mp all _ (List.getElem_mem hm);simpa using this
abbrev Wk:=Str × Str × LR
def kD (x:Wk):PyData:=.tuple [.str x.1,offD x.2.1 x.2.2]
def netD (xs:List Wk) (ws:LW) (hs:LH) (gs:LP):PyData:=.tuple [.list (xs.map kD),.list (ws.map wD),.list (hs.map hD),.list gs]
theorem C19 {ps:LR} {o:Int} {p:Rat × Rat} (h0:0<=o) (h:ps[o.toNat]?=some p):L2.atI (ps.map dcn) o=some (dcn p):=by
 obtain ⟨i,rfl⟩:=Int.eq_ofNat_of_zero_le h0;exact M0 (by rw [List.getElem?_map]; rw [Int.toNat_natCast] at h; rw [h]; rfl)
def sat (ps:LR) (o:Int):Rat × Rat:=ps.getD o.toNat (0,0)
theorem A6o {ps:LR} {o:Int} (h0:0<=o) (h1:o < (ps.length:Int)):L2.atI (ps.map dcn) o=some (dcn (sat ps o)) :=
 C19 h0 (by unfold sat; rw [List.getD_eq_getElem?_getD,List.getElem?_eq_getElem (by omega:o.toNat < ps.length)]; rfl)
def enD (p:Rat × Rat):Rat:=p.1 + p.2
def wSl (ps:LR) (w:Int × Int × Rat):Rat:=(sat ps w.2.1).1 - (enD (sat ps w.1) + w.2.2)
def hSl (ps:LR) (h:Str × Int × Rat):Rat:=if h.1="from" then (sat ps h.2.1).1 - h.2.2 else if h.1="till" then h.2.2 - (sat ps h.2.1).1 else h.2.2 - enD (sat ps h.2.1)
structure PlSm (p:Rat × Rat):Prop where
 s:SmQ 3900 p.1
 t:SmQ 3900 p.2
 e:SmQ 3900 (enD p)
theorem C1z:PyData.eqv (.str "from") (.str "from")=true:=by decide +kernel
theorem C1v:PyData.eqv (.str "till") (.str "from")=false:=by decide +kernel
theorem C12:PyData.eqv (.str "by") (.str "from")=false:=by decide +kernel
theorem C1w:PyData.eqv (.str "till") (.str "till")=true:=by decide +kernel
theorem C11:PyData.eqv (.str "by") (.str "till")=false:=by decide +kernel
theorem A1c:(PyData.str "till").canLay0=true:=by decide +kernel
theorem C3b:(Str.ofString "till")≠Str.ofString "from":=by decide +kernel
theorem C3e:(Str.ofString "by")≠Str.ofString "from":=by decide +kernel
theorem C3d:(Str.ofString "by")≠Str.ofString "till":=by decide +kernel
structure Off (kd:Str) (cs:LR) (t:Rat):Prop where
 st:kd="steps"->∃ c ∈ cs,c.1=t
 sr:kd="straight"->∃ c0 cl,cs[0]?=some c0/\cs[cs.length - 1]?=some cl/\¬ t < cl.1/\¬ c0.1 < t
theorem B6g {ps:LR} {o:Int} (h0:0<=o) (h1:o < (ps.length:Int)):sat ps o ∈ ps:=by
 unfold sat;rw [List.getD_eq_getElem?_getD,List.getElem?_eq_getElem (by omega:o.toNat < ps.length)];exact List.getElem_mem _
theorem U9 {kd:Str} {cs:LR} {t:Rat} {i j:Nat} {c d:Rat × Rat} (hd:Dec cs) (hs:kd≠"steps") (h1:1<=cs.length) (ei:cs[i]?=some c) (ej:cs[j]?=some d) (h2:t<=c.1) (h3:d.1<=t):Off kd cs t:=by
 refine ⟨fun z=>absurd z hs,fun _=>?_⟩;have e0:cs[0]?=some cs[0]:=List.getElem?_eq_getElem (by omega);have el:cs[cs.length - 1]?=some cs[cs.length - 1]:=List.getElem?_eq_getElem (by omega);have hi:=(List.getElem?_eq_some_iff.mp ei).1;have hj:=(List.getElem?_eq_some_iff.mp ej).1;refine ⟨_,_,e0,el,Rat.not_lt.mpr ?_,Rat.not_lt.mpr ?_⟩
 ·by_cases z:j=cs.length - 1
  ·subst z; rw [ej] at el; cases el; exact h3
  ·exact Rat.le_trans (Rat.le_of_lt (hd.get ej el (by omega))) h3
 ·by_cases z:i=0
  ·subst z; rw [ei] at e0; cases e0; exact h2
  ·exact Rat.le_trans h2 (Rat.le_of_lt (hd.get e0 ei (by omega)))
theorem R5 {kd:Str} {cs:LR} {i:Nat} {c:Rat × Rat} (hk:Kd kd) (hd:Dec cs) (h1:1<=cs.length) (ei:cs[i]?=some c):Off kd cs c.1:=by
 by_cases z:kd="steps"
 ·exact ⟨fun _=>⟨c,List.mem_of_getElem? ei,rfl⟩,fun q=>absurd (z.symm.trans q) (by decide +kernel)⟩
 ·exact U9 hd z h1 ei ei Rat.le_refl Rat.le_refl
theorem T4:∀ ls:List Int,PyData.canLayAll0 (ls.map PyData.int)=true
 | []=>rfl
 | n :: r=>by
  show ((PyData.int n).canLay0 && PyData.canLayAll0 (r.map PyData.int))=true;rw [T4 r]; rfl
theorem A41:∀ ls:List Int,PyData.depthAll (ls.map PyData.int)<=1
 | []=>by decide
 | n :: r=>by
  show max (PyData.int n).depth (PyData.depthAll (r.map PyData.int))<=1;have:=A41 r;have:(PyData.int n).depth=0:=rfl;omega
theorem A1q (ls:List Int):(PyData.list (ls.map PyData.int)).depth<=60:=by
 show PyData.depthAll (ls.map PyData.int) + 1<=60;have:=A41 ls;omega
theorem A4w (ls:List Int):(PyData.list (ls.map PyData.int)).eqv (.list [])=ls.isEmpty:=by
 cases ls <;> rfl
def rat (ss:LQ) (o:Int):Rat:=ss.getD o.toNat 0
theorem W8 {ss:LQ} {o:Int} (h0:0<=o) (h1:o < (ss.length:Int)):L2.atI (ss.map dq) o=some (dq (rat ss o)):=by
 obtain ⟨i,rfl⟩:=Int.eq_ofNat_of_zero_le h0;have hi:i < ss.length:=by omega
 refine M0 ?_;unfold rat;rw [List.getElem?_map,Int.toNat_natCast,List.getD_eq_getElem?_getD,List.getElem?_eq_getElem hi]; rfl
theorem Z2 {ss:LQ} {o:Int} (h0:0<=o) (h1:o < (ss.length:Int)):rat ss o ∈ ss:=by
 unfold rat;rw [List.getD_eq_getElem?_getD,List.getElem?_eq_getElem (by omega:o.toNat < ss.length)];exact List.getElem_mem _
theorem S3 {o:Int} {n:Nat} (h0:0<=o) (h1:o < (n:Int)):ixN n o=some o.toNat:=by
 obtain ⟨i,rfl⟩:=Int.eq_ofNat_of_zero_le h0;have hi:i < n:=by omega
 unfold ixN;simp;omega
theorem B7x {B k m:Nat} {p q:Rat} (hB:0 < B) (h:On B (m * k) p) (g:On B k q):On B ((m + 1) * k) (p + q):=(h.add hB g).mono (by rw [Nat.add_mul,Nat.one_mul]; exact Nat.le_refl _)
theorem C1y:PyData.eqv (.str "from") (.str "till")=false:=by decide +kernel
theorem C10:PyData.eqv (.str "from") (.str "by")=false:=by decide +kernel
theorem C1x:PyData.eqv (.str "till") (.str "by")=false:=by decide +kernel
theorem C13:PyData.eqv (.str "by") (.str "by")=true:=by decide +kernel
theorem A1f:(PyData.str "by").canLay0=true:=by decide +kernel
theorem num_lt {q:Rat}:q.num < 0 ↔ q < 0:=by
 rw [<- Rat.not_le,<- Rat.num_nonneg]; omega
def vD:Option Rat->PyData
 | none=>.none
 | some q=>dq q
theorem B09 {α:Type} (f:α->Bool):∀ xs:List α,blsD (xs.map fun x=>.bool (f x))=some (xs.map f)
 | []=>rfl
 | x :: r=>by
  show (blsD (r.map fun x=>.bool (f x))).map (f x :: ·)=_;rw [B09 f r]; rfl
theorem unQ {D c:Nat} {q:Rat} (h:On (LL * D) (c * 2 ^ 60) q) (hD:0 < D) (hd:D<=2 ^ 20) (hc:c<=2 ^ 12):SmQ 3900 q :=
 onQ h (Nat.mul_pos E5 hD) (Nat.le_trans (Nat.mul_le_mul (Nat.le_of_ble_eq_true rfl:LL<=2 ^ 100) hd) (by rw [<- Nat.pow_add]; exact Nat.pow_le_pow_right (by decide) (by decide))) (Nat.le_trans (Nat.mul_le_mul_right _ hc) (by rw [<- Nat.pow_add]; exact Nat.pow_le_pow_right (by decide) (by decide)))
theorem hd {a b:PSt} {D:PEnds} {e:PEnv} (h:∀ R,R=b->pSeq a R D e):pSeq a b D e:=h b rfl
theorem Z0 {a b:PSt} {D:PEnds} {e:PEnv} (P:PEnv->Prop) (h1:∀ R:PSt,(∀ e',P e'->R D e')->pSeq a R D e) (h2:∀ e',P e'->b D e'):pSeq a b D e:=h1 b h2
theorem B5p {g:Int} (g0:0<=g) (g1:g < 3):∃ kd:Str,Hk kd/\L2.atI [PyData.str "from",.str "till",.str "by"] g=some (.str kd):=by
 have hg:g=0\/g=1\/g=2:=by omega
 rcases hg with rfl | rfl | rfl
 ·exact ⟨_,.inl rfl,rfl⟩
 ·exact ⟨_,.inr (.inl rfl),rfl⟩
 ·exact ⟨_,.inr (.inr rfl),rfl⟩
def B3f (K:PySem.W.Frag):Sp:=fun vs H Q _=>∃ (a:Addr) (ns:List Int) (k:Int),vs=[.ref a,.int k]/\SqL K H a (ns.map V.int)/\0<=k/\k<=300/\∀ p H',H p=none->StAt H' p->Kp p H H'->Q (.ref p) H'
def B3p:Pu.PSp:=fun as Q=>∃ (ns:List Int) (k:Int),as=[.bor (ns.map .int),.d (.int k)]/\0<=k/\k<=300/\Q .st
theorem C2c {K:Frag}:∀ vs H Q E,spOf K [.vw,.dat] B3p vs H Q E->B3f K vs H Q E:=by
 rintro vs H Q E ⟨w,as,Qp,rfl,ok,a,⟨ns,kk,rfl,k0,k1,q⟩,k⟩;cases a with
 | vw h t=>cases t with
  | dat h' t =>
   cases t;obtain ⟨a,us,e,hS,hd⟩:=h.lst ok;subst e;rw [Den.intE h'];refine ⟨a,ns,kk,rfl,by rw [<- B0l hd]; exact hS,k0,k1,fun p H' hp S' kp=>?_⟩;have out:∀ b o,w.H b=some o->H' b=some o:=fun b o e=>kp b o (F5 e hp) e;refine k (.ref p) .st ⟨fun b=>w.M b\/b=p,H',w.F⟩ ⟨fun b o e=>out b o (ok.sub b o e),fun r hr=>?_,fun r hr=>?_⟩ ⟨⟨Same.refl _,fun b o e _=>out b o e,fun _ z=>.inl z,fun b z=>?_,fun b e=>?_⟩,fun _ _ z=>.inl z⟩ ⟨p,rfl,.inr rfl⟩ rfl q
   ·rcases hr with hr | rfl
    ·exact (ok.st r hr).kp (ok.mne hp hr) kp
    ·exact S'
   ·rcases hr with hr | rfl
    ·exact ok.nf r hr
    ·exact ok.fnone hp
   ·rcases z with z | rfl
    ·exact .inl z
    ·exact .inr hp
   ·cases hb:w.H b with
    | none=>rfl
    | some o=>have:=out b o hb; rw [show H' b=none from e] at this; cases this
theorem A43 {K:PySem.W.Frag} {H:Hp}:∀ ns:List Int,DenAll K H (ns.map V.int) (ns.map PyData.int)
 | []=>.nil
 | n :: r=>.cons (.int n) (A43 r)
theorem Y2:∀ (n:Nat) {a:Array Nat} (b:Array Nat),(a.all fun c=>decide (c < 0x110000))=true->(b.all fun c=>decide (c < 0x110000))=true->(((List.replicate n a).foldl (·++·) b).all fun c=>decide (c < 0x110000))=true
 | 0,_,_,_,hb=>hb
 | n + 1,a,b,ha,hb=>by
  rw [List.replicate_succ,List.foldl_cons];exact Y2 n (b++a) ha (by rw [Array.all_append,ha,hb]; rfl)
theorem B71 {x:Str} {n:Int} (h:(PyData.str x).canLay0=true):(PyData.str (Txt.mul x n)).canLay0=true:=by
 unfold Txt.mul;split
 ·decide +kernel
 ·split
  ·exact h
  ·exact Y2 _ _ h (by decide +kernel)
def pD (v:Int × Int):PyData:=.tuple [.int v.1,.int v.2]
def qD (u:Str × Int):PyData:=.tuple [.str u.1,.int u.2]
def shD (xs:List Wk) (vs:List (Int × Int)) (us:List (Str × Int)):PyData:=.tuple [.list (xs.map kD),.list (vs.map pD),.list (us.map qD)]
structure ShOk (n:Nat) (xs:List Wk) (vs:List (Int × Int)) (us:List (Str × Int)):Prop where
 ln:xs.length=n
 n0:1<=n
 n1:n<=10
 of:∀ x ∈ xs,Kd x.2.1/\OfG x.2.1 x.2.2 100 54 244 130/\OnC x.2.2/\(x.2.1="straight"->OnP x.2.2)
 nm:∀ x ∈ xs,(PyData.str x.1).canLay0=true
 vl:vs.length<=40
 vk:∀ v ∈ vs,(0<=v.1/\v.1 < (n:Int))/\(0<=v.2/\v.2 < (n:Int))
 ul:us.length<=40
 uk:∀ u ∈ us,Hk u.1/\0<=u.2/\u.2 < (n:Int)
 vn:∀ v ∈ vs,v.1≠v.2
theorem ShOk.addV {n:Nat} {xs:List Wk} {vs:List (Int × Int)} {us:List (Str × Int)} {a b:Int} (ok:ShOk n xs vs us) (ha:0<=a/\a < (n:Int)) (hb:0<=b/\b < (n:Int)) (hv:vs.length < 40) (hne:a≠b):ShOk n xs (vs++[(a,b)]) us:=by
 refine ⟨ok.ln,ok.n0,ok.n1,ok.of,ok.nm,by rw [List.length_append,List.length_singleton]; omega,fun v hv'=>?_,ok.ul,ok.uk,fun v hv'=>?_⟩
 ·rcases List.mem_append.mp hv' with q | q
  ·exact ok.vk v q
  ·rw [List.mem_singleton.mp q]; exact ⟨ha,hb⟩
 ·rcases List.mem_append.mp hv' with q | q
  ·exact ok.vn v q
  ·rw [List.mem_singleton.mp q]; exact hne
theorem ShOk.addU {n:Nat} {xs:List Wk} {vs:List (Int × Int)} {us:List (Str × Int)} {a:Int} {kd:Str} (ok:ShOk n xs vs us) (ha:0<=a/\a < (n:Int)) (hk:Hk kd) (hu:us.length < 40):ShOk n xs vs (us++[(kd,a)]):=by
 refine ⟨ok.ln,ok.n0,ok.n1,ok.of,ok.nm,ok.vl,ok.vk,by rw [List.length_append,List.length_singleton]; omega,fun v hv'=>?_,ok.vn⟩;rcases List.mem_append.mp hv' with q | q
 ·exact ok.uk v q
 ·rw [List.mem_singleton.mp q]; exact ⟨hk,ha⟩
theorem A1d:∀ ls:List Int,PyData.canLayAll0 (ls.map PyData.int)=true:=T4
theorem B2n {n:Nat}:∀ {l:List Int},l.Nodup->(∀ x ∈ l,0<=x/\x < (n:Int))->l.length<=n:=fun {l} h g=>by
 have h2:(l.map Int.toNat).Nodup:=List.pairwise_map.mpr (List.Pairwise.imp_of_mem (fun {a b} ha hb (hne:a≠b) e=>by have:=g a ha; have:=g b hb; omega) h);have h3:(l.map Int.toNat) ⊆ List.range n:=fun a ha=>by
  obtain ⟨x,hx,rfl⟩:=List.mem_map.mp ha;have:=g x hx;exact List.mem_range.mpr (by omega)
 have:=List.Nodup.length_le_of_subset h2 h3;simpa using this
def ArOk (n v u:Nat) (a:Str × Int):Prop:=0<=a.2/\((a.1="start"/\a.2 < (n:Int))\/(a.1="end"/\a.2 < (n:Int))\/(a.1="wait"/\a.2 < (v:Int))\/(a.1="hold"/\a.2 < (u:Int)))
theorem A0x {u:Str × Int} (h:Hk u.1):(qD u).canLay0=true:=by
 show ((PyData.str u.1).canLay0 && ((PyData.int u.2).canLay0 && true))=true;rw [h.lay]; rfl
theorem A3n (u:Str × Int):(qD u).depth<=60:=by unfold qD; exact Nat.le_of_ble_eq_true rfl
theorem ArOk.snoc {n v u:Nat} {fs:List (Str × Int)} {i:Nat} (h:∀ a ∈ fs,ArOk n v u a) (hi:i < u):∀ a ∈ fs++[(Str.ofString "hold",(i:Int))],ArOk n v u a:=fun a ha=>by
 rcases List.mem_append.mp ha with z | z
 ·exact h a z
 ·rw [List.mem_singleton.mp z]; exact ⟨by show (0:Int)<=(i:Int); omega,.inr (.inr (.inr ⟨rfl,by show (i:Int) < (u:Int); omega⟩))⟩
def paD (p:(Str × Int) × Rat):PyData:=.tuple [qD p.1,dq p.2]
theorem ArOk.lay {n v u:Nat} {a:Str × Int} (h:ArOk n v u a):(qD a).canLay0=true:=by
 show ((PyData.str a.1).canLay0 && ((PyData.int a.2).canLay0 && true))=true;have:(PyData.str a.1).canLay0=true:=by
  rcases h.2 with ⟨e,_⟩ | ⟨e,_⟩ | ⟨e,_⟩ | ⟨e,_⟩ <;> rw [e] <;> decide +kernel
 rw [this]; rfl
theorem A0e {n v u:Nat}:∀ {l:List (Str × Int)},(∀ a ∈ l,ArOk n v u a)->PyData.canLayAll0 (l.map qD)=true
 | [],_=>rfl
 | a :: r,h=>by
  show ((qD a).canLay0 && PyData.canLayAll0 (r.map qD))=true;rw [(h a List.mem_cons_self).lay,A0e fun x hx=>h x (List.mem_cons_of_mem _ hx)]; rfl
theorem B78 {l:LP} {f:PyData->Bool} (h:l.any f=true):∃ p,l.findIdx? f=some p/\p < l.length:=by
 rcases e:l.findIdx? f with _ | p
 ·rw [List.findIdx?_eq_none_iff] at e;obtain ⟨y,y1,y2⟩:=List.any_eq_true.mp h;rw [e y y1] at y2; cases y2
 ·exact ⟨p,rfl,(List.findIdx?_eq_some_iff_getElem.mp e).1⟩
theorem four {x:Int} (h0:0<=x) (h:x<=4):0<=Rat.divInt x 4/\Rat.divInt x 4<=1:=by
 have e:Rat.divInt 1 1 - Rat.divInt x 4=Rat.divInt (1 * 4 - x * 1) (1 * 4):=Rat.divInt_sub_divInt _ _ (by decide) (by decide);have h1:0<=Rat.divInt (1 * 4 - x * 1) (1 * 4):=Q4 (by omega) (by decide);have h2:Rat.divInt 1 1=1:=by decide +kernel
 rw [<- e,h2] at h1;exact ⟨Q4 h0 (by decide),by grind⟩
theorem C05 {n a b:Int} (h0:0<=a) (h1:a < n) (b0:0<=b) (b1:b < n - 1):a≠(a + 1 + b) % n:=fun h=>by
 have e:=Int.emod_add_mul_ediv (a + 1 + b) n;rw [<- h] at e;generalize (a + 1 + b) / n=q at e;rcases Int.lt_or_le 0 q with z | z
 ·have:=Int.mul_le_mul_of_nonneg_left (show 1<=q by omega) (show 0<=n by omega);omega
 ·have:=Int.mul_le_mul_of_nonneg_left z (show 0<=n by omega);omega
def ole (x y:Option Rat):Prop:=∀ a,x=some a->∃ b,y=some b/\a<=b
theorem C2q (y:Option Rat):ole none y:=fun _ h=>nomatch h
abbrev Wy:=Nat × Nat × Rat × (Str × Int)
def upB:Option Rat->Rat->Bool
 | none,_=>true
 | some b,r=>decide (b < r)
def fa (f:List (Option Rat)) (v:Nat):Option Rat:=(f[v]?).join
abbrev Bst:=List (Option Rat) × List (Option Wy) × Option Nat
def rlx (s:Bst) (w:Wy):Bst:=match fa s.1 w.1 with
 | none=>s
 | some a=>if upB (fa s.1 w.2.1) (a + w.2.2.1) then (s.1.set w.2.1 (some (a + w.2.2.1)),s.2.1.set w.2.1 (some w),some w.2.1) else s
def strF (ways:List Wy) (s:Bst):Bst:=ways.foldl rlx s
theorem rlx_len {s:Bst} {w:Wy}:(rlx s w).1.length=s.1.length/\(rlx s w).2.1.length=s.2.1.length:=by
 unfold rlx;split
 ·exact ⟨rfl,rfl⟩
 ·split
  ·simp
  ·exact ⟨rfl,rfl⟩
theorem strF_len {ways:List Wy}:∀ {s:Bst},(strF ways s).1.length=s.1.length/\(strF ways s).2.1.length=s.2.1.length:=by
 induction ways with
 | nil=>exact fun {s}=>⟨rfl,rfl⟩
 | cons w r ih=>exact fun {s}=>⟨(ih (s:=rlx s w)).1.trans rlx_len.1,(ih (s:=rlx s w)).2.trans rlx_len.2⟩
def bs0 (n:Nat):Bst:=(List.replicate n none++[some 0],List.replicate (n + 1) none,none)
def bsK (ways:List Wy) (n:Nat):Nat->Bst
 | 0=>bs0 n
 | k + 1=>let s:=bsK ways n k; strF ways (s.1,s.2.1,none)
theorem B08 {ways:List Wy} {n:Nat}:∀ k,(bsK ways n k).1.length=n + 1/\(bsK ways n k).2.1.length=n + 1
 | 0=>by simp [bsK,bs0]
 | k + 1=>⟨strF_len.1.trans (B08 k).1,strF_len.2.trans (B08 k).2⟩
theorem fa0 {n v:Nat}:fa (bs0 n).1 v=if v=n then some 0 else none:=by
 unfold fa bs0;dsimp only;rw [List.getElem?_append,List.length_replicate];by_cases h:v < n
 ·rw [if_pos h,if_neg (by omega),List.getElem?_replicate,if_pos h]; rfl
 ·rw [if_neg h];by_cases e:v=n
  ·subst e; simp
  ·rw [if_neg e,List.getElem?_eq_none (by simp; omega)]; rfl
theorem A4v {α:Type} {f:α->PyData} {xs:List α} {pg:PyData->PEnv->(PEnv->Prop)->Prop} {pb:PSt} {D:PEnds} {env:PEnv} (Iv:Nat->PEnv->Prop) (h0:Iv 0 env)
  (hs:∀ (i:Nat) a e,xs[i]?=some a->Iv i e->pg (.tuple [.int (i:Int),f a]) e fun e2=>pb ⟨Iv (i + 1),D.rt,D.nx,Iv (i + 1)⟩ e2) (hd:∀ e,Iv xs.length e->D.nx e):A31 (A0g (xs.map f)) pg pb D env:=by
 refine ⟨Iv,h0,fun i x e hx hi=>?_,fun e h=>hd e (by rwa [A1n,List.length_map] at h)⟩;obtain ⟨y,hy,rfl⟩:=B0u hx;rw [List.getElem?_map] at hy;cases ha:xs[i]? with
 | none=>rw [ha] at hy; cases hy
 | some a=>rw [ha] at hy; cases hy; exact hs i a e ha hi
def O4 (q:Rat):Prop:=On (LL * 4) (2 ^ 58) q
theorem O4.q {q:Rat} (h:O4 q):SmQ 3900 q:=unQ (D:=4) (c:=1) (h.mono (by decide)) (by decide) (by decide) (by decide)
def kst (ways:List Wy) (n:Nat):Option Nat:=(List.range (n + 1)).find? fun k=>(bsK ways n (k + 1)).2.2.isNone
structure Kps (ws:LW) (hs:LH) (ps:LR) (W:Option Rat):Prop where
 s:∀ p ∈ ps,0<=p.1
 w:∀ w ∈ ws,0<=wSl ps w
 h:∀ h ∈ hs,0<=hSl ps h
 e:∀ V,W=some V->∀ p ∈ ps,enD p<=V
def pvS (ps:LR) (v:Nat):Rat:=(ps.getD v (0,0)).1
theorem B3m {ps:LR}:pvS ps ps.length=0:=by unfold pvS; rw [List.getD_eq_getElem?_getD,List.getElem?_eq_none (Nat.le_refl _)]; rfl
theorem C2z {ps:LR} {i:Nat} {p:Rat × Rat} (h:ps[i]?=some p):pvS ps i=p.1:=by unfold pvS; rw [List.getD_eq_getElem?_getD,h]; rfl
structure PSz (B a:Nat) (ws:LW) (hs:LH) (ps:LR):Prop where
 b0:0 < B
 b1:B<=2 ^ 1000
 a1:a<=900
 ln:ps.length<=10
 wl:ws.length<=40
 hl:hs.length<=40
 p:∀ p ∈ ps,On B (2 ^ a) p.1/\On B (2 ^ a) p.2
 w:∀ w ∈ ws,(0<=w.1/\w.1 < (ps.length:Int))/\(0<=w.2.1/\w.2.1 < (ps.length:Int))/\On B (2 ^ a) w.2.2
 h:∀ h ∈ hs,Hk h.1/\(0<=h.2.1/\h.2.1 < (ps.length:Int))/\On B (2 ^ a) h.2.2
theorem onB {B a:Nat} {q:Rat} (h:On B (2 ^ a) q) (hB:0 < B) (hb:B<=2 ^ 1000) (g:a<=1000):SmQ 3900 q:=onQ h hB hb (Nat.pow_le_pow_right (by decide) g)
section
variable {B a:Nat} {ws:LW} {hs:LH} {ps:LR}
theorem PSz.sm (ok:PSz B a ws hs ps) {b:Nat} {q:Rat} (h:On B (2 ^ b) q) (g:b<=a + 10):SmQ 3900 q:=onB h ok.b0 ok.b1 (by have:=ok.a1; omega)
theorem PSz.st (ok:PSz B a ws hs ps) {o:Int} (h0:0<=o) (h1:o < (ps.length:Int)):On B (2 ^ a) (sat ps o).1/\On B (2 ^ a) (sat ps o).2/\On B (2 ^ (a + 1)) (enD (sat ps o)) :=
 let z:=ok.p _ (B6g h0 h1)
 ⟨z.1,z.2,z.1.add2 ok.b0 z.2 (Nat.le_refl _)⟩
theorem PSz.pl (ok:PSz B a ws hs ps) {o:Int} (h0:0<=o) (h1:o < (ps.length:Int)):PlSm (sat ps o) :=
 let ⟨x,y,z⟩:=ok.st h0 h1
 ⟨ok.sm x (by omega),ok.sm y (by omega),ok.sm z (by omega)⟩
theorem PSz.wS (ok:PSz B a ws hs ps) {w:Int × Int × Rat} (hw:w ∈ ws):On B (2 ^ (a + 3)) (wSl ps w)/\On B (2 ^ (a + 2)) (enD (sat ps w.1) + w.2.2):=by
 obtain ⟨x,y,z⟩:=ok.w w hw;have e:=(ok.st x.1 x.2).2.2.add2 ok.b0 (z.p2 (by omega)) (show a + 1 + 1<=a + 2 by omega);exact ⟨((ok.st y.1 y.2).1.p2 (by omega)).sub2 ok.b0 e (by omega),e⟩
end
theorem B3i {ps:LR} {o:Int}:rat (ps.map enD) o=enD (sat ps o):=by
 unfold rat sat;rw [List.getD_eq_getElem?_getD,List.getD_eq_getElem?_getD,List.getElem?_map];cases ps[o.toNat]? with
 | none=>show (0:Rat)=0 + 0; rw [Rat.add_zero]
 | some p=>rfl
section
variable {ws:LW} {hs:LH} {ps:LR} {W x:Rat} {i:Nat}
end
theorem A17:LL * 4<=2 ^ 100:=by decide +kernel
theorem G2 {B a:Nat} (h:B<=2 ^ a) (g:a<=1000):B<=2 ^ 1000:=Nat.le_trans h (Nat.pow_le_pow_right (by decide) g)
theorem kz3:∀ z ∈ [("straight":Str),"straight","steps"],Kd z:=fun z hz=>by
 simp only [List.mem_cons,List.not_mem_nil,or_false] at hz;rcases hz with rfl | rfl | rfl
 ·exact .inl rfl
 ·exact .inl rfl
 ·exact .inr rfl
theorem Z1 {ps:LR} {i:Nat} (h:i < ps.length):ps[i]?=some (sat ps (i:Int)):=by
 unfold sat;rw [List.getD_eq_getElem?_getD,Int.toNat_natCast,List.getElem?_eq_getElem h]; rfl
def dl (a v:Nat):Rat:=if v=a then 1 else 0
def sumV (f:Nat->Rat) (n:Nat):Rat:=My.S ((List.range n).map f)
theorem E8 {f:Nat->Rat} {n:Nat}:sumV f (n + 1)=sumV f n + f n:=by
 unfold sumV;rw [List.range_succ,List.map_append,My.B1j];show _ + (_ + 0)=_; rw [Rat.add_zero]
theorem A3g {f g:Nat->Rat}:∀ n,sumV (fun v=>f v + g v) n=sumV f n + sumV g n
 | 0=>by show (0:Rat)=0 + 0; grind
 | n + 1=>by rw [E8,E8,E8,A3g n]; grind
theorem A19 {t:Nat->Rat} {a:Nat}:∀ n,sumV (fun v=>dl a v * t v) n=if a < n then t a else 0
 | 0=>rfl
 | n + 1=>by
  rw [E8,A19 n];unfold dl;by_cases h:a < n
  ·rw [if_pos h,if_neg (by omega),if_pos (by omega)]; grind
  ·rw [if_neg h];by_cases e:n=a
   ·rw [if_pos e,if_pos (by omega),e]; grind
   ·rw [if_neg e,if_neg (by omega)]; grind
theorem O3 {f g:Nat->Rat}:∀ {n},(∀ v,v < n->f v=g v)->sumV f n=sumV g n
 | 0,_=>rfl
 | n + 1,h=>by rw [E8,E8,O3 fun v hv=>h v (by omega),h n (by omega)]
section
variable (n:Nat) (vs:List (Int × Int)) (us:List (Str × Int))
def arT (a:Str × Int):Nat:=if a.1="start" then n else if a.1="end" then a.2.toNat else if a.1="wait" then ((vs[a.2.toNat]?).getD (0,0)).1.toNat else if ((us[a.2.toNat]?).getD ("",0)).1="from" then n else ((us[a.2.toNat]?).getD ("",0)).2.toNat
def arH (a:Str × Int):Nat:=if a.1="start" then a.2.toNat else if a.1="end" then n else if a.1="wait" then ((vs[a.2.toNat]?).getD (0,0)).2.toNat else if ((us[a.2.toNat]?).getD ("",0)).1="from" then ((us[a.2.toNat]?).getD ("",0)).2.toNat else n
def arL (a:Str × Int):Bool:=decide (a.1="hold") && decide (((us[a.2.toNat]?).getD ("",0)).1="till")
def dfA (a:Str × Int) (v:Nat):Rat:=dl (arH n vs us a) v - dl (arT n vs us a) v
def inA (a:Str × Int) (v:Nat):Rat:=dl (arH n vs us a) v - (if arL us a=true then dl (arT n vs us a) v else 0)
def ofA (a:Str × Int) (v:Nat):Rat:=if arL us a=true then 0 else dl (arT n vs us a) v
def sA (pa:List ((Str × Int) × Rat)) (f:Str × Int->Rat):Rat:=My.S (pa.map fun p=>p.2 * f p.1)
def FI (pa:List ((Str × Int) × Rat)) (v:Nat):Rat:=sA pa fun a=>inA n vs us a v
def FO (pa:List ((Str × Int) × Rat)) (v:Nat):Rat:=sA pa fun a=>ofA n vs us a v
end
theorem C3g {n:Nat} {vs:List (Int × Int)} {us:List (Str × Int)} (a:Str × Int) (v:Nat):inA n vs us a v=ofA n vs us a v + dfA n vs us a v:=by
 unfold inA ofA dfA;split <;> grind
theorem W7 {f:Str × Int->Rat}:sA [] f=0:=rfl
theorem G8 {p:(Str × Int) × Rat} {pa:List ((Str × Int) × Rat)} {f:Str × Int->Rat}:sA (p :: pa) f=p.2 * f p.1 + sA pa f:=rfl
theorem A0s {f:Str × Int->Rat}:∀ {pa pb:List ((Str × Int) × Rat)},sA (pa++pb) f=sA pa f + sA pb f
 | [],pb=>by rw [List.nil_append,W7,Rat.zero_add]
 | p :: r,pb=>by rw [List.cons_append,G8,G8,A0s]; grind
theorem B3g {f g:Str × Int->Rat}:∀ {pa:List ((Str × Int) × Rat)},sA pa (fun a=>f a + g a)=sA pa f + sA pa g
 | []=>by rw [W7,W7,W7,Rat.zero_add]
 | p :: r=>by rw [G8,G8,G8,B3g]; grind
theorem S9 {f g:Str × Int->Rat}:∀ {pa:List ((Str × Int) × Rat)},(∀ p ∈ pa,f p.1=g p.1)->sA pa f=sA pa g
 | [],_=>rfl
 | p :: r,h=>by rw [G8,G8,h p List.mem_cons_self,S9 fun q hq=>h q (List.mem_cons_of_mem _ hq)]
theorem B1r {f:Str × Int->Rat}:∀ {pa:List ((Str × Int) × Rat)},(∀ p ∈ pa,0<=p.2/\0<=f p.1)->0<=sA pa f
 | [],_=>Rat.le_refl
 | p :: r,h=>by
  rw [G8];have h1:=h p List.mem_cons_self;have h2:=B1r fun q hq=>h q (List.mem_cons_of_mem _ hq);have:=Rat.mul_nonneg h1.1 h1.2;grind
theorem A2c {f:Str × Int->Nat->Rat} {g:Nat->Rat} {m:Nat}:∀ {pa:List ((Str × Int) × Rat)},sumV (fun v=>sA pa (fun a=>f a v) * g v) m=sA pa fun a=>sumV (fun v=>f a v * g v) m
 | []=>by
  rw [W7];induction m with
  | zero=>rfl
  | succ k ih=>rw [E8,ih,W7]; grind
 | p :: r=>by
  rw [G8,<- A2c (pa:=r)];have:sumV (fun v=>sA (p :: r) (fun a=>f a v) * g v) m=sumV (fun v=>p.2 * (f p.1 v * g v) + sA r (fun a=>f a v) * g v) m:=O3 fun v _=>by rw [G8]; grind
  rw [this,A3g];have mul:∀ m,sumV (fun v=>p.2 * (f p.1 v * g v)) m=p.2 * sumV (fun v=>f p.1 v * g v) m:=fun m=>by
   induction m with
   | zero=>show (0:Rat)=p.2 * 0; grind
   | succ k ih=>rw [E8,E8,ih]; grind
  rw [mul]
structure PB (n:Nat) (vs:List (Int × Int)) (us:List (Str × Int)) (pa:List ((Str × Int) × Rat)):Prop where
 ln:pa.length<=48
 ar:∀ p ∈ pa,ArOk n vs.length us.length p.1/\On LL (2 ^ 51) p.2/\0 < p.2
 nd:(pa.map (·.1)).Nodup
 bal:∀ v,v < n->sA pa (fun a=>dfA n vs us a v)=0
theorem PB.eq {n:Nat} {vs:List (Int × Int)} {us:List (Str × Int)} {pa:List ((Str × Int) × Rat)} (h:PB n vs us pa) {v:Nat} (hv:v < n):FI n vs us pa v=FO n vs us pa v:=by
 unfold FI FO;rw [S9 (g:=fun a=>ofA n vs us a v + dfA n vs us a v) fun p _=>C3g p.1 v,B3g,h.bal v hv,Rat.add_zero]
theorem PB.nn {n:Nat} {vs:List (Int × Int)} {us:List (Str × Int)} {pa:List ((Str × Int) × Rat)} (h:PB n vs us pa) {v:Nat}:0<=FO n vs us pa v:=by
 unfold FO;refine B1r fun p hp=>⟨Rat.le_of_lt (h.ar p hp).2.2,?_⟩;unfold ofA dl;split
 ·exact Rat.le_refl
 ·split
  ·decide
  ·exact Rat.le_refl
theorem tel {T H:Str × Int->Nat} {v:Nat}:∀ {l:List (Str × Int)} {nd:Nat->Nat},(∀ i a,l[i]?=some a->T a=nd i/\H a=nd (i + 1))->My.S (l.map fun a=>dl (H a) v - dl (T a) v)=dl (nd l.length) v - dl (nd 0) v
 | [],nd,_=>by show (0:Rat)=_; rw [List.length_nil]; grind
 | a :: r,nd,h=>by
  obtain ⟨h1,h2⟩:=h 0 a rfl;have ih:=tel (v:=v) (l:=r) (nd:=fun i=>nd (i + 1)) fun i b hb=>h (i + 1) b hb;show dl (H a) v - dl (T a) v + My.S (r.map fun a=>dl (H a) v - dl (T a) v)=_;rw [ih,h1,h2,List.length_cons];grind
def wtA (ws:LW) (hs:LH) (a:Str × Int):Rat:=if a.1="wait" then ((ws[a.2.toNat]?).getD (0,0,0)).2.2 else if a.1="hold" then (if ((hs[a.2.toNat]?).getD ("",0,0)).1="from" then ((hs[a.2.toNat]?).getD ("",0,0)).2.2 else 0 - ((hs[a.2.toNat]?).getD ("",0,0)).2.2) else 0
def rtA (a:Str × Int):Rat:=if a.1="end" then 1 else 0
theorem w_es:¬ (Str.ofString "end"=Str.ofString "start"):=by decide +kernel
theorem w_ws:¬ (Str.ofString "wait"=Str.ofString "start"):=by decide +kernel
theorem w_we:¬ (Str.ofString "wait"=Str.ofString "end"):=by decide +kernel
theorem w_hs:¬ (Str.ofString "hold"=Str.ofString "start"):=by decide +kernel
theorem w_he:¬ (Str.ofString "hold"=Str.ofString "end"):=by decide +kernel
theorem w_hw:¬ (Str.ofString "hold"=Str.ofString "wait"):=by decide +kernel
theorem w_se:¬ (Str.ofString "start"=Str.ofString "end"):=by decide +kernel
theorem w_sw:¬ (Str.ofString "start"=Str.ofString "wait"):=by decide +kernel
theorem w_sh:¬ (Str.ofString "start"=Str.ofString "hold"):=by decide +kernel
theorem w_ew:¬ (Str.ofString "end"=Str.ofString "wait"):=by decide +kernel
theorem w_eh:¬ (Str.ofString "end"=Str.ofString "hold"):=by decide +kernel
theorem w_wh:¬ (Str.ofString "wait"=Str.ofString "hold"):=by decide +kernel
theorem w_tf:¬ (Str.ofString "till"=Str.ofString "from"):=by decide +kernel
theorem w_bf:¬ (Str.ofString "by"=Str.ofString "from"):=by decide +kernel
theorem w_bt:¬ (Str.ofString "by"=Str.ofString "till"):=by decide +kernel
theorem w_ft:¬ (Str.ofString "from"=Str.ofString "till"):=by decide +kernel
structure ArV (n:Nat) (vs:List (Int × Int)) (us:List (Str × Int)) (ws:LW) (hs:LH) (a:Str × Int) (t h:Nat) (l:Bool) (wt rt:Rat):Prop where
 t:arT n vs us a=t
 h:arH n vs us a=h
 l:arL us a=l
 wt:wtA ws hs a=wt
 rt:rtA a=rt
theorem Q8 {n:Nat} {vs:List (Int × Int)} {us:List (Str × Int)} {ws:LW} {hs:LH} {a:Str × Int} (ok:ArOk n vs.length us.length a) (ev:ws.map (fun w=>(w.1,w.2.1))=vs) (eu:hs.map (fun h=>(h.1,h.2.1))=us) (hk:∀ h ∈ hs,Hk h.1) :
  (∃ k:Nat,a=(Str.ofString "start",(k:Int))/\k < n/\ArV n vs us ws hs a n k false 0 0)\/(∃ k:Nat,a=(Str.ofString "end",(k:Int))/\k < n/\ArV n vs us ws hs a k n false 0 1) \/
  (∃ (k:Nat) (w:Int × Int × Rat),a=(Str.ofString "wait",(k:Int))/\ws[k]?=some w/\ArV n vs us ws hs a w.1.toNat w.2.1.toNat false w.2.2 0) \/
  ∃ (k:Nat) (h:Str × Int × Rat),a=(Str.ofString "hold",(k:Int))/\hs[k]?=some h/\((h.1="from"/\ArV n vs us ws hs a n h.2.1.toNat false h.2.2 0)\/(h.1="till"/\ArV n vs us ws hs a h.2.1.toNat n true (0 - h.2.2) 0)\/(h.1="by"/\ArV n vs us ws hs a h.2.1.toNat n false (0 - h.2.2) 0)):=by
 obtain ⟨c,m⟩:=a;obtain ⟨m0,ok⟩:=ok;obtain ⟨m,rfl⟩:=Int.eq_ofNat_of_zero_le (show 0<=m from m0);rcases ok with ⟨e,h⟩ | ⟨e,h⟩ | ⟨e,h⟩ | ⟨e,h⟩
 ·have e:c=Str.ofString "start":=e;subst e;refine .inl ⟨m,rfl,by have:(m:Int) < (n:Int):=h; omega,?_,?_,?_,?_,?_⟩
  ·exact if_pos rfl
  ·exact if_pos rfl
  ·unfold arL; rw [show decide ((Str.ofString "start",(m:Int)).1="hold")=false from decide_eq_false w_sh]; rfl
  ·exact (if_neg w_sw).trans (if_neg w_sh)
  ·exact if_neg w_se
 ·have e:c=Str.ofString "end":=e;subst e;refine .inr (.inl ⟨m,rfl,by have:(m:Int) < (n:Int):=h; omega,?_,?_,?_,?_,?_⟩)
  ·exact (if_neg w_es).trans (if_pos rfl)
  ·exact (if_neg w_es).trans (if_pos rfl)
  ·unfold arL; rw [show decide ((Str.ofString "end",(m:Int)).1="hold")=false from decide_eq_false w_eh]; rfl
  ·exact (if_neg w_ew).trans (if_neg w_eh)
  ·exact if_pos rfl
 ·have e:c=Str.ofString "wait":=e;subst e;have hm:m < ws.length:=by rw [<- ev,List.length_map] at h; have:(m:Int) < (ws.length:Int):=h; omega
  obtain ⟨w,ew⟩:∃ w,ws[m]?=some w:=⟨_,List.getElem?_eq_getElem hm⟩;have e1:(vs[m]?).getD (0,0)=(w.1,w.2.1):=by rw [<- ev,List.getElem?_map,ew]; rfl
  refine .inr (.inr (.inl ⟨m,w,rfl,ew,?_,?_,?_,?_,?_⟩))
  ·refine (if_neg w_ws).trans ((if_neg w_we).trans ((if_pos rfl).trans ?_));show ((vs[m]?).getD (0,0)).1.toNat=_;rw [e1]
  ·refine (if_neg w_ws).trans ((if_neg w_we).trans ((if_pos rfl).trans ?_));show ((vs[m]?).getD (0,0)).2.toNat=_;rw [e1]
  ·unfold arL; rw [show decide ((Str.ofString "wait",(m:Int)).1="hold")=false from decide_eq_false w_wh]; rfl
  ·refine (if_pos rfl).trans ?_;show ((ws[m]?).getD (0,0,0)).2.2=_;rw [ew]; rfl
  ·exact if_neg w_we
 ·have e:c=Str.ofString "hold":=e;subst e;have hm:m < hs.length:=by rw [<- eu,List.length_map] at h; have:(m:Int) < (hs.length:Int):=h; omega
  obtain ⟨z,ez⟩:∃ w,hs[m]?=some w:=⟨_,List.getElem?_eq_getElem hm⟩;have e1:(us[m]?).getD ("",0)=(z.1,z.2.1):=by rw [<- eu,List.getElem?_map,ez]; rfl
  have e2:(hs[m]?).getD ("",0,0)=z:=by rw [ez]; rfl
  have kz:z.1="from"\/z.1="till"\/z.1="by":=hk z (List.mem_of_getElem? ez);have tT:arT n vs us (Str.ofString "hold",(m:Int))=if z.1="from" then n else z.2.1.toNat:=by
   refine (if_neg w_hs).trans ((if_neg w_he).trans ((if_neg w_hw).trans ?_));show (if ((us[m]?).getD ("",0)).1="from" then n else ((us[m]?).getD ("",0)).2.toNat)=_;rw [e1]
  have tH:arH n vs us (Str.ofString "hold",(m:Int))=if z.1="from" then z.2.1.toNat else n:=by
   refine (if_neg w_hs).trans ((if_neg w_he).trans ((if_neg w_hw).trans ?_));show (if ((us[m]?).getD ("",0)).1="from" then ((us[m]?).getD ("",0)).2.toNat else n)=_;rw [e1]
  have tL:arL us (Str.ofString "hold",(m:Int))=decide (z.1="till"):=by
   unfold arL;rw [show decide ((Str.ofString "hold",(m:Int)).1="hold")=true from decide_eq_true rfl,Bool.true_and];show decide (((us[m]?).getD ("",0)).1="till")=_;rw [e1]
  have tW:wtA ws hs (Str.ofString "hold",(m:Int))=if z.1="from" then z.2.2 else 0 - z.2.2:=by
   refine (if_neg w_hw).trans ((if_pos rfl).trans ?_);show (if ((hs[m]?).getD ("",0,0)).1="from" then ((hs[m]?).getD ("",0,0)).2.2 else 0 - ((hs[m]?).getD ("",0,0)).2.2)=_;rw [e2]
  have tR:rtA (Str.ofString "hold",(m:Int))=0:=if_neg w_he;refine .inr (.inr (.inr ⟨m,z,rfl,ez,?_⟩));rcases kz with kz | kz | kz
  ·exact .inl ⟨kz,tT.trans (if_pos kz),tH.trans (if_pos kz),tL.trans (decide_eq_false (by rw [kz]; exact w_ft)),tW.trans (if_pos kz),tR⟩
  ·exact .inr (.inl ⟨kz,tT.trans (if_neg (by rw [kz]; exact w_tf)),tH.trans (if_neg (by rw [kz]; exact w_tf)),tL.trans (decide_eq_true kz),tW.trans (if_neg (by rw [kz]; exact w_tf)),tR⟩)
  ·exact .inr (.inr ⟨kz,tT.trans (if_neg (by rw [kz]; exact w_bf)),tH.trans (if_neg (by rw [kz]; exact w_bf)),tL.trans (decide_eq_false (by rw [kz]; exact w_bt)),tW.trans (if_neg (by rw [kz]; exact w_bf)),tR⟩)
def tmA (n:Nat) (vs:List (Int × Int)) (us:List (Str × Int)) (t:Nat->Rat) (a:Str × Int):Rat:=if arL us a=true then 0 else if arT n vs us a < n then t (arT n vs us a) else 0
theorem C2t {n:Nat} {vs:List (Int × Int)} {us:List (Str × Int)} {ws:LW} {hs:LH} {ps:LR} {W:Rat} {a:Str × Int} (ok:ArOk n vs.length us.length a) (ev:ws.map (fun w=>(w.1,w.2.1))=vs) (eu:hs.map (fun h=>(h.1,h.2.1))=us) (hk:∀ h ∈ hs,Hk h.1)
  (pl:ps.length=n) (K:Kps ws hs ps (some W)) (wk:∀ w ∈ ws,(0<=w.1/\w.1 < (n:Int))/\(0<=w.2.1/\w.2.1 < (n:Int))) (hk2:∀ h ∈ hs,0<=h.2.1/\h.2.1 < (n:Int)) :
  0<=pvS ps (arH n vs us a) - pvS ps (arT n vs us a) - tmA n vs us (fun v=>(sat ps (v:Int)).2) a + rtA a * W - wtA ws hs a:=by
 have pn:pvS ps n=0:=by rw [<- pl]; exact B3m
 have pv:∀ {o:Nat},o < n->pvS ps o=(sat ps (o:Int)).1:=fun h=>by rw [C2z (Z1 (by omega))]
 have mem:∀ {o:Nat},o < n->sat ps (o:Int) ∈ ps:=fun h=>List.mem_of_getElem? (Z1 (by omega));unfold tmA;rcases Q8 ok ev eu hk with ⟨k,rfl,hk',V⟩ | ⟨k,rfl,hk',V⟩ | ⟨k,w,rfl,ew,V⟩ | ⟨k,h,rfl,eh,V⟩
 ·rw [V.t,V.h,V.l,V.wt,V.rt,if_neg (by decide),if_neg (Nat.lt_irrefl n),pn,pv hk'];have:=K.s _ (mem hk');grind
 ·rw [V.t,V.h,V.l,V.wt,V.rt,if_neg (by decide),if_pos hk',pn,pv hk'];have:=K.e W rfl _ (mem hk');unfold enD at this;grind
 ·obtain ⟨⟨a0,a1⟩,b0,b1⟩:=wk w (List.mem_of_getElem? ew);have:=K.w w (List.mem_of_getElem? ew);have ta:w.1.toNat < n:=by omega
  have tb:w.2.1.toNat < n:=by omega
  rw [V.t,V.h,V.l,V.wt,V.rt,if_neg (by decide),if_pos ta,pv ta,pv tb,show ((w.1.toNat:Nat):Int)=w.1 by omega,show ((w.2.1.toNat:Nat):Int)=w.2.1 by omega];unfold wSl enD at this;grind
 ·obtain ⟨o0,o1⟩:=hk2 h (List.mem_of_getElem? eh);have:=K.h h (List.mem_of_getElem? eh);have to:h.2.1.toNat < n:=by omega
  have eo:((h.2.1.toNat:Nat):Int)=h.2.1:=by omega
  unfold hSl at this;rcases V with ⟨kz,V⟩ | ⟨kz,V⟩ | ⟨kz,V⟩
  ·rw [if_pos kz] at this;rw [V.t,V.h,V.l,V.wt,V.rt,if_neg (by decide),if_neg (Nat.lt_irrefl n),pn,pv to,eo];grind
  ·rw [if_neg (by rw [kz]; exact w_tf),if_pos kz] at this;rw [V.t,V.h,V.l,V.wt,V.rt,if_pos rfl,pn,pv to,eo];grind
  ·rw [if_neg (by rw [kz]; exact w_bf),if_neg (by rw [kz]; exact w_bt)] at this;rw [V.t,V.h,V.l,V.wt,V.rt,if_neg (by decide),if_pos to,pn,pv to,eo];unfold enD at this;grind
theorem T5 {ds:List (PyData × PyData)} {c:Str} {z:PyData} (h:(PyData.str c,z) ∈ ds):hasD ds c=true:=List.any_eq_true.mpr ⟨(PyData.str c,z),h,decide_eq_true rfl⟩
theorem U0 {F G:Nat->Rat} {n j:Nat} {c:Rat} (h:∀ v,v < n->G v=F v + (if v=j then c else 0)):((List.range n).map F).set j (F j + c)=(List.range n).map G:=by
 apply List.ext_getElem?;intro v;rw [List.getElem?_set,List.length_map,List.length_range];by_cases hv:v < n
 ·rw [List.getElem?_map,List.getElem?_map,List.getElem?_range hv];show _=some (G v);rw [h v hv];by_cases e:j=v
  ·subst e; rw [if_pos rfl,if_pos hv,if_pos rfl]
  ·rw [if_neg e,if_neg (fun z=>e z.symm)]; show some (F v)=some (F v + 0); rw [Rat.add_zero]
 ·rw [List.getElem?_eq_none (by simp; omega),List.getElem?_eq_none (by simp; omega)];split
  ·rw [if_neg (by omega)]
  ·rfl
theorem U1 {F G:Nat->Rat} {n:Nat} (h:∀ v,v < n->G v=F v):(List.range n).map F=(List.range n).map G:=List.map_congr_left fun v hv=>(h v (List.mem_range.mp hv)).symm
theorem A5d {F:Nat->Rat} {n j:Nat} (h:j < n):((List.range n).map F)[j]?=some (F j):=by rw [List.getElem?_map,List.getElem?_range h]; rfl
theorem C16 (a v:Nat):dl a v=0\/dl a v=1:=by
 unfold dl;split
 ·exact .inr rfl
 ·exact .inl rfl
theorem B2u {n:Nat} {vs:List (Int × Int)} {us:List (Str × Int)} (a:Str × Int) (v:Nat):(∃ z:Int,inA n vs us a v=(z:Rat)/\z.natAbs<=1)/\∃ z:Int,ofA n vs us a v=(z:Rat)/\z.natAbs<=1:=by
 unfold inA ofA;have p:=C16 (arH n vs us a) v;have q:=C16 (arT n vs us a) v;constructor
 ·split
  ·rcases p with p | p <;> rcases q with q | q <;> rw [p,q]
   ·exact ⟨0,by grind,by decide⟩
   ·exact ⟨-1,by grind,by decide⟩
   ·exact ⟨1,by grind,by decide⟩
   ·exact ⟨0,by grind,by decide⟩
  ·rcases p with p | p <;> rw [p]
   ·exact ⟨0,by grind,by decide⟩
   ·exact ⟨1,by grind,by decide⟩
 ·split
  ·exact ⟨0,rfl,by decide⟩
  ·rcases q with q | q <;> rw [q]
   ·exact ⟨0,rfl,by decide⟩
   ·exact ⟨1,rfl,by decide⟩
theorem A6p {f:Str × Int->Rat} {b:Nat}:∀ {pa:List ((Str × Int) × Rat)},(∀ p ∈ pa,On LL (2 ^ b) p.2)->(∀ a,∃ z:Int,f a=(z:Rat)/\z.natAbs<=1)->On LL (pa.length * 2 ^ b) (sA pa f)
 | [],_,_=>On.zero.mono (Nat.zero_le _)
 | p :: r,h,hf=>by
  rw [G8,List.length_cons];obtain ⟨z,ez,hz⟩:=hf p.1;have h1:=On.mul (h p List.mem_cons_self) (A8d (B:=1) (k:=1) (n:=z) (by decide) (by omega));rw [<- ez,Nat.mul_one,Nat.mul_one] at h1;exact (On.add E5 h1 (A6p (fun q hq=>h q (List.mem_cons_of_mem _ hq)) hf)).mono (by rw [Nat.add_mul,Nat.one_mul,Nat.add_comm]; exact Nat.le_refl _)
theorem A2b {f:Str × Int->Rat} {pa:List ((Str × Int) × Rat)} {i:Nat} {p:(Str × Int) × Rat} (h:pa[i]?=some p):sA (pa.take (i + 1)) f=sA (pa.take i) f + p.2 * f p.1:=by
 rw [List.take_add_one,h,A0s];show _ + (p.2 * f p.1 + 0)=_;rw [Rat.add_zero]
structure NP (n:Nat) (ws:LW) (hs:LH):Prop where
 n1:n<=10
 wl:ws.length<=40
 hl:hs.length<=40
 w:∀ w ∈ ws,(0<=w.1/\w.1 < (n:Int))/\(0<=w.2.1/\w.2.1 < (n:Int))/\O4 w.2.2
 h:∀ h ∈ hs,Hk h.1/\(0<=h.2.1/\h.2.1 < (n:Int))/\O4 h.2.2
abbrev vsO (ws:LW):List (Int × Int):=ws.map fun w=>(w.1,w.2.1)
abbrev usO (hs:LH):List (Str × Int):=hs.map fun h=>(h.1,h.2.1)
theorem A4y {q:Rat} {a v:Nat}:q * dl a v=if v=a then q else 0:=by
 unfold dl;split <;> grind
theorem A1p {n v:Nat} (h:v < n):dl n v=0:=if_neg (by omega)
theorem dl_m {q:Rat} {a v:Nat} {x:Rat} (e:x=dl a v - 0):q * x=if v=a then q else 0:=by rw [e,show dl a v - 0=dl a v by grind,A4y]
theorem S_on {B k:Nat} (hB:0 < B):∀ {qs:LQ},(∀ q ∈ qs,On B k q)->On B (qs.length * k) (My.S qs)
 | [],_=>On.zero.mono (Nat.zero_le _)
 | q :: r,h=>by
  show On B _ (q + My.S r);rw [List.length_cons];exact (On.add hB (h q List.mem_cons_self) (S_on hB fun x hx=>h x (List.mem_cons_of_mem _ hx))).mono (by rw [Nat.add_mul,Nat.one_mul,Nat.add_comm]; exact Nat.le_refl _)
def W4 (pa:List ((Str × Int) × Rat)):LQ:=(pa.filter fun p:(Str × Int) × Rat=>decide (p.1.1="end")).map (·.2)
theorem B5r:∀ {pa:List ((Str × Int) × Rat)},My.S (W4 pa)=sA pa rtA
 | []=>rfl
 | p :: r=>by
  rw [G8,<- B5r (pa:=r)];unfold W4 rtA;rw [List.filter_cons];by_cases h:p.1.1="end"
  ·rw [if_pos (decide_eq_true h),if_pos h];show p.2 + _=p.2 * 1 + _;grind
  ·rw [if_neg (by rw [decide_eq_false h]; decide),if_neg h];grind
theorem A1o {pa:List ((Str × Int) × Rat)} {i:Nat} {p:(Str × Int) × Rat} (h:pa[i]?=some p):W4 (pa.take (i + 1))=W4 (pa.take i)++(if p.1.1="end" then [p.2] else []):=by
 unfold W4;rw [List.take_add_one,h,List.filter_append,List.map_append];congr 1
 show List.map _ (List.filter _ [p])=_;rw [List.filter_cons];by_cases z:p.1.1="end"
 ·rw [if_pos (decide_eq_true z),if_pos z]; rfl
 ·rw [if_neg (by rw [decide_eq_false z]; decide),if_neg z]; rfl
theorem ArOk.wl {n v u:Nat} {a:Str × Int} (h:ArOk n v u a):(PyData.str a.1).canLay0=true:=by
 rcases h.2 with ⟨e,_⟩ | ⟨e,_⟩ | ⟨e,_⟩ | ⟨e,_⟩ <;> (rw [e]; decide +kernel)
abbrev B5:Nat:=LL * LL * 4
def lsV (xs:List Wk) (F:Nat->Rat) (v:Nat):Rat:=let cs:=((xs[v]?).getD ("","",[])).2.2; lm (cs.map (val (F v))) (val (F v) ((cs[0]?).getD (0,0)))
def quV (xs:List Wk) (v:Nat):Rat:=((((xs[v]?).getD ("","",[])).2.2.getLast?).getD (0,0)).1
theorem A44 {α β:Type} {f:α->PyData} {g:β->PyData} {xs:List α} {zs:List β} {pg:PyData->PEnv->(PEnv->Prop)->Prop} {pt:PTt} {pd:PDt} {e0:PEnv} {Fin:LP->Prop} (Pv:Nat->PEnv->LP->Prop) (h0:Pv 0 e0 [])
  (hs:∀ (i:Nat) a b e ys,xs[i]?=some a->zs[i]?=some b->Pv i e ys->pg (.tuple [f a,g b]) e fun e2=>pt e2 fun t e3=>if t=true then pd e3 fun x e4=>Pv (i + 1) e4 (ys++[x]) else Pv (i + 1) e3 ys) (hd:∀ e ys,Pv (min xs.length zs.length) e ys->Fin ys):M8 (zipD (xs.map f) (zs.map g)) pg pt pd e0 Fin:=by
 refine ⟨Pv,h0,fun i x e ys hx hi=>?_,fun e ys h=>hd e ys (by rwa [S7,List.length_map,List.length_map] at h)⟩;obtain ⟨a,b,ha,hb,rfl⟩:=B1l hx;rw [List.getElem?_map] at ha hb;obtain ⟨a',ha',rfl⟩:=Option.map_eq_some_iff.mp ha;obtain ⟨b',hb',rfl⟩:=Option.map_eq_some_iff.mp hb;exact hs i a' b' e ys ha' hb' hi
theorem C2r {n:Nat} {ws:LW} {hs:LH} {a:Str × Int} (np:NP n ws hs) (h:ArOk n (vsO ws).length (usO hs).length a):O4 (wtA ws hs a):=by
 have z0:O4 0:=On.zero.mono (Nat.zero_le _);have neg:∀ {x:Rat},O4 x->O4 (0 - x):=fun {x} h=>by
  have:=(On.zero.mono (Nat.zero_le 0)).sub (B:=LL * 4) (by decide) h;exact this.mono (by rw [Nat.zero_add]; exact Nat.le_refl _)
 rcases Q8 (ws:=ws) (hs:=hs) h rfl rfl (fun h hh=>(np.h h hh).1) with ⟨m,ea,hm,V⟩ | ⟨m,ea,hm,V⟩ | ⟨m,w,ea,ew,V⟩ | ⟨m,h,ea,eh,V⟩
 ·rw [V.wt]; exact z0
 ·rw [V.wt]; exact z0
 ·rw [V.wt]; exact (np.w w (List.mem_of_getElem? ew)).2.2
 ·have oh:=(np.h h (List.mem_of_getElem? eh)).2.2;rcases V with ⟨_,V⟩ | ⟨_,V⟩ | ⟨_,V⟩
  ·rw [V.wt]; exact oh
  ·rw [V.wt]; exact neg oh
  ·rw [V.wt]; exact neg oh
theorem B8r {n:Nat} {ws:LW} {hs:LH} (np:NP n ws hs):∀ {pa:List ((Str × Int) × Rat)},(∀ p ∈ pa,ArOk n (vsO ws).length (usO hs).length p.1/\On LL (2 ^ 51) p.2)->On B5 (pa.length * 2 ^ 109) (sA pa (wtA ws hs))
 | [],_=>On.zero.mono (Nat.zero_le _)
 | p :: r,h=>by
  rw [G8,List.length_cons];obtain ⟨h1,h2⟩:=h p List.mem_cons_self;have h3:On B5 (2 ^ 109) (p.2 * wtA ws hs p.1):=by
   have:=On.mul h2 (C2r np h1);rw [<- Nat.mul_assoc] at this;exact this.mono (by decide)
  exact (On.add (by decide) h3 (B8r np fun q hq=>h q (List.mem_cons_of_mem _ hq))).mono (by rw [Nat.add_mul,Nat.one_mul,Nat.add_comm]; exact Nat.le_refl _)
theorem C1a {xs:List Wk} {F:Nat->Rat} {v:Nat} (hv:v < xs.length) (of:∀ x ∈ xs,1<=x.2.2.length/\x.2.2.length<=100/\OnC x.2.2) (oF:On LL (2 ^ 57) (F v)):On B5 (2 ^ 103) (lsV xs F v)/\On B5 (2 ^ 103) (F v * quV xs v):=by
 obtain ⟨x,hx⟩:∃ x,xs[v]?=some x:=⟨_,List.getElem?_eq_getElem hv⟩;obtain ⟨l1,_,oc⟩:=of x (List.mem_of_getElem? hx);have vo:∀ c ∈ x.2.2,On B5 (2 ^ 103) (val (F v) c)/\On B5 (2 ^ 103) (F v * c.1):=fun c hc=>by
  obtain ⟨o1,o2⟩:=oc c hc;have om:=On.mul oF o1;exact ⟨((o2.add (Nat.mul_pos E5 E5) om).up (C:=4) (by decide)).mono (by decide),(om.up (C:=4) (by decide)).mono (by decide)⟩
 obtain ⟨c0,e0⟩:∃ c,x.2.2[0]?=some c:=⟨_,List.getElem?_eq_getElem (by omega)⟩;obtain ⟨c,ec⟩:∃ c,x.2.2.getLast?=some c:=⟨_,List.getLast?_eq_some_getLast (by intro z; rw [z] at l1; simp at l1)⟩;constructor
 ·unfold lsV;rw [hx];show On B5 _ (lm (x.2.2.map (val (F v))) (val (F v) ((x.2.2[0]?).getD (0,0))));rw [e0];rcases A9h (x.2.2.map (val (F v))) (val (F v) c0) with z | z
  ·show On B5 _ (lm _ (val (F v) c0));rw [z]; exact (vo c0 (List.mem_of_getElem? e0)).1
  ·obtain ⟨c,hc,e⟩:=List.mem_map.mp z;show On B5 _ (lm _ (val (F v) c0));rw [<- e]; exact (vo c hc).1
 ·unfold quV;rw [hx];show On B5 _ (F v * ((x.2.2.getLast?).getD (0,0)).1);rw [ec];exact (vo c (List.mem_of_getLast? ec)).2
def Ndz (n:Nat) (vs:List (Int × Int)) (us:List (Str × Int)) (seen:List Int) (arcs:List (Str × Int)) (wk:Int):Prop:=(∀ (i:Nat) a,arcs[i]?=some a->∃ x y,seen[i]?=some x/\seen[i + 1]?=some y/\arT n vs us a=x.toNat/\arH n vs us a=y.toNat)/\seen[seen.length - 1]?=some wk
section
variable {n:Nat} {vs:List (Int × Int)} {us:List (Str × Int)}
theorem ar_w {u:Nat} {v:Int × Int} (ev:vs[u]?=some v):arT n vs us (Str.ofString "wait",(u:Int))=v.1.toNat/\arH n vs us (Str.ofString "wait",(u:Int))=v.2.toNat:=by
 constructor
 ·refine (if_neg w_ws).trans ((if_neg w_we).trans ((if_pos rfl).trans ?_));show ((vs[u]?).getD (0,0)).1.toNat=_;rw [ev]; rfl
 ·refine (if_neg w_ws).trans ((if_neg w_we).trans ((if_pos rfl).trans ?_));show ((vs[u]?).getD (0,0)).2.toNat=_;rw [ev]; rfl
theorem ar_h {u:Nat} {z:Str × Int} (ez:us[u]?=some z):arT n vs us (Str.ofString "hold",(u:Int))=(if z.1="from" then n else z.2.toNat)/\arH n vs us (Str.ofString "hold",(u:Int))=if z.1="from" then z.2.toNat else n:=by
 constructor
 ·refine (if_neg w_hs).trans ((if_neg w_he).trans ((if_neg w_hw).trans ?_));show (if ((us[u]?).getD ("",0)).1="from" then n else ((us[u]?).getD ("",0)).2.toNat)=_;rw [ez]; rfl
 ·refine (if_neg w_hs).trans ((if_neg w_he).trans ((if_neg w_hw).trans ?_));show (if ((us[u]?).getD ("",0)).1="from" then ((us[u]?).getD ("",0)).2.toNat else n)=_;rw [ez]; rfl
theorem ar_s {s:Int}:arT n vs us (Str.ofString "start",s)=n/\arH n vs us (Str.ofString "start",s)=s.toNat:=⟨if_pos rfl,if_pos rfl⟩
theorem ar_e {s:Int}:arT n vs us (Str.ofString "end",s)=s.toNat/\arH n vs us (Str.ofString "end",s)=n:=⟨(if_neg w_es).trans (if_pos rfl),(if_neg w_es).trans (if_pos rfl)⟩
theorem Ndz.snoc {seen:List Int} {arcs:List (Str × Int)} {wk y:Int} {w:Str × Int} (h:Ndz n vs us seen arcs wk) (la:arcs.length + 1=seen.length) (e:arT n vs us w=wk.toNat/\arH n vs us w=y.toNat):Ndz n vs us (seen++[y]) (arcs++[w]) y:=by
 refine ⟨fun i a ha=>?_,by rw [List.length_append]; simp⟩;rcases Nat.lt_or_ge i arcs.length with z | z
 ·rw [List.getElem?_append_left z] at ha;obtain ⟨x,x',h1,h2,h3⟩:=h.1 i a ha;exact ⟨x,x',by rw [List.getElem?_append_left (by omega)]; exact h1,by rw [List.getElem?_append_left (by omega)]; exact h2,h3⟩
 ·rw [List.getElem?_append_right z] at ha;have hi:i=arcs.length:=by
   rcases Nat.lt_or_ge (i - arcs.length) 1 with q | q
   ·omega
   ·rw [List.getElem?_eq_none (by simpa using q)] at ha; cases ha
  subst hi;rw [Nat.sub_self] at ha;cases ha;refine ⟨wk,y,?_,?_,e⟩
  ·rw [List.getElem?_append_left (by omega),show arcs.length=seen.length - 1 by omega]; exact h.2
  ·rw [List.getElem?_append_right (by omega),show arcs.length + 1 - seen.length=0 by omega]; rfl
theorem Ndz.ring {seen:List Int} {arcs:List (Str × Int)} {wk x:Int} {w:Str × Int} {p:Nat} (h:Ndz n vs us seen arcs wk) (la:arcs.length + 1=seen.length) (e:arT n vs us w=wk.toNat/\arH n vs us w=x.toNat) (ep:seen[p]?=some x) (v:Nat):My.S (((arcs++[w]).drop p).map fun a=>dfA n vs us a v)=0:=by
 have hp:=(List.getElem?_eq_some_iff.mp ep).1;have s2:=h.snoc la e;have t:=tel (T:=arT n vs us) (H:=arH n vs us) (v:=v) (l:=(arcs++[w]).drop p) (nd:=fun i=>(((seen++[x])[p + i]?).getD 0).toNat) fun i a ha=>by
  rw [List.getElem?_drop] at ha;obtain ⟨y,y',h1,h2,h3,h4⟩:=s2.1 (p + i) a ha;exact ⟨by rw [h3,h1]; rfl,by rw [h4,<- Nat.add_assoc,h2]; rfl⟩
 refine Eq.trans t ?_;have e1:(seen++[x])[p + ((arcs++[w]).drop p).length]?=some x:=by
  rw [List.length_drop,List.length_append,List.length_singleton,show p + (arcs.length + 1 - p)=seen.length by omega,List.getElem?_append_right (Nat.le_refl _),Nat.sub_self]; rfl
 have e2:(seen++[x])[p + 0]?=some x:=by rw [Nat.add_zero,List.getElem?_append_left hp]; exact ep
 show dl (((seen++[x])[p + ((arcs++[w]).drop p).length]?).getD 0).toNat v - dl (((seen++[x])[p + 0]?).getD 0).toNat v=0;rw [e1,e2]; grind
theorem Ndz.way {seen:List Int} {arcs:List (Str × Int)} {wk s0:Int} {y z:Str × Int} (h:Ndz n vs us seen arcs wk) (la:arcs.length + 1=seen.length) (es:seen[0]?=some s0) (hy:arT n vs us y=n/\arH n vs us y=s0.toNat) (hz:arT n vs us z=wk.toNat/\arH n vs us z=n) (v:Nat):My.S (([y]++arcs++[z]).map fun a=>dfA n vs us a v)=0:=by
 have t:=tel (T:=arT n vs us) (H:=arH n vs us) (v:=v) (l:=arcs) (nd:=fun i=>((seen[i]?).getD 0).toNat) fun i a ha=>by
  obtain ⟨x,x',h1,h2,h3,h4⟩:=h.1 i a ha;exact ⟨by rw [h3,h1]; rfl,by rw [h4,h2]; rfl⟩
 rw [List.map_append,List.map_append,My.B1j,My.B1j];have t':My.S (arcs.map fun a=>dfA n vs us a v)=dl wk.toNat v - dl s0.toNat v:=by
  refine Eq.trans t ?_;show dl ((seen[arcs.length]?).getD 0).toNat v - dl ((seen[0]?).getD 0).toNat v=_;rw [es,show arcs.length=seen.length - 1 by omega,h.2]; rfl
 rw [t'];show dfA n vs us y v + 0 + _ + (dfA n vs us z v + 0)=0;unfold dfA;rw [hy.1,hy.2,hz.1,hz.2];grind
theorem B1x {u z:Str × Int} (h:(qD u).eqv (qD z)=true):u=z:=by
 have h:((PyData.str u.1).eqv (.str z.1) && ((PyData.int u.2).eqv (.int z.2) && true))=true:=h;rw [L5,S1,Bool.and_eq_true,Bool.and_eq_true] at h;exact Prod.ext (of_decide_eq_true h.1) (of_decide_eq_true h.2.1)
end
theorem A5z {f:Str × Int->Rat} {w:Str × Int} {b q:Rat}:∀ {ar:List (Str × Int)} {am:LQ} {p:Nat},ar[p]?=some w->am[p]?=some b->sA (ar.zip (am.set p (b + q))) f=sA (ar.zip am) f + q * f w
 | a :: ar,c :: am,0,h1,h2=>by
  cases h1; cases h2;show (b + q) * f w + sA (ar.zip am) f=b * f w + sA (ar.zip am) f + q * f w;grind
 | a :: ar,c :: am,p + 1,h1,h2=>by
  have:=A5z (f:=f) (q:=q) (ar:=ar) (am:=am) (p:=p) h1 h2;show c * f a + sA (ar.zip (am.set p (b + q))) f=c * f a + sA (ar.zip am) f + q * f w;rw [this]; grind
 | [],_,_,h1,_=>by simp at h1
 | _ :: _,[],_,_,h2=>by simp at h2
theorem A28 {f:Str × Int->Rat} {w:Str × Int} {q:Rat} {ar:List (Str × Int)} {am:LQ} (h:ar.length=am.length):sA ((ar++[w]).zip (am++[q])) f=sA (ar.zip am) f + q * f w:=by
 rw [List.zip_append h,A0s];show _ + (q * f w + 0)=_;rw [Rat.add_zero]
theorem B1i {f:Str × Int->Rat} {wa:List (Str × Int)} {j:Nat} {w:Str × Int} (h:wa[j]?=some w):My.S ((wa.take (j + 1)).map f)=My.S ((wa.take j).map f) + f w:=by
 rw [List.take_add_one,h,List.map_append,My.B1j];show _ + (f w + 0)=_;rw [Rat.add_zero]
theorem C1b {cs:LR} {c d e:Rat × Rat} {r t p:Rat} (hc:c ∈ cs) (hd:d ∈ cs) (h1:c.1 < t) (h2:t < d.1) (ep:p=d.2 + (c.2 - d.2) * ((d.1 - t) / (d.1 - c.1))):lm (cs.map (val r)) (val r e)<=p + r * t:=by
 have l1:=(B2q (cs.map (val r)) (val r e)).2 _ (List.mem_map.mpr ⟨c,hc,rfl⟩);have l2:=(B2q (cs.map (val r)) (val r e)).2 _ (List.mem_map.mpr ⟨d,hd,rfl⟩);generalize lm (cs.map (val r)) (val r e)=m at l1 l2 ⊢;unfold val at l1 l2;have g:(0:Rat) < d.1 - c.1:=by grind
 obtain ⟨x,hx⟩:∃ x,x=(d.1 - t) / (d.1 - c.1):=⟨_,rfl⟩;have e1:x * (d.1 - c.1)=d.1 - t:=by rw [hx]; exact Rat.div_mul_cancel (by grind)
 have x0:0<=x:=by
  rw [hx,Rat.div_def];exact Rat.mul_nonneg (by grind) (Rat.le_of_lt (Rat.inv_pos.mpr g))
 have x1:x<=1:=by
  apply Classical.byContradiction;intro z;have z:1 < x:=Rat.not_le.mp z;have:=Rat.mul_lt_mul_of_pos_right z g;grind
 rw [<- hx] at ep;have m1:=Rat.mul_le_mul_of_nonneg_left l1 x0;have m2:=Rat.mul_le_mul_of_nonneg_left l2 (show 0<=1 - x by grind);have e2:r * (x * (d.1 - c.1))=r * (d.1 - t):=by rw [e1]
 grind
theorem hdI {pt:PTt} {a b c:PSt} {D:PEnds} {e:PEnv} (h:∀ S,S=b->pIf pt (pSeq a S) c D e):pIf pt (pSeq a b) c D e:=h b rfl
theorem onR {B k a b:Nat} {q:Rat} (h:On B k q) (hB:0 < B) (g:k * B < 2 ^ a) (g2:B < 2 ^ b):SmR a b q:=by
 obtain ⟨z,rfl,bb⟩:=h;exact SmR.low (n:=a) (d:=b) (t:=z) (b:=(B:Int)) (Nat.lt_of_le_of_lt bb g) (by unfold Sm; rw [Int.natAbs_natCast]; exact g2) (by omega)
theorem C3j {n:Nat} {ws:LW} {hs:LH} {a:Str × Int} (np:NP n ws hs) (h:ArOk n (vsO ws).length (usO hs).length a):arT n (vsO ws) (usO hs) a<=n/\arH n (vsO ws) (usO hs) a<=n:=by
 rcases Q8 (ws:=ws) (hs:=hs) h rfl rfl (fun h hh=>(np.h h hh).1) with ⟨m,ea,hm,V⟩ | ⟨m,ea,hm,V⟩ | ⟨m,w,ea,ew,V⟩ | ⟨m,h,ea,eh,V⟩
 ·rw [V.t,V.h]; omega
 ·rw [V.t,V.h]; omega
 ·have:=np.w w (List.mem_of_getElem? ew);rw [V.t,V.h]; omega
 ·have:=(np.h h (List.mem_of_getElem? eh)).2.1;rcases V with ⟨_,V⟩ | ⟨_,V⟩ | ⟨_,V⟩ <;> (rw [V.t,V.h]; omega)
theorem B3l {ps:LR} {n a:Nat} (pl:ps.length=n) (h:a<=n):pvS ps a=sumV (fun v=>dl a v * pvS ps v) n:=by
 rw [A19 (t:=pvS ps)];split
 ·rfl
 ·rw [show a=n by omega,<- pl]; exact B3m
theorem T8 {f:Nat->Rat}:∀ {n:Nat},(∀ v,v < n->f v=0)->sumV f n=0
 | 0,_=>rfl
 | n + 1,h=>by rw [E8,T8 fun v hv=>h v (by omega),h n (by omega)]; grind
theorem dual {n:Nat} {ws:LW} {hs:LH} {pa:List ((Str × Int) × Rat)} {ps:LR} {W:Rat} (np:NP n ws hs) (pb:PB n (vsO ws) (usO hs) pa) (pl:ps.length=n) (K:Kps ws hs ps (some W)) :
  sA pa (wtA ws hs) + sumV (fun v=>FI n (vsO ws) (usO hs) pa v * (sat ps (v:Int)).2) n<=sA pa rtA * W:=by
 have nn:=B1r (pa:=pa) (f:=fun a=>pvS ps (arH n (vsO ws) (usO hs) a) - pvS ps (arT n (vsO ws) (usO hs) a) - tmA n (vsO ws) (usO hs) (fun v=>(sat ps (v:Int)).2) a + rtA a * W - wtA ws hs a) fun p hp=>⟨Rat.le_of_lt (pb.ar p hp).2.2,C2t (pb.ar p hp).1 rfl rfl (fun h hh=>(np.h h hh).1) pl K (fun w hw=>⟨(np.w w hw).1,(np.w w hw).2.1⟩) fun h hh=>(np.h h hh).2.1⟩;have e1:sA pa (fun a=>pvS ps (arH n (vsO ws) (usO hs) a) - pvS ps (arT n (vsO ws) (usO hs) a))=0:=by
  rw [S9 (g:=fun a=>sumV (fun v=>dfA n (vsO ws) (usO hs) a v * pvS ps v) n) fun p hp=>by
   obtain ⟨l1,l2⟩:=C3j np (pb.ar p hp).1;rw [B3l pl l2,B3l pl l1];have:∀ m,sumV (fun v=>dl (arH n (vsO ws) (usO hs) p.1) v * pvS ps v) m - sumV (fun v=>dl (arT n (vsO ws) (usO hs) p.1) v * pvS ps v) m=sumV (fun v=>dfA n (vsO ws) (usO hs) p.1 v * pvS ps v) m:=fun m=>by
    induction m with
    | zero=>show (0:Rat) - 0=0; grind
    | succ k ih=>rw [E8,E8,E8,<- ih]; unfold dfA; grind
   exact this n,<- A2c]
  exact T8 fun v hv=>by rw [pb.bal v hv]; grind
 have e2:sA pa (tmA n (vsO ws) (usO hs) fun v=>(sat ps (v:Int)).2)=sumV (fun v=>FI n (vsO ws) (usO hs) pa v * (sat ps (v:Int)).2) n:=by
  rw [O3 (g:=fun v=>FO n (vsO ws) (usO hs) pa v * (sat ps (v:Int)).2) fun v hv=>by rw [pb.eq hv]];unfold FO;rw [A2c];refine S9 fun p hp=>?_;unfold tmA ofA;by_cases z:arL (usO hs) p.1=true
  ·rw [if_pos z];exact (T8 fun v _=>by rw [if_pos z]; grind).symm
  ·rw [if_neg z,<- A19 (t:=fun v=>(sat ps (v:Int)).2)];exact O3 fun v _=>by rw [if_neg z]
 have e3:sA pa (fun a=>pvS ps (arH n (vsO ws) (usO hs) a) - pvS ps (arT n (vsO ws) (usO hs) a) - tmA n (vsO ws) (usO hs) (fun v=>(sat ps (v:Int)).2) a + rtA a * W - wtA ws hs a)=0 - sumV (fun v=>FI n (vsO ws) (usO hs) pa v * (sat ps (v:Int)).2) n + sA pa rtA * W - sA pa (wtA ws hs):=by
  rw [<- e2,<- e1];clear e1 e2 nn;induction pa with
  | nil=>show (0:Rat)=0 - 0 + 0 * W - 0; grind
  | cons p r ih =>
   have pb':PB n (vsO ws) (usO hs) r->True:=fun _=>True.intro;clear ih pb';have go:∀ r:List ((Str × Int) × Rat),sA r (fun a=>pvS ps (arH n (vsO ws) (usO hs) a) - pvS ps (arT n (vsO ws) (usO hs) a) - tmA n (vsO ws) (usO hs) (fun v=>(sat ps (v:Int)).2) a + rtA a * W - wtA ws hs a)=sA r (fun a=>pvS ps (arH n (vsO ws) (usO hs) a) - pvS ps (arT n (vsO ws) (usO hs) a)) - sA r (tmA n (vsO ws) (usO hs) fun v=>(sat ps (v:Int)).2) + sA r rtA * W - sA r (wtA ws hs):=fun r=>by
    induction r with
    | nil=>show (0:Rat)=0 - 0 + 0 * W - 0; grind
    | cons p r ih=>rw [G8,G8,G8,G8,G8,ih]; grind
   exact go (p :: r)
 rw [e3] at nn;grind
theorem C2w {xs:List Wk} {ps:LR} {v:Nat} {x:Wk} {p:Rat × Rat} (hx:xs[v]?=some x) (hp:ps[v]?=some p) (hk:Kd x.2.1) (og:OfG x.2.1 x.2.2 100 54 244 130) (off:Off x.2.1 x.2.2 p.2):quV xs v<=p.2:=by
 have ne:=og.ok.ne;obtain ⟨c,ec⟩:∃ c,x.2.2[x.2.2.length - 1]?=some c:=⟨_,List.getElem?_eq_getElem (by omega)⟩;have e:quV xs v=c.1:=by
  unfold quV;rw [hx];show ((x.2.2.getLast?).getD (0,0)).1=_;rw [List.getLast?_eq_getElem?,ec]; rfl
 rw [e];rcases hk with hk | hk
 ·obtain ⟨a,b,h1,h2,h3,_⟩:=off.sr hk;rw [ec] at h2; cases h2;exact Rat.not_lt.mp h3
 ·obtain ⟨a,h1,h2⟩:=off.st hk;obtain ⟨j,hj,e⟩:=List.getElem_of_mem h1;have ej:x.2.2[j]?=some a:=by rw [List.getElem?_eq_getElem hj,e]
  rcases Nat.lt_or_ge j (x.2.2.length - 1) with y | y
  ·have:=og.ok.dec.get ej ec y;rw [<- h2]; exact Rat.le_of_lt this
  ·rw [show j=x.2.2.length - 1 by omega,ec] at ej;cases ej;rw [<- h2]; exact Rat.le_refl
theorem A6i {f g:Nat->Rat}:∀ {n:Nat},(∀ v,v < n->f v<=g v)->sumV f n<=sumV g n
 | 0,_=>Rat.le_refl
 | n + 1,h=>by
  rw [E8,E8];have h1:=A6i (n:=n) (f:=f) (g:=g) fun v hv=>h v (Nat.lt_succ_of_lt hv);have h2:=h n (Nat.lt_succ_self n);grind
abbrev LnW (n:Nat) (w:Int × Int × Rat):Prop:=(0<=w.1/\w.1 < (n:Int))/\(0<=w.2.1/\w.2.1 < (n:Int))/\O4 w.2.2
abbrev LnH (n:Nat) (h:Str × Int × Rat):Prop:=Hk h.1/\(0<=h.2.1/\h.2.1 < (n:Int))/\O4 h.2.2
structure LN (xs:List Wk) (ws:LW) (hs:LH) (gs:LP):Prop where
 n0:1<=xs.length
 n1:xs.length<=10
 of:∀ x ∈ xs,Kd x.2.1/\OfG x.2.1 x.2.2 100 54 244 130/\OnC x.2.2
 nm:∀ x ∈ xs,(PyData.str x.1).canLay0=true
 wl:ws.length<=40
 hl:hs.length<=40
 w:∀ w ∈ ws,LnW xs.length w
 h:∀ h ∈ hs,LnH xs.length h
 g:gs=[]\/gs=[.list [.int 1,.int 0]]
theorem A2t {q:Rat} {a:Int} (h:q=(a:Rat)) (ha:a.natAbs<=2 ^ 44):On LL (2 ^ 44) q:=by rw [h]; exact A8d E5 ha
theorem lit3 {e:PEnv} {Q:SV->PEnv->Prop} (h:∀ qs:LQ,qs.length=3->(∀ q ∈ qs,On LL (2 ^ 44) q)->Q (.own (qs.map dq)) e):pLst (L0 (pdat (pTup (L0 (pdat (pC (PyData.int 0))) (L0 (pdat (pC (PyData.int 1))) pNil)))) (L0 (pdat (pTup (L0 (pdat (pC (PyData.int 60))) (L0 (pdat (pC (PyData.int 1))) pNil)))) (L0 (pdat (pTup (L0 (pdat (pOp (pI CPow fun i j=>PyData.int (i ^ j.toNat)) (pdat (pC (PyData.int 10))) (pdat (pC (PyData.int 13))))) (L0 (pdat (pC (PyData.int 1))) pNil)))) pNil))) e Q :=
 ⟨Nat.le_of_ble_eq_true rfl,Nat.le_of_ble_eq_true rfl,V5 13,Nat.le_of_ble_eq_true rfl,Nat.le_of_ble_eq_true rfl,h [((0:Int):Rat),((60:Int):Rat),(((10:Int) ^ 13:Int):Rat)] rfl fun q hq=>by
  simp only [List.mem_cons,List.not_mem_nil,or_false] at hq;rcases hq with h | h | h
  ·exact A2t h (by decide)
  ·exact A2t h (by decide)
  ·exact A2t h (by decide)⟩
theorem lit4 {e:PEnv} {Q:SV->PEnv->Prop} (h:∀ qs:LQ,qs.length=4->(∀ q ∈ qs,On LL (2 ^ 44) q)->Q (.own (qs.map dq)) e):pLst (L0 (pdat (pTup (L0 (pdat (pC (PyData.int 0))) (L0 (pdat (pC (PyData.int 1))) pNil)))) (L0 (pdat (pTup (L0 (pdat (pC (PyData.int 90))) (L0 (pdat (pC (PyData.int 1))) pNil)))) (L0 (pdat (pTup (L0 (pdat (pOp (pI CPow fun i j=>PyData.int (i ^ j.toNat)) (pdat (pC (PyData.int 10))) (pdat (pC (PyData.int 13))))) (L0 (pdat (pC (PyData.int 1))) pNil)))) (L0 (pdat (pTup (L0 (pdat (pOp (pI CPow fun i j=>PyData.int (i ^ j.toNat)) (pdat (pC (PyData.int 10))) (pdat (pC (PyData.int 13))))) (L0 (pdat (pC (PyData.int 1))) pNil)))) pNil)))) e Q :=
 ⟨Nat.le_of_ble_eq_true rfl,Nat.le_of_ble_eq_true rfl,V5 13,Nat.le_of_ble_eq_true rfl,V5 13,Nat.le_of_ble_eq_true rfl,Nat.le_of_ble_eq_true rfl,h [((0:Int):Rat),((90:Int):Rat),(((10:Int) ^ 13:Int):Rat),(((10:Int) ^ 13:Int):Rat)] rfl fun q hq=>by
  simp only [List.mem_cons,List.not_mem_nil,or_false] at hq;rcases hq with h | h | h | h
  ·exact A2t h (by decide)
  ·exact A2t h (by decide)
  ·exact A2t h (by decide)
  ·exact A2t h (by decide)⟩
theorem A5t {a:Nat} {q:Rat} (h:On LL (2 ^ a) q) (ha:a<=58):O4 q:=(h.up (by decide)).p2 ha
theorem hd3 {pt:PTt} {a c:PSt} {D:PEnds} {e:PEnv} {R:PSt} (h:∀ S,S=a->pSeq (pIf pt S c) R D e):pSeq (pIf pt a c) R D e:=h a rfl
def ltr3:Str:=Str.ofString "dbeca"
theorem A0d:ltr3.length=5:=by decide +kernel
theorem B2p:ltr3.cps.toList.all (fun c=>decide (c < 128))=true:=by decide +kernel
theorem B1o:PyData.tuple [.int 1,.int 3]=dq (Rat.divInt 1 3):=by
 unfold dq;rw [show (Rat.divInt 1 3).num=1 by decide +kernel,show (Rat.divInt 1 3).den=3 by decide +kernel]; rfl
theorem C2v {n:Nat} {vs:List (Int × Int)} {us:List (Str × Int)} {pa:List ((Str × Int) × Rat)} (h:PB n vs us pa):0<=sA pa rtA:=by
 refine B1r fun p hp=>⟨Rat.le_of_lt (h.ar p hp).2.2,?_⟩;unfold rtA;split
 ·decide
 ·exact Rat.le_refl
section
variable {P:Program} {w:World} {K:PySem.W.Frag} {mg:Str->Option Value} {base:Heap} {D:Adr}
def A5g:Pu.PSp:=fun as Q=>∃ i:Int,as=[.d (.int i)]/\Q (.d (.bool true))
theorem R4 (T:Txt K mg D):FnOk P w K mg base CX0 1 D.a_b0 D.d_b0 ["thing"] (Pu.spOf K [.dat] A5g):=by
 refine T.F_b0.ok sc_b0 (Pu.spOf.len rfl) (fun cdv A outer s H vs Q E hr h=>?_);refine ⟨_,(QSs.out (A9 (C4 (M7 (C2 (O2 (K:=K) rfl) (by rfl) T.z_isinstance (by rfl) (A0 (qpv 0) (A0 (Q3 (v:=.ty "int") rfl T.z_int (by rfl) rfl) A3))) (M6 (A6u (C2 (O2 (K:=K) rfl) (by rfl) T.z_isinstance (by rfl) (A0 (qpv 0) (A0 (Q3 (v:=.ty "bool") rfl T.z_bool (by rfl) rfl) A3))))))))),?_⟩
 haveI:=T.c2_NOUGHT
 refine Pu.G3 h ?_;rintro as Qp ⟨i,rfl,k⟩;trivial;exact k
def A0z:Pu.PSp:=fun as Q=>∃ a b:PyData,as=[.d (.tuple [a,b]),.d (.int 2)]/\Q (.d (.bool true))
theorem O1 (T:Txt K mg D):FnOk P w K mg base CX0 1 D.a_a6 D.d_a6 ["thing","many"] (Pu.spOf K [.dat,.dat] A0z):=by
 refine T.F_a6.ok sc_a6 (Pu.spOf.len rfl) (fun cdv A outer s H vs Q E hr h=>?_);refine ⟨_,(QSs.out (A9 (C4 (M7 (C2 (O2 (K:=K) rfl) (by rfl) T.z_isinstance (by rfl) (A0 (qpv 0) (A0 (Q3 (v:=.ty "tuple") rfl T.z_tuple (by rfl) rfl) A3))) (M6 (K4 (F8 (K:=K) rfl hr.units) (C2 (C5 (K:=K) rfl) (by rfl) T.z_len PySem.boot_len (A0 (qpv 0) A3)) (qpv 1) (D4 _))))))),?_⟩
 haveI:=T.c2_NOUGHT
 refine Pu.G3 h ?_;rintro as Qp ⟨a,b,rfl,k⟩;trivial;exact k
theorem K0 (T:Txt K mg D):FnOk P w K mg base CX0 1 D.a_a2 D.d_a2 ["one","other"] (Pu.spOf K [.dat,.dat] B9g):=by
 refine T.F_a2.ok sc_a2 (Pu.spOf.len rfl) (fun cdv A outer s H vs Q E hr h=>?_);refine ⟨_,(QSs.out (A5 (P4 (i:=0) (j:=1) rfl sc_a2.nd rfl rfl (by decide) rfl rfl (A0 (C2 A1x (by rfl) T.z_abs (by rfl) (A0 (qpv 0) A3)) (A0 (C2 A1x (by rfl) T.z_abs (by rfl) (A0 (qpv 1) A3)) A3)) rfl)
   (A5 (U3 PassesOwn.never (C6 (P6 (K:=K) rfl hr.units) (qpv 1) A4 (D4 _))
    (A9 (P4 (i:=0) (j:=1) rfl sc_a2.nd rfl rfl (by decide) rfl rfl (A0 (qpv 1) (A0 (C3 P1 (qpv 0) (qpv 1)) A3)) rfl)))
   (A9 (C4 (qpv 0)))))),?_⟩
 haveI:=T.c2_NOUGHT
 refine Pu.G3 h ?_;rintro as Qp ⟨a,b,rfl,k⟩;trivial;refine ⟨fun m e=>∃ x y:Int,e=[some (.d (.int x)),some (.d (.int y))]/\0<=x/\0<=y/\m=y.toNat/\Int.gcd x y=Int.gcd a b,⟨_,_,_,rfl,by split <;> omega,by split <;> omega,rfl,B8d a b⟩,?_⟩
 rintro m e ⟨x,y,rfl,hx,hy,rfl,hg⟩;trivial;refine ite2 (fun e=>?_) (fun hn=>?_)
 ·subst e;have:=A4t x hx;rw [hg] at this;rw [<- this]; exact k
 ·have h1:=Int.emod_lt_of_pos x (show 0 < y by omega);have h2:=Int.emod_nonneg x hn;exact ⟨by omega,(x % y).toNat,by omega,y,x % y,rfl,hy,h2,rfl,by rw [B0p,hg]⟩
def A5h:Pu.PSp:=fun as Q=>∃ q:Rat,as=[.d (dq q)]/\SmQ 3900 q/\Q (.d (.bool true))
theorem A5o (T:Txt K mg D):FnOk P w K mg base CX0 2 D.a_af D.d_af ["thing"] (Pu.spOf K [.dat] A5h):=by
 refine T.F_af.ok sc_af (Pu.spOf.len rfl) (fun cdv A outer s H vs Q E hr h=>?_);refine ⟨_,(QSs.out (A5 (D9 (M4 (E9 (A7 (O1 (K:=K) T) hr.mo rfl T.m_a6 T.F_a6.kp (Q1 T) .nil C0 (A0 (qpv 0) (A0 A4 A3)))))
    (A9 (C4 J6))
    D1)
   (A5 (F4 (qpv 0) (D0 (K:=K) (n:=2) rfl rfl (B7 (B3 (i:=1) sc_af.nd rfl (Or.inl rfl) (Or.inl rfl)) (B7 (B3 (i:=2) sc_af.nd rfl (Or.inl rfl) (Or.inl rfl)) C9)) rfl rfl))
   (A5 (D9 (QW.pt (A0u (M4 (E9 (A7 (R4 (K:=K) T) hr.mo rfl T.m_b0 T.F_b0.kp (V7 T) .nil C0 (A0 (qpv 1) A3)))) (U2 (M4 (E9 (A7 (R4 (K:=K) T) hr.mo rfl T.m_b0 T.F_b0.kp (V7 T) .nil C0 (A0 (qpv 2) A3)))))))
    (A9 (C4 J6))
    D1)
   (A9 (C4 (M7 (K4 C0s (qpv 2) A4 (D4 _)) (M6 (K4 (F8 (K:=K) rfl hr.units) (A7 (K0 (K:=K) T) hr.mo rfl T.m_a2 T.F_a2.kp (K8 T) .nil C0 (A0 (qpv 1) (A0 (qpv 2) A3))) A4 (D4 _)))))))))),?_⟩
 haveI:=T.c2_NOUGHT
 refine Pu.G3 h ?_;rintro as Qp ⟨q,rfl,sq,k⟩;trivial;refine ⟨_,_,rfl,?_⟩;trivial;refine ⟨_,rfl,?_⟩;trivial;refine ⟨_,rfl,?_⟩;trivial;refine ite2 (fun _=>?_) (fun z=>absurd (by have:=q.den_pos; omega) z);refine ⟨_,_,rfl,?_⟩;have e1:Int.gcd q.num (q.den:Int)=1:=q.reduced;rw [e1];trivial;exact k
theorem K3 (T:Txt K mg D):FnOk P w K mg base CX0 2 D.a_cc D.d_cc ["one","other"] (Pu.spOf K [.dat,.dat] (X1 (·+·))):=by
 refine T.F_cc.ok sc_cc (Pu.spOf.len rfl) (fun cdv A outer s H vs Q E hr h=>?_);refine ⟨_,(QSs.out (A5 (B8 (i:=2) sc_cc.nd rfl (Or.inl rfl) (A7 (K0 (K:=K) T) hr.mo rfl T.m_a2 T.F_a2.kp (K8 T) .nil C0 (A0 (B2 (A8 (K:=K) rfl) (qpv 0) A4 (fun _ _=>rfl)) (A0 (B2 (A8 (K:=K) rfl) (qpv 1) A4 (fun _ _=>rfl)) A3))))
   (A5 (P4 (i:=3) (j:=4) rfl sc_cc.nd rfl rfl (by decide) rfl rfl (A0 (C3 J2 (B2 (A8 (K:=K) rfl) (qpv 0) A4 (fun _ _=>rfl)) (qpv 2)) (A0 (C3 J2 (B2 (A8 (K:=K) rfl) (qpv 1) A4 (fun _ _=>rfl)) (qpv 2)) A3)) rfl)
   (A5 (B8 (i:=5) sc_cc.nd rfl (Or.inl rfl) (C3 G6 (C3 E7 (B2 (A8 (K:=K) rfl) (qpv 0) A4 (fun _ _=>rfl)) (qpv 4)) (C3 E7 (B2 (A8 (K:=K) rfl) (qpv 1) A4 (fun _ _=>rfl)) (qpv 3))))
   (A5 (B8 (i:=6) sc_cc.nd rfl (Or.inl rfl) (A7 (K0 (K:=K) T) hr.mo rfl T.m_a2 T.F_a2.kp (K8 T) .nil C0 (A0 (qpv 5) (A0 (qpv 2) A3))))
   (A9 (C4 (C7 (A0 (C3 J2 (qpv 5) (qpv 6)) (A0 (C3 E7 (qpv 3) (C3 J2 (B2 (A8 (K:=K) rfl) (qpv 1) A4 (fun _ _=>rfl)) (qpv 6))) A3)))))))))),?_⟩
 haveI:=T.c2_NOUGHT
 refine Pu.G3 h ?_;rintro as Qp ⟨p,q,rfl,sp,sq,k⟩;trivial;refine ⟨_,_,rfl,?_⟩;trivial;have p2:=sp.2.mono (l:=8000) (by decide);have q2:=sq.2.mono (l:=8000) (by decide);have g0:=R9 (t:=(p.den:Int)) q;have gs:=A0p (t:=(p.den:Int)) q2 (den0 q);have gn:(0:Int)<=((Int.gcd (p.den:Int) (q.den:Int):Nat):Int):=Int.natCast_nonneg _;refine ⟨⟨g0,gs⟩,⟨g0,gs⟩,⟨sp.1.mono (by decide),A1k q2 gn⟩,⟨sq.1.mono (by decide),A1k p2 gn⟩,_,_,rfl,?_⟩;trivial;refine ⟨⟨A4u g0,A0p gs g0⟩,⟨A4u g0,A0p gs g0⟩,⟨A1k p2 gn,A1k q2 (Int.natCast_nonneg _)⟩,?_⟩;obtain ⟨e1,e2⟩:=B61 p q _ _ rfl rfl;rw [e1,e2]; exact k
theorem Z9 (T:Txt K mg D):FnOk P w K mg base CX0 3 D.a_c7 D.d_c7 ["one","other"] (Pu.spOf K [.dat,.dat] (X1 (·-·))):=by
 refine T.F_c7.ok sc_c7 (Pu.spOf.len rfl) (fun cdv A outer s H vs Q E hr h=>?_);refine ⟨_,(QSs.out (A9 (C4 (A7 (K3 (K:=K) T) hr.mo rfl T.m_cc T.F_cc.kp (N1 T) .nil C0 (A0 (qpv 0) (A0 (C7 (A0 (A6t A54 (B2 (A8 (K:=K) rfl) (qpv 1) A4 (fun _ _=>rfl))) (A0 (B2 (A8 (K:=K) rfl) (qpv 1) A4 (fun _ _=>rfl)) A3))) A3)))))),?_⟩
 haveI:=T.c2_NOUGHT
 refine Pu.G3 h ?_;rintro as Qp ⟨p,q,rfl,sp,sq,k⟩;trivial;rw [C14];refine ⟨_,_,rfl,sp,⟨by have:=sq.1; unfold Sm at *; show (-q.num).natAbs < _; omega,sq.2⟩,?_⟩;show Qp (.d (dq (p + -q)));rw [<- Rat.sub_eq_add_neg]; exact k
theorem L7 (T:Txt K mg D):FnOk P w K mg base CX0 2 D.a_b1 D.d_b1 ["one","other"] (Pu.spOf K [.dat,.dat] (X1 (·*·))):=by
 refine T.F_b1.ok sc_b1 (Pu.spOf.len rfl) (fun cdv A outer s H vs Q E hr h=>?_);refine ⟨_,(QSs.out (A5 (P4 (i:=2) (j:=3) rfl sc_b1.nd rfl rfl (by decide) rfl rfl (A0 (A7 (K0 (K:=K) T) hr.mo rfl T.m_a2 T.F_a2.kp (K8 T) .nil C0 (A0 (B2 (A8 (K:=K) rfl) (qpv 0) A4 (fun _ _=>rfl)) (A0 (B2 (A8 (K:=K) rfl) (qpv 1) A4 (fun _ _=>rfl)) A3))) (A0 (A7 (K0 (K:=K) T) hr.mo rfl T.m_a2 T.F_a2.kp (K8 T) .nil C0 (A0 (B2 (A8 (K:=K) rfl) (qpv 1) A4 (fun _ _=>rfl)) (A0 (B2 (A8 (K:=K) rfl) (qpv 0) A4 (fun _ _=>rfl)) A3))) A3)) rfl)
   (A9 (C4 (C7 (A0 (C3 E7 (C3 J2 (B2 (A8 (K:=K) rfl) (qpv 0) A4 (fun _ _=>rfl)) (qpv 2)) (C3 J2 (B2 (A8 (K:=K) rfl) (qpv 1) A4 (fun _ _=>rfl)) (qpv 3))) (A0 (C3 E7 (C3 J2 (B2 (A8 (K:=K) rfl) (qpv 0) A4 (fun _ _=>rfl)) (qpv 3)) (C3 J2 (B2 (A8 (K:=K) rfl) (qpv 1) A4 (fun _ _=>rfl)) (qpv 2))) A3))))))),?_⟩
 haveI:=T.c2_NOUGHT
 refine Pu.G3 h ?_;rintro as Qp ⟨p,q,rfl,sp,sq,k⟩;trivial;refine ⟨_,_,rfl,?_⟩;trivial;refine ⟨_,_,rfl,?_⟩;trivial;have p1:=sp.1.mono (l:=8000) (by decide);have q1:=sq.1.mono (l:=8000) (by decide);have p2:=sp.2.mono (l:=8000) (by decide);have q2:=sq.2.mono (l:=8000) (by decide);have g0:=R9 (t:=p.num) q;have gs:=A0p (t:=p.num) q2 (den0 q);have h0:=R9 (t:=q.num) p;have hs:=A0p (t:=q.num) p2 (den0 p);refine ⟨⟨g0,gs⟩,⟨h0,hs⟩,⟨A1k p1 (Int.natCast_nonneg _),A1k q1 (Int.natCast_nonneg _)⟩,⟨h0,hs⟩,⟨g0,gs⟩,⟨A1k p2 (Int.natCast_nonneg _),A1k q2 (Int.natCast_nonneg _)⟩,?_⟩;rw [C07,C08]; exact k
theorem Q5 (T:Txt K mg D):FnOk P w K mg base CX0 1 D.a_bd D.d_bd ["one","other"] (Pu.spOf K [.dat,.dat] A63):=by
 refine T.F_bd.ok sc_bd (Pu.spOf.len rfl) (fun cdv A outer s H vs Q E hr h=>?_);refine ⟨_,(QSs.out (A9 (C4 (K4 A5m (C3 E7 (B2 (A8 (K:=K) rfl) (qpv 0) A4 (fun _ _=>rfl)) (B2 (A8 (K:=K) rfl) (qpv 1) A4 (fun _ _=>rfl))) (C3 E7 (B2 (A8 (K:=K) rfl) (qpv 1) A4 (fun _ _=>rfl)) (B2 (A8 (K:=K) rfl) (qpv 0) A4 (fun _ _=>rfl))) (D4 _))))),?_⟩
 haveI:=T.c2_NOUGHT
 refine Pu.G3 h ?_;rintro as Qp ⟨p,q,rfl,sp,sq,k⟩;trivial;have p1:=sp.1.mono (l:=8000) (by decide);have p2:=sp.2.mono (l:=8000) (by decide);have q1:=sq.1.mono (l:=8000) (by decide);have q2:=sq.2.mono (l:=8000) (by decide);refine ⟨⟨p1,q2⟩,⟨q1,p2⟩,?_⟩;rw [A4d]; exact k
def A5e:Pu.PSp:=fun as Q=>∃ p q:Rat,as=[.d (dq p),.d (dq q)]/\SmQ 3900 p/\SmQ 3900 q/\Q (.d (dq (if q < p then q else p)))
theorem A5n (T:Txt K mg D):FnOk P w K mg base CX0 2 D.a_b2 D.d_b2 ["one","other"] (Pu.spOf K [.dat,.dat] A5e):=by
 refine T.F_b2.ok sc_b2 (Pu.spOf.len rfl) (fun cdv A outer s H vs Q E hr h=>?_);refine ⟨_,(QSs.out (A9 (C4 (A0w (E9 (A7 (Q5 (K:=K) T) hr.mo rfl T.m_bd T.F_bd.kp (T6 T) .nil C0 (A0 (qpv 1) (A0 (qpv 0) A3)))) (qpv 1) (qpv 0))))),?_⟩
 haveI:=T.c2_NOUGHT
 refine Pu.G3 h ?_;rintro as Qp ⟨p,q,rfl,sp,sq,k⟩;trivial;refine ⟨q,p,rfl,sq,sp,?_⟩;trivial;refine ite2 (fun h=>?_) (fun h=>?_)
 ·rw [if_pos h] at k; exact k
 ·rw [if_neg h] at k; exact k
def B1z:Pu.PSp:=fun as Q=>∃ qs:LQ,as=[.d (.list (qs.map dq))]/\(∀ i:Nat,SmQ 3900 (My.S (qs.take i)))/\(∀ q ∈ qs,SmQ 3900 q)/\Q (.d (dq (My.S qs)))
theorem Z8 (T:Txt K mg D):FnOk P w K mg base CX0 3 D.a_c8 D.d_c8 ["some"] (Pu.spOf K [.dat] B1z):=by
 refine T.F_c8.ok sc_c8 (Pu.spOf.len rfl) (fun cdv A outer s H vs Q E hr h=>?_);refine ⟨_,(QSs.out (A5 (B8 (i:=1) sc_c8.nd rfl (Or.inl rfl) (O5 (v:=.ref D.k_NOUGHT) rfl T.c_NOUGHT rfl))
   (A5 (F0 PassesOwn.never rfl (F7 (K:=K) rfl (qpv 0)) (B3 (i:=2) sc_c8.nd rfl (Or.inl rfl) (Or.inl rfl))
    (A9 (B8 (i:=1) sc_c8.nd rfl (Or.inl rfl) (A7 (K3 (K:=K) T) hr.mo rfl T.m_cc T.F_cc.kp (N1 T) .nil C0 (A0 (qpv 1) (A0 (qpv 2) A3))))))
   (A9 (C4 (qpv 1)))))),?_⟩
 haveI:=T.c2_NOUGHT
 refine Pu.G3 h ?_;rintro as Qp ⟨qs,rfl,h1,h2,k⟩;trivial;refine K2 (f:=dq) (xs:=qs) (fun i e=>∃ o:Option SV,e=[some (.d (.list (qs.map dq))),some (.d (dq (My.S (qs.take i)))),o]) ⟨_,rfl⟩ ?_ ?_
 ·rintro i q e hq ⟨o,rfl⟩;trivial;refine ⟨_,_,rfl,h1 i,h2 q (List.mem_of_getElem? hq),?_⟩;trivial;exact ⟨_,by rw [A27 hq]⟩
 rintro e ⟨o,rfl⟩;rw [List.take_length];trivial;exact k
def A0y:Pu.PSp:=fun as Q=>∃ (kd:Str) (cs:LR) (q:Rat) (c0:Rat × Rat),as=[.d (offD kd cs),.d (dq q)]/\cs.length<=1000/\OnC cs/\On LL (2 ^ 60) q/\cs[0]?=some c0/\Q (.d (dq (lm (cs.map (val q)) (val q c0))))
theorem A07 (T:Txt K mg D):FnOk P w K mg base CX0 3 D.a_a7 D.d_a7 ["offer","rate"] (Pu.spOf K [.dat,.dat] A0y):=by
 refine T.F_a7.ok sc_a7 (Pu.spOf.len rfl) (fun cdv A outer s H vs Q E hr h=>?_);refine ⟨_,(QSs.out (A5 (G0 (i:=2) rfl sc_a7.nd rfl rfl (F3 (N':=["rate","time","price"]) (cap:=[some 1,none,none]) rfl rfl rfl rfl (by decide +kernel) rfl rfl) (F7 (K:=K) rfl (B2 (A8 (K:=K) rfl) (qpv 0) A4 (fun _ _=>rfl))) (fun _ _ _=>(D0 (K:=K) (n:=2) rfl rfl (B7 (B3 (i:=1) (show (["rate","time","price"]:List Str).Nodup from by decide +kernel) rfl (Or.inl rfl) (Or.inr rfl)) (B7 (B3 (i:=2) (show (["rate","time","price"]:List Str).Nodup from by decide +kernel) rfl (Or.inl rfl) (Or.inr rfl)) C9)) rfl rfl)) (fun _ _ _=>J1) (fun _ _ _=>(A7 (K3 (K:=K) T) hr.mo rfl T.m_cc T.F_cc.kp (N1 T) .nil C0 (A0 (qpv 2) (A0 (A7 (L7 (K:=K) T) hr.mo rfl T.m_b1 T.F_b1.kp (N0 T) .nil C0 (A0 (qpv 0) (A0 (qpv 1) A3))) A3)))) rfl)
   (A5 (B8 (i:=3) sc_a7.nd rfl (Or.inl rfl) (B2 (A8 (K:=K) rfl) (qpv 2) A4 (fun _ _=>rfl)))
   (A5 (F0 PassesOwn.never rfl (F7 (K:=K) rfl (qpv 2)) (B3 (i:=4) sc_a7.nd rfl (Or.inl rfl) (Or.inl rfl))
    (A9 (B8 (i:=3) sc_a7.nd rfl (Or.inl rfl) (A7 (A5n (K:=K) T) hr.mo rfl T.m_b2 T.F_b2.kp (B1c T) .nil C0 (A0 (qpv 3) (A0 (qpv 4) A3))))))
   (A9 (C4 (qpv 3))))))),?_⟩
 haveI:=T.c2_NOUGHT
 refine Pu.G3 h ?_;rintro as Qp ⟨kd,cs,q,c0,rfl,n5,oc,orr,e0,k⟩;have sq:SmQ 3900 q:=orr.q E5 (by decide +kernel) (by decide +kernel);have hv:∀ c ∈ cs,SmQ 3900 c.1/\SmQ 3900 c.2/\SmQ 3900 (q * c.1)/\SmQ 3900 (val q c):=fun c hc=>by
  obtain ⟨o1,o2⟩:=oc c hc;have om:=orr.mul o1;have ov:=o2.add (Nat.mul_pos E5 E5) om;exact ⟨o1.q E5 (by decide +kernel) (by decide +kernel),o2.q (Nat.mul_pos E5 E5) (by decide +kernel) (by decide +kernel),om.q (Nat.mul_pos E5 E5) (by decide +kernel) (by decide +kernel),ov.q (Nat.mul_pos E5 E5) (by decide +kernel) (by decide +kernel)⟩
 unfold offD;trivial;refine ⟨by omega,M2 (fun i e ys=>∃ o1 o2:Option SV,e=[some (.d (dq q)),o1,o2]/\ys=(((cs.map (val q)).take i).map dq)) ⟨_,_,rfl,rfl⟩ ?_ ?_⟩
 ·rintro i c e ys hc ⟨o1,o2,rfl,rfl⟩;obtain ⟨s1,s2,s3,_⟩:=hv c (List.mem_of_getElem? hc);trivial;refine ⟨_,_,rfl,sq,s1,?_⟩;trivial;refine ⟨_,_,rfl,s2,s3,?_⟩;trivial;exact ⟨_,_,rfl,by rw [A0c hc,List.map_append]; rfl⟩
 ·rintro e ys ⟨o1,o2,rfl,rfl⟩;rw [List.take_of_length_le (by rw [List.length_map]; exact Nat.le_refl _)];trivial;have e1:(cs.map (val q))[0]?=some (val q c0):=by rw [List.getElem?_map,e0]; rfl
  have sv:∀ v ∈ cs.map (val q),SmQ 3900 v:=fun v hv'=>by
   obtain ⟨c,hc,rfl⟩:=List.mem_map.mp hv';exact (hv c hc).2.2.2
  have sl:∀ vs:LQ,(∀ v ∈ vs,v ∈ cs.map (val q))->SmQ 3900 (lm vs (val q c0)):=fun vs h=>by
   rcases A9h vs (val q c0) with z | z
   ·rw [z]; exact (hv c0 (List.mem_of_getElem? e0)).2.2.2
   ·exact sv _ (h _ z)
  refine C1 (n:=0) e1 ?_;trivial;refine K2 (fun i e=>∃ o1:Option SV,e=[some (.d (.tuple [.str kd,.list (cs.map dcn)])),some (.d (dq q)),some (.d (.list ((cs.map (val q)).map dq))),some (.d (dq (lm ((cs.map (val q)).take i) (val q c0)))),o1]) ⟨_,rfl⟩ ?_ ?_
  ·rintro i v e hv ⟨o1,rfl⟩;trivial;refine ⟨_,_,rfl,sl _ (fun v h=>List.mem_of_mem_take h),sv v (List.mem_of_getElem? hv),?_⟩;trivial;exact ⟨_,by rw [List.take_add_one,hv,Option.toList_some,B74]⟩
  ·rintro e ⟨o1,rfl⟩;rw [List.take_length];trivial;exact k
def S4:Pu.PSp:=fun as Q=>∃ i m:Int,as=[.d (.int i),.d (.int m)]/\0<=i/\i < m/\Q (.d (.bool true))
theorem S5 (T:Txt K mg D):FnOk P w K mg base CX0 2 D.a_a0 D.d_a0 ["thing","many"] (Pu.spOf K [.dat,.dat] S4):=by
 refine T.F_a0.ok sc_a0 (Pu.spOf.len rfl) (fun cdv A outer s H vs Q E hr h=>?_);refine ⟨_,(QSs.out (A9 (C4 (M7 (A7 (R4 (K:=K) T) hr.mo rfl T.m_b0 T.F_b0.kp (V7 T) .nil C0 (A0 (qpv 0) A3)) (M6 (A6x C29 A5m A4 (qpv 0) (qpv 1))))))),?_⟩
 haveI:=T.c2_NOUGHT
 refine Pu.G3 h ?_;rintro as Qp ⟨i,m,rfl,i0,i1,k⟩;trivial;refine ⟨i,rfl,?_⟩;trivial;refine ite2 (fun _=>?_) (fun z=>absurd i0 z);rw [decide_eq_true i1];exact k
def B11:Pu.PSp:=fun as Q=>∃ (xs:List Wk) (ws:LW) (hs:LH) (gs:LP) (a:Str × Int),as=[.d (netD xs ws hs gs),.d (qD a)]/\ArOk xs.length ws.length hs.length a/\Q (.d (.bool true))
theorem B2f (T:Txt K mg D):FnOk P w K mg base CX0 3 D.a_c6 D.d_c6 ["net","thing"] (Pu.spOf K [.dat,.dat] B11):=by
 refine T.F_c6.ok sc_c6 (Pu.spOf.len rfl) (fun cdv A outer s H vs Q E hr h=>?_);refine ⟨_,(QSs.out (A5 (D9 (M4 (E9 (A7 (O1 (K:=K) T) hr.mo rfl T.m_a6 T.F_a6.kp (Q1 T) .nil C0 (A0 (qpv 1) (A0 A4 A3)))))
    (A9 (C4 J6))
    D1)
   (A5 (B1s (i:=2) (j:=3) (k:=4) rfl sc_c6.nd rfl rfl rfl (by decide) (by decide) (by decide) rfl rfl rfl (A0 (B2 (A8 (K:=K) rfl) (qpv 0) A4 (fun _ _=>rfl)) (A0 (B2 (A8 (K:=K) rfl) (qpv 0) A4 (fun _ _=>rfl)) (A0 (B2 (A8 (K:=K) rfl) (qpv 0) A4 (fun _ _=>rfl)) A3))) rfl rfl)
   (A5 (B8 (i:=5) sc_c6.nd rfl (Or.inl rfl) (B1u (T2 D3 (C2 (C5 (K:=K) rfl) (by rfl) T.z_len PySem.boot_len (A0 (qpv 2) A3)) (T2 D3 (C2 (C5 (K:=K) rfl) (by rfl) T.z_len PySem.boot_len (A0 (qpv 2) A3)) (T2 D3 (C2 (C5 (K:=K) rfl) (by rfl) T.z_len PySem.boot_len (A0 (qpv 3) A3)) (T2 D3 (C2 (C5 (K:=K) rfl) (by rfl) T.z_len PySem.boot_len (A0 (qpv 4) A3)) B6n)))) (by rfl) (by rfl) (by decide) (by decide)))
   (A5 (F4 (qpv 1) (D0 (K:=K) (n:=2) rfl rfl (B7 (B3 (i:=6) sc_c6.nd rfl (Or.inl rfl) (Or.inl rfl)) (B7 (B3 (i:=7) sc_c6.nd rfl (Or.inl rfl) (Or.inl rfl)) C9)) rfl rfl))
   (A9 (C4 (M7 (C2 (O2 (K:=K) rfl) (by rfl) T.z_isinstance (by rfl) (A0 (qpv 6) (A0 (Q3 (v:=.ty "str") rfl T.z_str (by rfl) rfl) A3))) (M7 (B6o (u1 hr.units) (qpv 6) (qpv 5) (by with_unfolding_all rfl)) (M6 (A7 (S5 (K:=K) T) hr.mo rfl T.m_a0 T.F_a0.kp (V8 T) .nil C0 (A0 (qpv 7) (A0 (B1v (u1 hr.units) (qpv 5) (qpv 6) (fun _ _=>rfl)) A3))))))))))))),?_⟩
 haveI:=T.c2_NOUGHT
 refine Pu.G3 h ?_;rintro as Qp ⟨xs,ws,hs,gs,a,rfl,ok,k⟩;unfold netD;refine hd fun R hR=>?_;trivial;refine ⟨.str a.1,.int a.2,rfl,?_⟩;trivial;subst hR;refine hd fun R hR=>?_;trivial;subst hR;refine hd fun R hR=>?_;trivial;refine ⟨by decide +kernel,?_⟩;subst hR;refine hd fun R hR=>?_;rw [show qD a=.tuple [.str a.1,.int a.2] from rfl];trivial;subst hR;trivial;obtain ⟨c,m⟩:=a;obtain ⟨m0,ok⟩:=ok;dsimp only;rcases ok with ⟨e,h⟩ | ⟨e,h⟩ | ⟨e,h⟩ | ⟨e,h⟩
 ·have e:c=Str.ofString "start":=e;subst e;refine ite2 (fun _=>⟨_,if_pos rfl,m,_,rfl,m0,h,?_⟩) (fun z=>absurd (T5 (List.mem_cons_self)) z);trivial;exact k
 ·have e:c=Str.ofString "end":=e;subst e;refine ite2 (fun _=>⟨_,(if_neg w_se).trans (if_pos rfl),m,_,rfl,m0,h,?_⟩) (fun z=>absurd (T5 (List.mem_cons_of_mem _ List.mem_cons_self)) z);trivial;exact k
 ·have e:c=Str.ofString "wait":=e;subst e;refine ite2 (fun _=>⟨_,(if_neg w_sw).trans ((if_neg w_ew).trans (if_pos rfl)),m,_,rfl,m0,h,?_⟩) (fun z=>absurd (T5 (List.mem_cons_of_mem _ (List.mem_cons_of_mem _ List.mem_cons_self))) z);trivial;exact k
 ·have e:c=Str.ofString "hold":=e;subst e;refine ite2 (fun _=>⟨_,(if_neg w_sh).trans ((if_neg w_eh).trans ((if_neg w_wh).trans (if_pos rfl))),m,_,rfl,m0,h,?_⟩) (fun z=>absurd (T5 (List.mem_cons_of_mem _ (List.mem_cons_of_mem _ (List.mem_cons_of_mem _ List.mem_cons_self)))) z);trivial;exact k
def A00:Pu.PSp:=fun as Q=>∃ (xs:List Wk) (ws:LW) (hs:LH) (gs:LP) (p:(Str × Int) × Rat),as=[.d (netD xs ws hs gs),.d (paD p)]/\ArOk xs.length ws.length hs.length p.1/\SmQ 3900 p.2/\0 < p.2/\Q (.d (.bool true))
theorem A08 (T:Txt K mg D):FnOk P w K mg base CX0 4 D.a_a5 D.d_a5 ["net","thing"] (Pu.spOf K [.dat,.dat] A00):=by
 refine T.F_a5.ok sc_a5 (Pu.spOf.len rfl) (fun cdv A outer s H vs Q E hr h=>?_);refine ⟨_,(QSs.out (A5 (D9 (M4 (E9 (A7 (O1 (K:=K) T) hr.mo rfl T.m_a6 T.F_a6.kp (Q1 T) .nil C0 (A0 (qpv 1) (A0 A4 A3)))))
    (A9 (C4 J6))
    D1)
   (A5 (F4 (qpv 1) (D0 (K:=K) (n:=2) rfl rfl (B7 (B3 (i:=2) sc_a5.nd rfl (Or.inl rfl) (Or.inl rfl)) (B7 (B3 (i:=3) sc_a5.nd rfl (Or.inl rfl) (Or.inl rfl)) C9)) rfl rfl))
   (A9 (C4 (M7 (A7 (B2f (K:=K) T) hr.mo rfl T.m_c6 T.F_c6.kp (B8i T) .nil C0 (A0 (qpv 0) (A0 (qpv 2) A3))) (M7 (A7 (A5o (K:=K) T) hr.mo rfl T.m_af T.F_af.kp (B1d T) .nil C0 (A0 (qpv 3) A3)) (M6 (A7 (Q5 (K:=K) T) hr.mo rfl T.m_bd T.F_bd.kp (T6 T) .nil C0 (A0 (O5 (v:=.ref D.k_NOUGHT) rfl T.c_NOUGHT rfl) (A0 (qpv 3) A3))))))))))),?_⟩
 haveI:=T.c2_NOUGHT
 refine Pu.G3 h ?_;rintro as Qp ⟨xs,ws,hs,gs,p,rfl,ok,sp,p0,k⟩;refine hd fun R hR=>?_;trivial;refine ⟨qD p.1,dq p.2,rfl,?_⟩;trivial;subst hR;refine hd fun R hR=>?_;rw [show paD p=.tuple [qD p.1,dq p.2] from rfl];trivial;subst hR;trivial;refine ⟨xs,ws,hs,gs,p.1,rfl,ok,?_⟩;trivial;refine ⟨p.2,rfl,sp,?_⟩;trivial;refine ⟨0,p.2,rfl,smq0,sp,?_⟩;rw [decide_eq_true p0];trivial;exact k
def Z5:Pu.PSp:=fun as Q=>∃ (xs:List Wk) (ws:LW) (hs:LH) (gs:LP) (pa:List ((Str × Int) × Rat)),as=[.d (netD xs ws hs gs),.d (.list (pa.map paD))]/\(∀ p ∈ pa,ArOk xs.length ws.length hs.length p.1/\SmQ 3900 p.2/\0 < p.2)/\(pa.map (·.1)).Nodup/\pa.length<=1000/\Q (.d .none)
theorem A0a (T:Txt K mg D):FnOk P w K mg base CX0 5 D.a_a3 D.d_a3 ["net","thing"] (Pu.spOf K [.dat,.dat] Z5):=by
 refine T.F_a3.ok sc_a3 (Pu.spOf.len rfl) (fun cdv A outer s H vs Q E hr h=>?_);refine ⟨_,(QSs.out (A5 (D9 (M4 (E9 (C2 (O2 (K:=K) rfl) (by rfl) T.z_isinstance (by rfl) (A0 (qpv 1) (A0 (Q3 (v:=.ty "list") rfl T.z_list (by rfl) rfl) A3)))))
    (A9 U4)
    D1)
   (A5 (B8 (i:=2) sc_a3.nd rfl (Or.inl rfl) A6w)
   (A9 (F0 PassesOwn.never rfl (A0v (K:=K) rfl rfl T.z_enumerate (A0 (qpv 1) A3)) (D0 (K:=K) (n:=2) rfl rfl (B7 (B3 (i:=3) sc_a3.nd rfl (Or.inl rfl) (Or.inl rfl)) (B7 (B3 (i:=4) sc_a3.nd rfl (Or.inl rfl) (Or.inl rfl)) C9)) rfl rfl)
    (A5 (D9 (QW.pt (A0u (M4 (E9 (A7 (A08 (K:=K) T) hr.mo rfl T.m_a5 T.F_a5.kp (A24 T) .nil C0 (A0 (qpv 0) (A0 (qpv 4) A3))))) (U2 (B6m (u1 hr.units) (B2 (A8 (K:=K) rfl) (qpv 4) A4 (fun _ _=>rfl)) (qpv 2) (by with_unfolding_all rfl)))))
     (A9 U4)
     D1)
    (A9 (B1t (u1 hr.units) (qpv 2) (B2 (A8 (K:=K) rfl) (qpv 4) A4 (fun _ _=>rfl)) J6 (by rfl))))))))),?_⟩
 haveI:=T.c2_NOUGHT
 refine Pu.G3 h ?_;rintro as Qp ⟨xs,ws,hs,gs,pa,rfl,ar,nd,ln,k⟩;refine hd fun R hR=>?_;trivial;subst hR;refine hd fun R hR=>?_;trivial;subst hR;trivial;refine A4v (f:=paD) (xs:=pa) (fun i e=>∃ o3 o4:Option SV,e=[some (.d (netD xs ws hs gs)),some (.d (.list (pa.map paD))),some (.dk ((pa.take i).map (·.1))),o3,o4]) ⟨_,_,rfl⟩ ?_ ?_
 ·rintro i p e hi ⟨o3,o4,rfl⟩;have hil:=(List.getElem?_eq_some_iff.mp hi).1;obtain ⟨h1,h2,h3⟩:=ar p (List.mem_of_getElem? hi);have nin:p.1 ∉ (pa.take i).map (·.1):=fun z=>by
   rw [List.map_take] at z;obtain ⟨j,hj,e⟩:=List.getElem_of_mem z;rw [List.length_take,List.length_map] at hj;rw [List.getElem_take] at e;have hp:(pa.map (·.1))[i]?=some p.1:=by rw [List.getElem?_map,hi]; rfl
   obtain ⟨hi',ei⟩:=List.getElem?_eq_some_iff.mp hp;have:=(List.getElem_inj nd).mp (e.trans ei.symm);omega
  rw [show paD p=.tuple [qD p.1,dq p.2] from rfl];simp only [T3,A2e,A6z,B1w,List.set_cons_succ,List.set_cons_zero,List.length_cons,List.length_nil,Nat.zero_add,Nat.reduceAdd,true_and];refine hd fun R hR=>?_;trivial;refine ⟨xs,ws,hs,gs,p,rfl,h1,h2,h3,?_⟩;trivial;show if p.1 ∈ List.map (fun x=>x.1) (List.take i pa) then _ else _;rw [if_neg nin];subst hR;trivial;show p.1 ∉ List.map (fun x=>x.1) (List.take i pa)/\_/\_;exact ⟨nin,by rw [List.length_take]; omega,_,_,by rw [List.take_add_one,hi,List.map_append]; rfl⟩
 rintro e ⟨o3,o4,rfl⟩;exact k
def A5k:Pu.PMu:=fun xs ys zs Q=>∃ (h:Str × Int × Rat) (q:Rat) (is os:LQ) (o:Nat) (a b:Rat),xs=[hD h,dq q]/\ys=is.map dq/\zs=os.map dq/\Hk h.1/\h.2.1=(o:Int)/\is[o]?=some a/\os[o]?=some b/\SmQ 3900 q/\SmQ 3900 a/\SmQ 3900 b/\(h.1="from"->Q .none ((is.set o (a + q)).map dq) (os.map dq))/\(h.1="till"->Q .none ((is.set o (a - q)).map dq) (os.map dq))/\(h.1="by"->Q .none (is.map dq) ((os.set o (b + q)).map dq))
theorem A5r (T:Txt K mg D):FnOk P w K mg base CX0 4 D.a_ac D.d_ac ["hold","amount","amounts","offs"] (Pu.spMu K 2 A5k):=by
 refine T.F_ac.ok sc_ac (Pu.spMu.len rfl) (fun cdv A outer s H vs Q E hr h=>?_);refine ⟨_,(QSs.out (A5 (F4 (qpv 0) (D0 (K:=K) (n:=3) rfl rfl (B7 (B3 (i:=4) sc_ac.nd rfl (Or.inl rfl) (Or.inl rfl)) (B7 (B3 (i:=5) sc_ac.nd rfl (Or.inl rfl) (Or.inl rfl)) (B7 (B3 (i:=6) sc_ac.nd rfl (Or.inl rfl) (Or.inl rfl)) C9))) rfl rfl))
   (A9 (D9 (C6 (F8 (K:=K) rfl hr.units) (qpv 4) D3 (D4 _))
    (A9 (F4 (A7 (K3 (K:=K) T) hr.mo rfl T.m_cc T.F_cc.kp (N1 T) .nil C0 (A0 (B2 (A8 (K:=K) rfl) (qMu (qpv 2)) (qpv 5) (fun _ _=>rfl)) (A0 (qpv 1) A3))) (M5 (qMu (qpv 2)) (qpv 5) I0)))
    (A9 (D9 (C6 (F8 (K:=K) rfl hr.units) (qpv 4) D3 (D4 _))
     (A9 (F4 (A7 (Z9 (K:=K) T) hr.mo rfl T.m_c7 T.F_c7.kp (A22 T) .nil C0 (A0 (B2 (A8 (K:=K) rfl) (qMu (qpv 2)) (qpv 5) (fun _ _=>rfl)) (A0 (qpv 1) A3))) (M5 (qMu (qpv 2)) (qpv 5) I0)))
     (A9 (F4 (A7 (K3 (K:=K) T) hr.mo rfl T.m_cc T.F_cc.kp (N1 T) .nil C0 (A0 (B2 (A8 (K:=K) rfl) (qMu (qpv 3)) (qpv 5) (fun _ _=>rfl)) (A0 (qpv 1) A3))) (M5 (qMu (qpv 3)) (qpv 5) I0))))))))),?_⟩
 haveI:=T.c2_NOUGHT
 refine Pu.B8f h ?_;rintro xs ys zs p1 p2 Qp hpq ⟨h,q,is,os,o,a,b,rfl,rfl,rfl,hk,ho,ei,eo,sq,sa,sb,k1,k2,k3⟩;obtain ⟨kd,w,m⟩:=h;have ho:w=(o:Int):=ho;subst ho;rw [show hD (kd,(o:Int),m)=PyData.tuple [.str kd,.int (o:Int),dq m] from rfl];refine hd fun R hR=>?_;trivial;subst hR;trivial;have hk:kd="from"\/kd="till"\/kd="by":=hk;refine ⟨Hk.lay hk,by decide +kernel,ite2 (fun z=>?_) (fun z=>⟨Hk.lay hk,by decide +kernel,ite2 (fun y=>?_) (fun y=>?_)⟩)⟩
 ·have e:kd="from":=by rw [L5] at z; exact of_decide_eq_true z
  refine C1 ei ?_;trivial;refine ⟨_,_,rfl,sa,sq,?_⟩;trivial;refine ⟨o,S3 (o:=(o:Int)) (by omega) (by have:=(List.getElem?_eq_some_iff.mp ei).1; omega),?_⟩;rw [<- List.map_set];exact ⟨_,_,rfl,rfl,k1 e⟩
 ·have e:kd="till":=by rw [L5] at y; exact of_decide_eq_true y
  refine C1 ei ?_;trivial;refine ⟨_,_,rfl,sa,sq,?_⟩;trivial;refine ⟨o,S3 (o:=(o:Int)) (by omega) (by have:=(List.getElem?_eq_some_iff.mp ei).1; omega),?_⟩;rw [<- List.map_set];exact ⟨_,_,rfl,rfl,k2 e⟩
 ·have e:kd="by":=by
   rcases hk with h | h | h
   ·exact absurd (by rw [L5]; exact decide_eq_true h) z
   ·exact absurd (by rw [L5]; exact decide_eq_true h) y
   ·exact h
  refine C1 eo ?_;trivial;refine ⟨_,_,rfl,sb,sq,?_⟩;trivial;refine ⟨o,S3 (o:=(o:Int)) (by omega) (by have:=(List.getElem?_eq_some_iff.mp eo).1; omega),?_⟩;rw [<- List.map_set];exact ⟨_,_,rfl,rfl,k3 e⟩
def A5i:Pu.PSp:=fun as Q=>∃ (xs:List Wk) (ws:LW) (hs:LH) (gs:LP) (pa:List ((Str × Int) × Rat)),as=[.d (netD xs ws hs gs),.d (.list (pa.map paD))]/\NP xs.length ws hs/\PB xs.length (vsO ws) (usO hs) pa/\Q (.d (.tuple [.list (((List.range xs.length).map (FI xs.length (vsO ws) (usO hs) pa)).map dq),.list (((List.range xs.length).map (FO xs.length (vsO ws) (usO hs) pa)).map dq)]))
theorem A5p (T:Txt K mg D):FnOk P w K mg base CX0 5 D.a_ae D.d_ae ["net","paper"] (Pu.spOf K [.dat,.dat] A5i):=by
 refine T.F_ae.ok sc_ae (Pu.spOf.len rfl) (fun cdv A outer s H vs Q E hr h=>?_);refine ⟨_,(QSs.out (A5 (P4 (i:=2) (j:=3) rfl sc_ae.nd rfl rfl (by decide) rfl rfl (A0 (B2 (A8 (K:=K) rfl) (qpv 0) A4 (fun _ _=>rfl)) (A0 (B2 (A8 (K:=K) rfl) (qpv 0) A4 (fun _ _=>rfl)) A3)) rfl)
   (A5 (G0 (i:=4) rfl sc_ae.nd rfl rfl (F3 (N':=["work"]) (cap:=[none]) rfl rfl rfl rfl (by decide +kernel) rfl rfl) (F7 (K:=K) rfl (B2 (A8 (K:=K) rfl) (qpv 0) A4 (fun _ _=>rfl))) (fun _ _ _=>(B3 (i:=0) (show (["work"]:List Str).Nodup from by decide +kernel) rfl (Or.inl rfl) (Or.inr rfl))) (fun _ _ _=>J1) (fun _ _ _=>(O5 (v:=.ref D.k_NOUGHT) rfl T.c_NOUGHT rfl)) rfl)
   (A5 (G0 (i:=5) rfl sc_ae.nd rfl rfl (F3 (N':=["work"]) (cap:=[none]) rfl rfl rfl rfl (by decide +kernel) rfl rfl) (F7 (K:=K) rfl (B2 (A8 (K:=K) rfl) (qpv 0) A4 (fun _ _=>rfl))) (fun _ _ _=>(B3 (i:=0) (show (["work"]:List Str).Nodup from by decide +kernel) rfl (Or.inl rfl) (Or.inr rfl))) (fun _ _ _=>J1) (fun _ _ _=>(O5 (v:=.ref D.k_NOUGHT) rfl T.c_NOUGHT rfl)) rfl)
   (A5 (F0 PassesOwn.never rfl (F7 (K:=K) rfl (qpv 1)) (D0 (K:=K) (n:=2) rfl rfl (B7 (D0 (K:=K) (n:=2) rfl rfl (B7 (B3 (i:=6) sc_ae.nd rfl (Or.inl rfl) (Or.inl rfl)) (B7 (B3 (i:=7) sc_ae.nd rfl (Or.inl rfl) (Or.inl rfl)) C9)) rfl rfl) (B7 (B3 (i:=8) sc_ae.nd rfl (Or.inl rfl) (Or.inl rfl)) C9)) rfl rfl)
    (A9 (D9 (C6 (F8 (K:=K) rfl hr.units) (qpv 6) D3 (D4 _))
     (A9 (F4 (A7 (K3 (K:=K) T) hr.mo rfl T.m_cc T.F_cc.kp (N1 T) .nil C0 (A0 (B2 (A8 (K:=K) rfl) (qpv 4) (qpv 7) (fun _ _=>rfl)) (A0 (qpv 8) A3))) (M5 (qpv 4) (qpv 7) I0)))
     (A9 (D9 (C6 (F8 (K:=K) rfl hr.units) (qpv 6) D3 (D4 _))
      (A9 (F4 (A7 (K3 (K:=K) T) hr.mo rfl T.m_cc T.F_cc.kp (N1 T) .nil C0 (A0 (B2 (A8 (K:=K) rfl) (qpv 5) (qpv 7) (fun _ _=>rfl)) (A0 (qpv 8) A3))) (M5 (qpv 5) (qpv 7) I0)))
      (A9 (D9 (C6 (F8 (K:=K) rfl hr.units) (qpv 6) D3 (D4 _))
       (A5 (F4 (B2 (A8 (K:=K) rfl) (qpv 2) (qpv 7) (fun _ _=>rfl)) (D0 (K:=K) (n:=3) rfl rfl (B7 (B3 (i:=9) sc_ae.nd rfl (Or.inl rfl) (Or.inl rfl)) (B7 (B3 (i:=10) sc_ae.nd rfl (Or.inl rfl) (Or.inl rfl)) (B7 (B3 (i:=11) sc_ae.nd rfl (Or.inl rfl) (Or.inl rfl)) C9))) rfl rfl))
       (A5 (F4 (A7 (K3 (K:=K) T) hr.mo rfl T.m_cc T.F_cc.kp (N1 T) .nil C0 (A0 (B2 (A8 (K:=K) rfl) (qpv 5) (qpv 9) (fun _ _=>rfl)) (A0 (qpv 8) A3))) (M5 (qpv 5) (qpv 9) I0))
       (A9 (F4 (A7 (K3 (K:=K) T) hr.mo rfl T.m_cc T.F_cc.kp (N1 T) .nil C0 (A0 (B2 (A8 (K:=K) rfl) (qpv 4) (qpv 10) (fun _ _=>rfl)) (A0 (qpv 8) A3))) (M5 (qpv 4) (qpv 10) I0)))))
       (A9 (F9 (A7 (A5r (K:=K) T) hr.mo rfl T.m_ac T.F_ac.kp (B1g T) .nil C0 (A0 (B2 (A8 (K:=K) rfl) (qpv 3) (qpv 7) (fun _ _=>rfl)) (A0 (qpv 8) (A0 (qpv 4) (A0 (qpv 5) A3))))))))))))))
   (A9 (C4 (C7 (A0 (qpv 4) (A0 (qpv 5) A3)))))))))),?_⟩
 haveI:=T.c2_NOUGHT
 refine Pu.G3 h ?_;rintro as Qp ⟨xs,ws,hs,gs,pa,rfl,np,pb,k⟩;have n1:=np.n1;have wl:=np.wl;have hl:=np.hl;have pl:=pb.ln;unfold netD;refine hd fun R hR=>?_;trivial;subst hR;refine hd fun R hR=>?_;trivial;refine ⟨by omega,M2 (f:=kD) (xs:=xs) (fun i e ys=>∃ o:Option SV,e=[o]/\ys=((List.range i).map fun _=>(0:Rat)).map dq) ⟨_,rfl,rfl⟩ ?_ ?_⟩
 ·rintro i x e ys hx ⟨o,rfl,rfl⟩;trivial;exact ⟨_,rfl,by rw [List.range_succ,List.map_append,List.map_append]; rfl⟩
 rintro e ys ⟨o,rfl,rfl⟩;trivial;subst hR;refine hd fun R hR=>?_;trivial;refine ⟨by omega,M2 (f:=kD) (xs:=xs) (fun i e ys=>∃ o:Option SV,e=[o]/\ys=((List.range i).map fun _=>(0:Rat)).map dq) ⟨_,rfl,rfl⟩ ?_ ?_⟩
 ·rintro i x e ys hx ⟨o,rfl,rfl⟩;trivial;exact ⟨_,rfl,by rw [List.range_succ,List.map_append,List.map_append]; rfl⟩
 rintro e ys ⟨o,rfl,rfl⟩;trivial;subst hR;refine hd fun R hR=>?_;trivial;have sm:∀ {f:Str × Int->Rat} {i:Nat},(∀ a,∃ z:Int,f a=(z:Rat)/\z.natAbs<=1)->SmQ 3900 (sA (pa.take i) f):=fun hf=>onL ((A6p (b:=51) (fun p hp=>(pb.ar p (List.mem_of_mem_take hp)).2.1) hf).mono (show _<=2 ^ 57 from Nat.le_trans (Nat.mul_le_mul_right _ (show _<=64 by rw [List.length_take]; omega)) (by decide))) (by decide);refine K2 (f:=paD) (xs:=pa) (fun i e=>∃ (is os:LQ) (o6 o7 o8 o9 o10 o11:Option SV),e=[some (.d (.tuple [.list (xs.map kD),.list (ws.map wD),.list (hs.map hD),.list gs])),some (.d (.list (pa.map paD))),some (.d (.list (ws.map wD))),some (.d (.list (hs.map hD))),some (.own (is.map dq)),some (.own (os.map dq)),o6,o7,o8,o9,o10,o11]/\is=(List.range xs.length).map (FI xs.length (vsO ws) (usO hs) (pa.take i))/\os=(List.range xs.length).map (FO xs.length (vsO ws) (usO hs) (pa.take i))) ⟨_,_,_,_,_,_,_,_,rfl,rfl,rfl⟩ ?_ ?_
 ·rintro i p e hi ⟨is,os,o6,o7,o8,o9,o10,o11,rfl,hI,hO⟩;obtain ⟨h1,h2,h3⟩:=pb.ar p (List.mem_of_getElem? hi);have sq:SmQ 3900 p.2:=onL h2 (by decide);have sI:∀ v,SmQ 3900 (FI xs.length (vsO ws) (usO hs) (pa.take i) v):=fun v=>sm fun a=>(B2u a v).1;have sO:∀ v,SmQ 3900 (FO xs.length (vsO ws) (usO hs) (pa.take i) v):=fun v=>sm fun a=>(B2u a v).2;have li:is.length=xs.length:=by rw [hI]; simp
  have lo:os.length=xs.length:=by rw [hO]; simp
  have iI:∀ v,FI xs.length (vsO ws) (usO hs) (pa.take (i + 1)) v=FI xs.length (vsO ws) (usO hs) (pa.take i) v + p.2 * inA xs.length (vsO ws) (usO hs) p.1 v:=fun v=>A2b hi;have iO:∀ v,FO xs.length (vsO ws) (usO hs) (pa.take (i + 1)) v=FO xs.length (vsO ws) (usO hs) (pa.take i) v + p.2 * ofA xs.length (vsO ws) (usO hs) p.1 v:=fun v=>A2b hi;unfold inA at iI;unfold ofA at iO;generalize hF:FI xs.length (vsO ws) (usO hs) (pa.take i)=F at *;generalize hG:FO xs.length (vsO ws) (usO hs) (pa.take i)=G at *;generalize hF1:FI xs.length (vsO ws) (usO hs) (pa.take (i + 1))=F1 at *;generalize hG1:FO xs.length (vsO ws) (usO hs) (pa.take (i + 1))=G1 at *;have atI:∀ {o:Nat},o < xs.length->is[o]?=some (F o):=fun h=>by rw [hI]; exact A5d h
  have atO:∀ {o:Nat},o < xs.length->os[o]?=some (G o):=fun h=>by rw [hO]; exact A5d h
  have ixi:∀ {o:Nat},o < xs.length->ixN is.length (o:Int)=some o:=fun h=>S3 (o:=(_:Int)) (by omega) (by rw [li]; omega);have ixo:∀ {o:Nat},o < xs.length->ixN os.length (o:Int)=some o:=fun h=>S3 (o:=(_:Int)) (by omega) (by rw [lo]; omega);rcases Q8 (ws:=ws) (hs:=hs) h1 rfl rfl (fun h hh=>(np.h h hh).1) with ⟨m,ea,hm,V⟩ | ⟨m,ea,hm,V⟩ | ⟨m,w,ea,ew,V⟩ | ⟨m,h,ea,eh,V⟩
  ·rw [V.h,V.l] at iI;rw [V.t,V.l] at iO;rw [show paD p=.tuple [.tuple [.str p.1.1,.int p.1.2],dq p.2] from rfl,ea];trivial;refine ⟨by decide +kernel,by decide +kernel,?_⟩;refine C1 (atI hm) ?_;trivial;refine ⟨_,_,rfl,sI m,sq,?_⟩;trivial;exact ⟨m,ixi hm,is.set m (F m + p.2),os,_,_,_,_,_,_,by rw [List.map_set],by rw [hI]; exact U0 fun v hv=>by rw [iI v,if_neg (by decide),dl_m rfl],by rw [hO]; exact U1 fun v hv=>by rw [iO v,if_neg (by decide),A1p hv]; grind⟩
  ·rw [V.h,V.l] at iI;rw [V.t,V.l] at iO;rw [show paD p=.tuple [.tuple [.str p.1.1,.int p.1.2],dq p.2] from rfl,ea];trivial;refine ⟨by decide +kernel,by decide +kernel,ite2 (fun h=>absurd h (by decide +kernel)) (fun _=>⟨by decide +kernel,by decide +kernel,?_⟩)⟩;refine C1 (atO hm) ?_;trivial;refine ⟨_,_,rfl,sO m,sq,?_⟩;trivial;exact ⟨m,ixo hm,is,os.set m (G m + p.2),_,_,_,_,_,_,by rw [List.map_set],by rw [hI]; exact U1 fun v hv=>by rw [iI v,if_neg (by decide),A1p hv]; grind,by rw [hO]; exact U0 fun v hv=>by rw [iO v,if_neg (by decide),A4y]⟩
  ·rw [V.h,V.l] at iI;rw [V.t,V.l] at iO;obtain ⟨⟨a0,a1⟩,⟨b0,b1⟩,_⟩:=np.w w (List.mem_of_getElem? ew);obtain ⟨wa,wb,wq⟩:=w;obtain ⟨wa,rfl⟩:=Int.eq_ofNat_of_zero_le (show 0<=wa from a0);obtain ⟨wb,rfl⟩:=Int.eq_ofNat_of_zero_le (show 0<=wb from b0);have la:wa < xs.length:=by have:(wa:Int) < (xs.length:Int):=a1; omega
   have lb:wb < xs.length:=by have:(wb:Int) < (xs.length:Int):=b1; omega
   rw [show paD p=.tuple [.tuple [.str p.1.1,.int p.1.2],dq p.2] from rfl,ea];trivial;refine ⟨by decide +kernel,by decide +kernel,ite2 (fun h=>absurd h (by decide +kernel)) (fun _=>⟨by decide +kernel,by decide +kernel,ite2 (fun h=>absurd h (by decide +kernel)) (fun _=>⟨by decide +kernel,by decide +kernel,?_⟩)⟩)⟩;refine C1 ew ?_;rw [show wD ((wa:Int),(wb:Int),wq)=PyData.tuple [.int (wa:Int),.int (wb:Int),dq wq] from rfl];trivial;refine C1 (atO la) ?_;trivial;refine ⟨_,_,rfl,sO wa,sq,?_⟩;trivial;refine ⟨wa,ixo la,?_⟩;refine C1 (atI lb) ?_;trivial;refine ⟨_,_,rfl,sI wb,sq,?_⟩;trivial;exact ⟨wb,ixi lb,is.set wb (F wb + p.2),os.set wa (G wa + p.2),_,_,_,_,_,_,by rw [List.map_set,List.map_set],by rw [hI]; exact U0 fun v hv=>by rw [iI v,if_neg (by decide),dl_m rfl]; rfl,by rw [hO]; exact U0 fun v hv=>by rw [iO v,if_neg (by decide),A4y]; rfl⟩
  ·obtain ⟨hk,⟨o0,o1⟩,_⟩:=np.h h (List.mem_of_getElem? eh);obtain ⟨kd,ho,hm⟩:=h;obtain ⟨ho,rfl⟩:=Int.eq_ofNat_of_zero_le (show 0<=ho from o0);have lo1:ho < xs.length:=by have:(ho:Int) < (xs.length:Int):=o1; omega
   rw [show paD p=.tuple [.tuple [.str p.1.1,.int p.1.2],dq p.2] from rfl,ea];trivial;refine ⟨by decide +kernel,by decide +kernel,ite2 (fun h=>absurd h (by decide +kernel)) (fun _=>⟨by decide +kernel,by decide +kernel,ite2 (fun h=>absurd h (by decide +kernel)) (fun _=>⟨by decide +kernel,by decide +kernel,ite2 (fun h=>absurd h (by decide +kernel)) (fun _=>?_)⟩)⟩)⟩;refine C1 eh ?_;trivial;refine ⟨by decide,(kd,(ho:Int),hm),p.2,is,os,ho,F ho,G ho,rfl,rfl,rfl,hk,rfl,atI lo1,atO lo1,sq,sI ho,sO ho,fun e=>?_,fun e=>?_,fun e=>?_⟩
   ·have e:kd="from":=e;rcases V with ⟨_,V⟩ | ⟨z,_⟩ | ⟨z,_⟩
    ·rw [V.h,V.l] at iI;rw [V.t,V.l] at iO;exact ⟨_,_,_,_,_,_,_,_,rfl,by rw [hI]; exact U0 fun v hv=>by rw [iI v,if_neg (by decide),dl_m rfl]; rfl,by rw [hO]; exact U1 fun v hv=>by rw [iO v,if_neg (by decide),A1p hv]; grind⟩
    ·exact absurd (e.symm.trans z) w_ft
    ·exact absurd (z.symm.trans e) w_bf
   ·have e:kd="till":=e;rcases V with ⟨z,_⟩ | ⟨_,V⟩ | ⟨z,_⟩
    ·exact absurd (z.symm.trans e) w_ft
    ·rw [V.h,V.t,V.l] at iI;rw [V.t,V.l] at iO;refine ⟨_,_,_,_,_,_,_,_,rfl,?_,by rw [hO]; exact U1 fun v hv=>by rw [iO v,if_pos rfl]; grind⟩;rw [hI,show F ho - p.2=F ho + (-p.2) by grind];refine U0 fun v hv=>?_;rw [iI v,if_pos rfl,A1p hv];show F v + p.2 * (0 - dl ho v)=_;unfold dl;split <;> grind
    ·exact absurd (z.symm.trans e) w_bt
   ·have e:kd="by":=e;rcases V with ⟨z,_⟩ | ⟨z,_⟩ | ⟨_,V⟩
    ·exact absurd (e.symm.trans z) w_bf
    ·exact absurd (e.symm.trans z) w_bt
    ·rw [V.h,V.l] at iI;rw [V.t,V.l] at iO;exact ⟨_,_,_,_,_,_,_,_,rfl,by rw [hI]; exact U1 fun v hv=>by rw [iI v,if_neg (by decide),A1p hv]; grind,by rw [hO]; exact U0 fun v hv=>by rw [iO v,if_neg (by decide),A4y]; rfl⟩
 rintro e ⟨is,os,o6,o7,o8,o9,o10,o11,rfl,rfl,rfl⟩;rw [List.take_length];subst hR;trivial;exact k
def A01:Pu.PSp:=fun as Q=>∃ (xs:List Wk) (ws:LW) (hs:LH) (gs:LP) (pa:List ((Str × Int) × Rat)),as=[.d (netD xs ws hs gs),.d (.list (pa.map paD))]/\NP xs.length ws hs/\PB xs.length (vsO ws) (usO hs) pa/\Q (.d (.list (((List.range xs.length).map (FI xs.length (vsO ws) (usO hs) pa)).map dq)))
theorem A09 (T:Txt K mg D):FnOk P w K mg base CX0 6 D.a_a4 D.d_a4 ["net","paper"] (Pu.spOf K [.dat,.dat] A01):=by
 refine T.F_a4.ok sc_a4 (Pu.spOf.len rfl) (fun cdv A outer s H vs Q E hr h=>?_);refine ⟨_,(QSs.out (A5 (F9 (A7 (A0a (K:=K) T) hr.mo rfl T.m_a3 T.F_a3.kp (A13 T) .nil C0 (A0 (qpv 0) (A0 (qpv 1) A3))))
   (A5 (F4 (A7 (A5p (K:=K) T) hr.mo rfl T.m_ae T.F_ae.kp (B1e T) .nil C0 (A0 (qpv 0) (A0 (qpv 1) A3))) (D0 (K:=K) (n:=2) rfl rfl (B7 (B3 (i:=2) sc_a4.nd rfl (Or.inl rfl) (Or.inl rfl)) (B7 (B3 (i:=3) sc_a4.nd rfl (Or.inl rfl) (Or.inl rfl)) C9)) rfl rfl))
   (A5 (F0 PassesOwn.never rfl (A0v (K:=K) rfl rfl T.z_enumerate (A0 (qpv 2) A3)) (D0 (K:=K) (n:=2) rfl rfl (B7 (B3 (i:=4) sc_a4.nd rfl (Or.inl rfl) (Or.inl rfl)) (B7 (B3 (i:=5) sc_a4.nd rfl (Or.inl rfl) (Or.inl rfl)) C9)) rfl rfl)
    (A9 (D9 (QW.pt (A0u (E9 (A7 (Q5 (K:=K) T) hr.mo rfl T.m_bd T.F_bd.kp (T6 T) .nil C0 (A0 (qpv 5) (A0 (O5 (v:=.ref D.k_NOUGHT) rfl T.c_NOUGHT rfl) A3)))) (U2 (C6 (P6 (K:=K) rfl hr.units) (qpv 5) (B2 (A8 (K:=K) rfl) (qpv 3) (qpv 4) (fun _ _=>rfl)) (D4 _)))))
     (A9 U4)
     D1)))
   (A9 (C4 (qpv 2))))))),?_⟩
 haveI:=T.c2_NOUGHT
 refine Pu.G3 h ?_;rintro as Qp ⟨xs,ws,hs,gs,pa,rfl,np,pb,k⟩;have n1:=np.n1;have pl:=pb.ln;refine hd fun R hR=>?_;trivial;refine ⟨xs,ws,hs,gs,pa,rfl,fun p hp=>?_,pb.nd,by omega,?_⟩
 ·obtain ⟨h1,h2,h3⟩:=pb.ar p hp;rw [List.length_map,List.length_map] at h1;exact ⟨h1,onL h2 (by decide),h3⟩
 trivial;subst hR;refine hd fun R hR=>?_;trivial;refine ⟨xs,ws,hs,gs,pa,rfl,np,pb,?_⟩;trivial;subst hR;refine hd fun R hR=>?_;trivial;have sI:∀ v,SmQ 3900 (FI xs.length (vsO ws) (usO hs) pa v):=fun v=>onL ((A6p (b:=51) (fun p hp=>(pb.ar p hp).2.1) fun a=>(B2u a v).1).mono (show _<=2 ^ 57 from Nat.le_trans (Nat.mul_le_mul_right _ (show _<=64 by omega)) (by decide))) (by decide);refine A4v (f:=dq) (xs:=(List.range xs.length).map (FI xs.length (vsO ws) (usO hs) pa)) (fun i e=>∃ o4 o5:Option SV,e=[some (.d (netD xs ws hs gs)),some (.d (.list (pa.map paD))),some (.d (.list (((List.range xs.length).map (FI xs.length (vsO ws) (usO hs) pa)).map dq))),some (.d (.list (((List.range xs.length).map (FO xs.length (vsO ws) (usO hs) pa)).map dq))),o4,o5]) ⟨_,_,rfl⟩ ?_ ?_
 ·rintro i x e hx ⟨o4,o5,rfl⟩;have hil:i < xs.length:=by have:=(List.getElem?_eq_some_iff.mp hx).1; rwa [List.length_map,List.length_range] at this
  have ex:x=FI xs.length (vsO ws) (usO hs) pa i:=by rw [A5d hil] at hx; exact (Option.some.inj hx).symm
  have e2:=pb.eq hil;have nn:¬ x < 0:=by rw [ex,e2]; exact Rat.not_lt.mpr pb.nn
  trivial;refine ⟨x,0,rfl,by rw [ex]; exact sI i,smq0,?_⟩;rw [decide_eq_false nn];trivial;refine C1 (f:=dq) (n:=i) (A5d hil) ?_;rw [<- e2,<- ex];trivial;exact ⟨_,_,rfl⟩
 rintro e ⟨o4,o5,rfl⟩;subst hR;trivial;exact k
def A62:Pu.PSp:=fun as Q=>∃ (n v u:Nat) (pa:List ((Str × Int) × Rat)),as=[.d (.list (pa.map paD))]/\pa.length<=48/\(∀ p ∈ pa,ArOk n v u p.1/\On LL (2 ^ 51) p.2)/\Q (.d (dq (sA pa rtA)))
theorem A8e (T:Txt K mg D):FnOk P w K mg base CX0 4 D.a_be D.d_be ["paper"] (Pu.spOf K [.dat] A62):=by
 refine T.F_be.ok sc_be (Pu.spOf.len rfl) (fun cdv A outer s H vs Q E hr h=>?_);refine ⟨_,(QSs.out (A9 (C4 (A7 (Z8 (K:=K) T) hr.mo rfl T.m_c8 T.F_c8.kp (A21 T) .nil C0 (A0 (O6 rfl (F3 (N':=["word","number","amount"]) (cap:=[none,none,none]) rfl rfl rfl rfl (by decide +kernel) rfl rfl) (F7 (K:=K) rfl (qpv 0)) (fun _ _ _=>(D0 (K:=K) (n:=2) rfl rfl (B7 (D0 (K:=K) (n:=2) rfl rfl (B7 (B3 (i:=0) (show (["word","number","amount"]:List Str).Nodup from by decide +kernel) rfl (Or.inl rfl) (Or.inr rfl)) (B7 (B3 (i:=1) (show (["word","number","amount"]:List Str).Nodup from by decide +kernel) rfl (Or.inl rfl) (Or.inr rfl)) C9)) rfl rfl) (B7 (B3 (i:=2) (show (["word","number","amount"]:List Str).Nodup from by decide +kernel) rfl (Or.inl rfl) (Or.inr rfl)) C9)) rfl rfl)) (fun _ _ _=>(T1 (C6 (F8 (K:=K) rfl hr.units) (qpv 0) D3 (D4 _)))) (fun _ _ _=>(qpv 2))) A3))))),?_⟩
 haveI:=T.c2_NOUGHT
 refine Pu.G3 h ?_;rintro as Qp ⟨n,v,u,pa,rfl,pl,ar,k⟩;have el:∀ {pa:List ((Str × Int) × Rat)},(W4 pa).length<=pa.length:=fun {pa}=>by unfold W4; rw [List.length_map]; exact List.length_filter_le _ _
 have eo:∀ q ∈ W4 pa,On LL (2 ^ 51) q:=fun q hq=>by
  obtain ⟨p,hp,rfl⟩:=List.mem_map.mp hq;exact (ar p (List.mem_filter.mp hp).1).2
 trivial;refine ⟨by omega,M2 (f:=paD) (xs:=pa) (fun i e ys=>∃ o1 o2 o3:Option SV,e=[o1,o2,o3]/\ys=(W4 (pa.take i)).map dq) ⟨_,_,_,rfl,rfl⟩ ?_ ?_⟩
 ·rintro i p e ys hi ⟨o1,o2,o3,rfl,rfl⟩;obtain ⟨h1,h2⟩:=ar p (List.mem_of_getElem? hi);rw [show paD p=.tuple [.tuple [.str p.1.1,.int p.1.2],dq p.2] from rfl];trivial;refine ⟨h1.wl,by decide +kernel,ite2 (fun z=>?_) (fun z=>?_)⟩
  ·rw [L5] at z;exact ⟨_,_,_,rfl,by rw [A1o hi,if_pos (of_decide_eq_true z),List.map_append]; rfl⟩
  ·exact ⟨_,_,_,rfl,by rw [A1o hi,if_neg (fun e=>z (by rw [L5]; exact decide_eq_true e)),List.append_nil]⟩
 rintro e ys ⟨o1,o2,o3,rfl,rfl⟩;rw [List.take_length];trivial;refine ⟨W4 pa,rfl,fun i=>?_,fun q hq=>onL (eo q hq) (by decide),?_⟩
 ·have:=el (pa:=pa);exact onL ((S_on E5 fun q hq=>eo q (List.mem_of_mem_take hq)).mono (show _<=2 ^ 57 from Nat.le_trans (Nat.mul_le_mul_right _ (show _<=64 by rw [List.length_take]; omega)) (by decide))) (by decide)
 ·rw [B5r]; exact k
def A2g:Pu.PSp:=fun as Q=>∃ (xs:List Wk) (ws:LW) (hs:LH) (gs:LP) (pa:List ((Str × Int) × Rat)),as=[.d (netD xs ws hs gs),.d (.list (pa.map paD))]/\NP xs.length ws hs/\pa.length<=48/\(∀ p ∈ pa,ArOk xs.length (vsO ws).length (usO hs).length p.1/\On LL (2 ^ 51) p.2)/\Q (.d (dq (sA pa (wtA ws hs))))
theorem A2o (T:Txt K mg D):FnOk P w K mg base CX0 4 D.a_aa D.d_aa ["net","paper"] (Pu.spOf K [.dat,.dat] A2g):=by
 refine T.F_aa.ok sc_aa (Pu.spOf.len rfl) (fun cdv A outer s H vs Q E hr h=>?_);refine ⟨_,(QSs.out (A5 (P4 (i:=2) (j:=3) rfl sc_aa.nd rfl rfl (by decide) rfl rfl (A0 (B2 (A8 (K:=K) rfl) (qpv 0) A4 (fun _ _=>rfl)) (A0 (B2 (A8 (K:=K) rfl) (qpv 0) A4 (fun _ _=>rfl)) A3)) rfl)
   (A5 (B8 (i:=4) sc_aa.nd rfl (Or.inl rfl) (O5 (v:=.ref D.k_NOUGHT) rfl T.c_NOUGHT rfl))
   (A5 (F0 PassesOwn.never rfl (F7 (K:=K) rfl (qpv 1)) (D0 (K:=K) (n:=2) rfl rfl (B7 (D0 (K:=K) (n:=2) rfl rfl (B7 (B3 (i:=5) sc_aa.nd rfl (Or.inl rfl) (Or.inl rfl)) (B7 (B3 (i:=6) sc_aa.nd rfl (Or.inl rfl) (Or.inl rfl)) C9)) rfl rfl) (B7 (B3 (i:=7) sc_aa.nd rfl (Or.inl rfl) (Or.inl rfl)) C9)) rfl rfl)
    (A9 (D9 (C6 (F8 (K:=K) rfl hr.units) (qpv 5) D3 (D4 _))
     (A9 (B8 (i:=4) sc_aa.nd rfl (Or.inl rfl) (A7 (K3 (K:=K) T) hr.mo rfl T.m_cc T.F_cc.kp (N1 T) .nil C0 (A0 (qpv 4) (A0 (A7 (L7 (K:=K) T) hr.mo rfl T.m_b1 T.F_b1.kp (N0 T) .nil C0 (A0 (qpv 7) (A0 (B2 (A8 (K:=K) rfl) (B2 (A8 (K:=K) rfl) (qpv 2) (qpv 6) (fun _ _=>rfl)) A4 (fun _ _=>rfl)) A3))) A3)))))
     (A9 (D9 (C6 (F8 (K:=K) rfl hr.units) (qpv 5) D3 (D4 _))
      (A5 (F4 (B2 (A8 (K:=K) rfl) (qpv 3) (qpv 6) (fun _ _=>rfl)) (D0 (K:=K) (n:=3) rfl rfl (B7 (B3 (i:=8) sc_aa.nd rfl (Or.inl rfl) (Or.inl rfl)) (B7 (B3 (i:=9) sc_aa.nd rfl (Or.inl rfl) (Or.inl rfl)) (B7 (B3 (i:=10) sc_aa.nd rfl (Or.inl rfl) (Or.inl rfl)) C9))) rfl rfl))
      (A5 (B8 (i:=11) sc_aa.nd rfl (Or.inl rfl) (A7 (L7 (K:=K) T) hr.mo rfl T.m_b1 T.F_b1.kp (N0 T) .nil C0 (A0 (qpv 7) (A0 (qpv 10) A3))))
      (A9 (B8 (i:=4) sc_aa.nd rfl (Or.inl rfl) (A0w (C6 (F8 (K:=K) rfl hr.units) (qpv 8) D3 (D4 _)) (A7 (K3 (K:=K) T) hr.mo rfl T.m_cc T.F_cc.kp (N1 T) .nil C0 (A0 (qpv 4) (A0 (qpv 11) A3))) (A7 (Z9 (K:=K) T) hr.mo rfl T.m_c7 T.F_c7.kp (A22 T) .nil C0 (A0 (qpv 4) (A0 (qpv 11) A3))))))))
      D1)))))
   (A9 (C4 (qpv 4))))))),?_⟩
 haveI:=T.c2_NOUGHT
 refine Pu.G3 h ?_;rintro as Qp ⟨xs,ws,hs,gs,pa,rfl,np,pl,ar,k⟩;unfold netD;refine hd fun R hR=>?_;trivial;subst hR;refine hd fun R hR=>?_;trivial;subst hR;refine hd fun R hR=>?_;trivial;have B5:0 < LL * (LL * 4):=by decide
 have B6:LL * (LL * 4)<=2 ^ 1000:=G2 (a:=200) (by decide +kernel) (by decide);have sA':∀ {i:Nat} {A:Rat},i<=64->On (LL * (LL * 4)) (i * 2 ^ 109) A->SmQ 3900 A:=fun hi h=>onQ h B5 B6 (Nat.le_trans (Nat.mul_le_mul_right _ hi) (by decide));have up:∀ {i:Nat} {A x:Rat},On (LL * (LL * 4)) (i * 2 ^ 109) A->On (LL * (LL * 4)) (2 ^ 109) x->On (LL * (LL * 4)) ((i + 1) * 2 ^ 109) (A + x):=fun h g=>(h.add B5 g).mono (by rw [Nat.add_mul,Nat.one_mul]; exact Nat.le_refl _);refine K2 (f:=paD) (xs:=pa) (fun i e=>∃ (A:Rat) (o5 o6 o7 o8 o9 o10 o11:Option SV),e=[some (.d (.tuple [.list (xs.map kD),.list (ws.map wD),.list (hs.map hD),.list gs])),some (.d (.list (pa.map paD))),some (.d (.list (ws.map wD))),some (.d (.list (hs.map hD))),some (.d (dq A)),o5,o6,o7,o8,o9,o10,o11]/\A=sA (pa.take i) (wtA ws hs)/\On (LL * (LL * 4)) (i * 2 ^ 109) A) ⟨0,_,_,_,_,_,_,_,rfl,rfl,On.zero.mono (Nat.zero_le _)⟩ ?_ ?_
 ·rintro i p e hi ⟨A,o5,o6,o7,o8,o9,o10,o11,rfl,eA,oA⟩;have hil:=(List.getElem?_eq_some_iff.mp hi).1;obtain ⟨h1,h2⟩:=ar p (List.mem_of_getElem? hi);have sq:SmQ 3900 p.2:=onL h2 (by decide);have tk:=A2b (f:=wtA ws hs) hi;rw [<- eA] at tk;have oA1:On (LL * (LL * 4)) ((i + 1) * 2 ^ 109) A:=oA.mono (Nat.mul_le_mul_right _ (by omega));have pr:∀ {x:Rat},O4 x->On (LL * (LL * 4)) (2 ^ 109) (p.2 * x):=fun h=>(On.mul h2 h).mono (by decide);rw [show paD p=.tuple [.tuple [.str p.1.1,.int p.1.2],dq p.2] from rfl];rcases Q8 (ws:=ws) (hs:=hs) h1 rfl rfl (fun h hh=>(np.h h hh).1) with ⟨m,ea,hm,V⟩ | ⟨m,ea,hm,V⟩ | ⟨m,w,ea,ew,V⟩ | ⟨m,h,ea,eh,V⟩
  ·rw [V.wt] at tk;rw [ea];trivial;refine ⟨by decide +kernel,by decide +kernel,ite2 (fun h=>absurd h (by decide +kernel)) (fun _=>⟨by decide +kernel,by decide +kernel,ite2 (fun h=>absurd h (by decide +kernel)) (fun _=>?_)⟩)⟩;exact ⟨A,_,_,_,_,_,_,_,rfl,by rw [tk]; grind,oA1⟩
  ·rw [V.wt] at tk;rw [ea];trivial;refine ⟨by decide +kernel,by decide +kernel,ite2 (fun h=>absurd h (by decide +kernel)) (fun _=>⟨by decide +kernel,by decide +kernel,ite2 (fun h=>absurd h (by decide +kernel)) (fun _=>?_)⟩)⟩;exact ⟨A,_,_,_,_,_,_,_,rfl,by rw [tk]; grind,oA1⟩
  ·rw [V.wt] at tk;have ow:=(np.w w (List.mem_of_getElem? ew)).2.2;rw [ea];trivial;refine ⟨by decide +kernel,by decide +kernel,?_⟩;refine C1 ew ?_;rw [show wD w=PyData.tuple [.int w.1,.int w.2.1,dq w.2.2] from rfl];trivial;refine ⟨_,_,rfl,sq,ow.q,?_⟩;trivial;refine ⟨_,_,rfl,sA' (by omega) oA,onQ (pr ow) B5 B6 (by decide),?_⟩;trivial;exact ⟨_,_,_,_,_,_,_,_,rfl,tk.symm,up oA (pr ow)⟩
  ·have oh:=(np.h h (List.mem_of_getElem? eh)).2.2;have hk:h.1="from"\/h.1="till"\/h.1="by":=(np.h h (List.mem_of_getElem? eh)).1;rw [ea];trivial;refine ⟨by decide +kernel,by decide +kernel,ite2 (fun h=>absurd h (by decide +kernel)) (fun _=>⟨by decide +kernel,by decide +kernel,?_⟩)⟩;refine C1 eh ?_;rw [show hD h=PyData.tuple [.str h.1,.int h.2.1,dq h.2.2] from rfl];trivial;refine ⟨_,_,rfl,sq,oh.q,?_⟩;trivial;refine ⟨Hk.lay hk,by decide +kernel,ite2 (fun z=>?_) (fun z=>?_)⟩
   ·have e:h.1="from":=by rw [L5] at z; exact of_decide_eq_true z
    refine ⟨_,_,rfl,sA' (by omega) oA,onQ (pr oh) B5 B6 (by decide),?_⟩;trivial;rcases V with ⟨_,V⟩ | ⟨y,_⟩ | ⟨y,_⟩
    ·rw [V.wt] at tk;exact ⟨_,_,_,_,_,_,_,_,rfl,tk.symm,up oA (pr oh)⟩
    ·exact absurd (e.symm.trans y) w_ft
    ·exact absurd (y.symm.trans e) w_bf
   ·have ne:h.1≠"from":=fun e=>z (by rw [L5]; exact decide_eq_true e);refine ⟨_,_,rfl,sA' (by omega) oA,onQ (pr oh) B5 B6 (by decide),?_⟩;trivial;have ew:wtA ws hs p.1=0 - h.2.2:=by
     rcases V with ⟨y,_⟩ | ⟨_,V⟩ | ⟨_,V⟩
     ·exact absurd y ne
     ·exact V.wt
     ·exact V.wt
    rw [ew] at tk;refine ⟨_,_,_,_,_,_,_,_,rfl,?_,(oA.sub B5 (pr oh)).mono (by rw [Nat.add_mul,Nat.one_mul]; exact Nat.le_refl _)⟩;rw [tk]; grind
 rintro e ⟨A,o5,o6,o7,o8,o9,o10,o11,rfl,eA,oA⟩;rw [List.take_length] at eA;subst hR;trivial;rw [eA]; exact k
def A2h:Pu.PSp:=fun as Q=>∃ (xs:List Wk) (ws:LW) (hs:LH) (gs:LP) (pa:List ((Str × Int) × Rat)),as=[.d (netD xs ws hs gs),.d (.list (pa.map paD))]/\NP xs.length ws hs/\PB xs.length (vsO ws) (usO hs) pa/\(∀ x ∈ xs,1<=x.2.2.length/\x.2.2.length<=100/\OnC x.2.2)/\∀ P R L,P=sA pa (wtA ws hs) + sumV (lsV xs (FI xs.length (vsO ws) (usO hs) pa)) xs.length->R=sA pa rtA->L=sA pa (wtA ws hs) + sumV (fun v=>FI xs.length (vsO ws) (usO hs) pa v * quV xs v) xs.length->On B5 (2 ^ 120) P->On LL (2 ^ 57) R->On B5 (2 ^ 120) L->Q (.d (.tuple [dq P,dq R,dq L]))
theorem P7 (T:Txt K mg D):FnOk P w K mg base CX0 7 D.a_a9 D.d_a9 ["net","paper"] (Pu.spOf K [.dat,.dat] A2h):=by
 refine T.F_a9.ok sc_a9 (Pu.spOf.len rfl) (fun cdv A outer s H vs Q E hr h=>?_);refine ⟨_,(QSs.out (A5 (B8 (i:=2) sc_a9.nd rfl (Or.inl rfl) (A7 (A09 (K:=K) T) hr.mo rfl T.m_a4 T.F_a4.kp (A25 T) .nil C0 (A0 (qpv 0) (A0 (qpv 1) A3))))
   (A5 (G0 (i:=3) rfl sc_a9.nd rfl rfl (F3 (N':=["name","offer"]) (cap:=[none,none]) rfl rfl rfl rfl (by decide +kernel) rfl rfl) (F7 (K:=K) rfl (B2 (A8 (K:=K) rfl) (qpv 0) A4 (fun _ _=>rfl))) (fun _ _ _=>(D0 (K:=K) (n:=2) rfl rfl (B7 (B3 (i:=0) (show (["name","offer"]:List Str).Nodup from by decide +kernel) rfl (Or.inl rfl) (Or.inr rfl)) (B7 (B3 (i:=1) (show (["name","offer"]:List Str).Nodup from by decide +kernel) rfl (Or.inl rfl) (Or.inr rfl)) C9)) rfl rfl)) (fun _ _ _=>J1) (fun _ _ _=>(qpv 1)) rfl)
   (A5 (B8 (i:=4) sc_a9.nd rfl (Or.inl rfl) (A7 (A2o (K:=K) T) hr.mo rfl T.m_aa T.F_aa.kp (A5x T) .nil C0 (A0 (qpv 0) (A0 (qpv 1) A3))))
   (A5 (G0 (i:=5) rfl sc_a9.nd rfl rfl (F3 (N':=["offer","amount"]) (cap:=[none,none]) rfl rfl rfl rfl (by decide +kernel) rfl rfl) (A3l (K:=K) rfl rfl T.z_zip (A0 (qpv 3) (A0 (qpv 2) A3))) (fun _ _ _=>(D0 (K:=K) (n:=2) rfl rfl (B7 (B3 (i:=0) (show (["offer","amount"]:List Str).Nodup from by decide +kernel) rfl (Or.inl rfl) (Or.inr rfl)) (B7 (B3 (i:=1) (show (["offer","amount"]:List Str).Nodup from by decide +kernel) rfl (Or.inl rfl) (Or.inr rfl)) C9)) rfl rfl)) (fun _ _ _=>J1) (fun _ _ _=>(A7 (A07 (K:=K) T) hr.mo rfl T.m_a7 T.F_a7.kp (A23 T) .nil C0 (A0 (qpv 0) (A0 (qpv 1) A3)))) rfl)
   (A5 (G0 (i:=6) rfl sc_a9.nd rfl rfl (F3 (N':=["offer","amount"]) (cap:=[none,none]) rfl rfl rfl rfl (by decide +kernel) rfl rfl) (A3l (K:=K) rfl rfl T.z_zip (A0 (qpv 3) (A0 (qpv 2) A3))) (fun _ _ _=>(D0 (K:=K) (n:=2) rfl rfl (B7 (B3 (i:=0) (show (["offer","amount"]:List Str).Nodup from by decide +kernel) rfl (Or.inl rfl) (Or.inr rfl)) (B7 (B3 (i:=1) (show (["offer","amount"]:List Str).Nodup from by decide +kernel) rfl (Or.inl rfl) (Or.inr rfl)) C9)) rfl rfl)) (fun _ _ _=>J1) (fun _ _ _=>(A7 (L7 (K:=K) T) hr.mo rfl T.m_b1 T.F_b1.kp (N0 T) .nil C0 (A0 (qpv 1) (A0 (B2 (A8 (K:=K) rfl) (B2 (A8 (K:=K) rfl) (B2 (A8 (K:=K) rfl) (qpv 0) A4 (fun _ _=>rfl)) (A6t A54 A4) (fun _ _=>rfl)) A4 (fun _ _=>rfl)) A3)))) rfl)
   (A9 (C4 (C7 (A0 (A7 (K3 (K:=K) T) hr.mo rfl T.m_cc T.F_cc.kp (N1 T) .nil C0 (A0 (qpv 4) (A0 (A7 (Z8 (K:=K) T) hr.mo rfl T.m_c8 T.F_c8.kp (A21 T) .nil C0 (A0 (qpv 5) A3)) A3))) (A0 (A7 (A8e (K:=K) T) hr.mo rfl T.m_be T.F_be.kp (B26 T) .nil C0 (A0 (qpv 1) A3)) (A0 (A7 (K3 (K:=K) T) hr.mo rfl T.m_cc T.F_cc.kp (N1 T) .nil C0 (A0 (qpv 4) (A0 (A7 (Z8 (K:=K) T) hr.mo rfl T.m_c8 T.F_c8.kp (A21 T) .nil C0 (A0 (qpv 6) A3)) A3))) A3)))))))))))),?_⟩
 haveI:=T.c2_NOUGHT
 refine Pu.G3 h ?_;rintro as Qp ⟨xs,ws,hs,gs,pa,rfl,np,pb,of,k⟩;have n1:=np.n1;refine hd fun R hR=>?_;trivial;refine ⟨xs,ws,hs,gs,pa,rfl,np,pb,?_⟩;trivial;subst hR;refine hd fun R hR=>?_;unfold netD;trivial;refine ⟨by omega,M2 (f:=kD) (xs:=xs) (fun i e ys=>∃ o1 o2:Option SV,e=[o1,o2]/\ys=(xs.take i).map fun x=>offD x.2.1 x.2.2) ⟨_,_,rfl,rfl⟩ ?_ ?_⟩
 ·rintro i x e ys hi ⟨o1,o2,rfl,rfl⟩;rw [show kD x=PyData.tuple [.str x.1,offD x.2.1 x.2.2] from rfl];trivial;exact ⟨_,_,rfl,by rw [List.take_add_one,hi,List.map_append]; rfl⟩
 rintro e ys ⟨o1,o2,rfl,rfl⟩;rw [List.take_length];trivial;subst hR;refine hd fun R hR=>?_;trivial;refine ⟨xs,ws,hs,gs,pa,rfl,np,pb.ln,fun p hp=>⟨(pb.ar p hp).1,(pb.ar p hp).2.1⟩,?_⟩;trivial;subst hR;refine hd fun R hR=>?_;trivial;obtain ⟨F,hF⟩:∃ F,F=FI xs.length (vsO ws) (usO hs) pa:=⟨_,rfl⟩;have pl:=pb.ln;have oF:∀ v,On LL (2 ^ 57) (F v):=fun v=>by rw [hF]; exact (A6p (b:=51) (fun p hp=>(pb.ar p hp).2.1) fun a=>(B2u a v).1).mono (show _<=2 ^ 57 from Nat.le_trans (Nat.mul_le_mul_right _ (show _<=64 by omega)) (by decide))
 rw [<- hF] at k ⊢;refine ⟨by rw [S7]; simp; omega,A44 (f:=fun x:Wk=>offD x.2.1 x.2.2) (g:=dq) (xs:=xs) (zs:=(List.range xs.length).map F) (fun i e ys=>∃ o1 o2:Option SV,e=[o1,o2]/\ys=((List.range i).map (lsV xs F)).map dq) ⟨_,_,rfl,rfl⟩ ?_ ?_⟩
 ·rintro i x b e ys hx hb ⟨o1,o2,rfl,rfl⟩;have hil:=(List.getElem?_eq_some_iff.mp hx).1;have eb:b=F i:=by rw [A5d hil] at hb; exact (Option.some.inj hb).symm
  subst eb;obtain ⟨l1,l2,oc⟩:=of x (List.mem_of_getElem? hx);obtain ⟨c0,e0⟩:∃ c,x.2.2[0]?=some c:=⟨_,List.getElem?_eq_getElem (by omega)⟩;trivial;refine ⟨x.2.1,x.2.2,F i,c0,rfl,by omega,oc,(oF i).p2 (by decide),e0,?_⟩;trivial;refine ⟨_,_,rfl,?_⟩;rw [List.range_succ,List.map_append,List.map_append];congr 1
  show [dq _]=[dq (lsV xs F i)];unfold lsV;rw [hx];show _=[dq (lm (x.2.2.map (val (F i))) (val (F i) ((x.2.2[0]?).getD (0,0))))];rw [e0]; rfl
 rintro e ys ⟨o1,o2,rfl,rfl⟩;rw [List.length_map,List.length_range,Nat.min_self];trivial;subst hR;refine hd fun R hR=>?_;trivial;refine ⟨by rw [S7]; simp; omega,A44 (f:=fun x:Wk=>offD x.2.1 x.2.2) (g:=dq) (xs:=xs) (zs:=(List.range xs.length).map F) (fun i e ys=>∃ o1 o2:Option SV,e=[o1,o2]/\ys=((List.range i).map fun v=>F v * quV xs v).map dq) ⟨_,_,rfl,rfl⟩ ?_ ?_⟩
 ·rintro i x b e ys hx hb ⟨o1,o2,rfl,rfl⟩;have hil:=(List.getElem?_eq_some_iff.mp hx).1;have eb:b=F i:=by rw [A5d hil] at hb; exact (Option.some.inj hb).symm
  subst eb;obtain ⟨l1,l2,oc⟩:=of x (List.mem_of_getElem? hx);obtain ⟨c,ec⟩:∃ c,x.2.2.getLast?=some c:=⟨_,List.getLast?_eq_some_getLast (by intro z; rw [z] at l1; simp at l1)⟩;have ecm:c ∈ x.2.2:=List.mem_of_getLast? ec;rw [show offD x.2.1 x.2.2=.tuple [.str x.2.1,.list (x.2.2.map dcn)] from rfl];trivial;refine A06 (by rw [<- List.getLast?_eq_getElem?]; exact ec) l1 ?_;trivial;refine ⟨_,_,rfl,onL (oF i) (by decide),onL (oc c ecm).1 (by decide),?_⟩;trivial;refine ⟨_,_,rfl,?_⟩;rw [List.range_succ,List.map_append,List.map_append];congr 1
  show [dq _]=[dq (F i * quV xs i)];unfold quV;rw [hx];show _=[dq (F i * ((x.2.2.getLast?).getD (0,0)).1)];rw [ec]; rfl
 rintro e ys ⟨o1,o2,rfl,rfl⟩;rw [List.length_map,List.length_range,Nat.min_self];trivial;subst hR;have B50:0 < B5:=by decide
 have B51:B5<=2 ^ 1000:=G2 (a:=200) (by decide +kernel) (by decide);have sums:∀ {f:Nat->Rat},(∀ v,v < xs.length->On B5 (2 ^ 103) (f v))->(∀ i,On B5 (2 ^ 107) (My.S (((List.range xs.length).map f).take i)))/\∀ q ∈ (List.range xs.length).map f,On B5 (2 ^ 103) q:=fun {f} hf=>by
  have all:∀ q ∈ (List.range xs.length).map f,On B5 (2 ^ 103) q:=fun q hq=>by
   obtain ⟨v,hv,rfl⟩:=List.mem_map.mp hq;exact hf v (List.mem_range.mp hv)
  exact ⟨fun i=>(S_on B50 fun q hq=>all q (List.mem_of_mem_take hq)).mono (Nat.le_trans (Nat.mul_le_mul_right _ (show _<=16 by rw [List.length_take,List.length_map,List.length_range]; omega)) (by decide)),all⟩
 obtain ⟨a1,a2⟩:=sums (f:=lsV xs F) fun v hv=>(C1a hv of (oF v)).1;obtain ⟨b1,b2⟩:=sums (f:=fun v=>F v * quV xs v) fun v hv=>(C1a hv of (oF v)).2;have wo:=(B8r np (pa:=pa) fun p hp=>⟨(pb.ar p hp).1,(pb.ar p hp).2.1⟩).mono (show _<=2 ^ 115 from Nat.le_trans (Nat.mul_le_mul_right _ (show _<=64 by omega)) (by decide));have sB:∀ {a:Nat} {q:Rat},On B5 (2 ^ a) q->a<=1000->SmQ 3900 q:=fun h g=>onQ h B50 B51 (Nat.pow_le_pow_right (by decide) g);have A1:=a1 xs.length;have A2:=b1 xs.length;rw [List.take_of_length_le (by simp)] at A1 A2;trivial;refine ⟨(List.range xs.length).map (lsV xs F),rfl,fun i=>sB (a1 i) (by decide),fun q hq=>sB (a2 q hq) (by decide),?_⟩;trivial;refine ⟨_,_,rfl,sB wo (by decide),sB A1 (by decide),?_⟩;trivial;refine ⟨xs.length,(vsO ws).length,(usO hs).length,pa,rfl,pl,fun p hp=>⟨(pb.ar p hp).1,(pb.ar p hp).2.1⟩,?_⟩;trivial;refine ⟨(List.range xs.length).map (fun v=>F v * quV xs v),rfl,fun i=>sB (b1 i) (by decide),fun q hq=>sB (b2 q hq) (by decide),?_⟩;trivial;refine ⟨_,_,rfl,sB wo (by decide),sB A2 (by decide),?_⟩;trivial;exact k _ _ _ rfl rfl rfl ((wo.add B50 A1).mono (by decide)) ((A6p (b:=51) (fun p hp=>(pb.ar p hp).2.1) fun a=>by
  unfold rtA;split
  ·exact ⟨1,rfl,by decide⟩
  ·exact ⟨0,rfl,by decide⟩).mono (show _<=2 ^ 57 from Nat.le_trans (Nat.mul_le_mul_right _ (show _<=64 by omega)) (by decide))) ((wo.add B50 A2).mono (by decide))
def A5j:Pu.PSp:=fun as Q=>∃ (xs:List Wk) (ws:LW) (hs:LH) (gs:LP) (pa:List ((Str × Int) × Rat)) (W:Rat),as=[.d (netD xs ws hs gs),.d (.list (pa.map paD)),.d (dq W)]/\NP xs.length ws hs/\PB xs.length (vsO ws) (usO hs) pa/\(∀ x ∈ xs,1<=x.2.2.length/\x.2.2.length<=100/\OnC x.2.2)/\On (LL * 4) (2 ^ 72) W/\∀ C,C=sA pa (wtA ws hs) + sumV (lsV xs (FI xs.length (vsO ws) (usO hs) pa)) xs.length - sA pa rtA * W->On B5 (2 ^ 131) C->Q (.d (dq C))
theorem A5q (T:Txt K mg D):FnOk P w K mg base CX0 8 D.a_ad D.d_ad ["net","paper","whole"] (Pu.spOf K [.dat,.dat,.dat] A5j):=by
 refine T.F_ad.ok sc_ad (Pu.spOf.len rfl) (fun cdv A outer s H vs Q E hr h=>?_);refine ⟨_,(QSs.out (A5 (F4 (A7 (P7 (K:=K) T) hr.mo rfl T.m_a9 T.F_a9.kp (S2 T) .nil C0 (A0 (qpv 0) (A0 (qpv 1) A3))) (D0 (K:=K) (n:=3) rfl rfl (B7 (B3 (i:=3) sc_ad.nd rfl (Or.inl rfl) (Or.inl rfl)) (B7 (B3 (i:=4) sc_ad.nd rfl (Or.inl rfl) (Or.inl rfl)) (B7 (B3 (i:=5) sc_ad.nd rfl (Or.inl rfl) (Or.inl rfl)) C9))) rfl rfl))
   (A9 (C4 (A7 (Z9 (K:=K) T) hr.mo rfl T.m_c7 T.F_c7.kp (A22 T) .nil C0 (A0 (qpv 3) (A0 (A7 (L7 (K:=K) T) hr.mo rfl T.m_b1 T.F_b1.kp (N0 T) .nil C0 (A0 (qpv 4) (A0 (qpv 2) A3))) A3))))))),?_⟩
 haveI:=T.c2_NOUGHT
 refine Pu.G3 h ?_;rintro as Qp ⟨xs,ws,hs,gs,pa,W,rfl,np,pb,of,oW,k⟩;refine hd fun R hR=>?_;trivial;refine ⟨xs,ws,hs,gs,pa,rfl,np,pb,of,fun P R' L eP eR eL oP oR oL=>?_⟩;trivial;subst hR;trivial;have B50:0 < B5:=by decide
 have B51:B5<=2 ^ 1000:=G2 (a:=200) (by decide +kernel) (by decide);have om:On B5 (2 ^ 130) (R' * W):=by
  have:=On.mul oR oW;rw [<- Nat.mul_assoc] at this;exact this.mono (by decide)
 refine ⟨_,_,rfl,onL oR (by decide),onQ oW (by decide) (G2 A17 (by decide)) (Nat.pow_le_pow_right (by decide) (by decide)),?_⟩;trivial;refine ⟨_,_,rfl,onQ oP B50 B51 (Nat.pow_le_pow_right (by decide) (by decide)),onQ om B50 B51 (Nat.pow_le_pow_right (by decide) (by decide)),?_⟩;trivial;exact k _ (by rw [eP,eR]) ((oP.sub B50 om).mono (by decide))
def A2i:Pu.PSp:=fun as Q=>∃ (xs:List Wk) (ws:LW) (hs:LH) (gs:LP) (pa:List ((Str × Int) × Rat)) (W:Rat) (Bw:Nat),as=[.d (netD xs ws hs gs),.d (.list (pa.map paD)),.d (dq W)]/\NP xs.length ws hs/\PB xs.length (vsO ws) (usO hs) pa/\(∀ x ∈ xs,1<=x.2.2.length/\x.2.2.length<=100/\OnC x.2.2)/\0 < Bw/\Bw<=2 ^ 300/\On Bw (2 ^ 80) W/\Q (.d (.bool (decide (sA pa rtA * W < sA pa (wtA ws hs) + sumV (fun v=>FI xs.length (vsO ws) (usO hs) pa v * quV xs v) xs.length))))
theorem A0b (T:Txt K mg D):FnOk P w K mg base CX0 8 D.a_ca D.d_ca ["net","paper","whole"] (Pu.spOf K [.dat,.dat,.dat] A2i):=by
 refine T.F_ca.ok sc_ca (Pu.spOf.len rfl) (fun cdv A outer s H vs Q E hr h=>?_);refine ⟨_,(QSs.out (A5 (F4 (A7 (P7 (K:=K) T) hr.mo rfl T.m_a9 T.F_a9.kp (S2 T) .nil C0 (A0 (qpv 0) (A0 (qpv 1) A3))) (D0 (K:=K) (n:=3) rfl rfl (B7 (B3 (i:=3) sc_ca.nd rfl (Or.inl rfl) (Or.inl rfl)) (B7 (B3 (i:=4) sc_ca.nd rfl (Or.inl rfl) (Or.inl rfl)) (B7 (B3 (i:=5) sc_ca.nd rfl (Or.inl rfl) (Or.inl rfl)) C9))) rfl rfl))
   (A9 (C4 (A7 (Q5 (K:=K) T) hr.mo rfl T.m_bd T.F_bd.kp (T6 T) .nil C0 (A0 (A7 (L7 (K:=K) T) hr.mo rfl T.m_b1 T.F_b1.kp (N0 T) .nil C0 (A0 (qpv 4) (A0 (qpv 2) A3))) (A0 (qpv 5) A3))))))),?_⟩
 haveI:=T.c2_NOUGHT
 refine Pu.G3 h ?_;rintro as Qp ⟨xs,ws,hs,gs,pa,W,Bw,rfl,np,pb,of,bw0,bw1,oW,k⟩;refine hd fun R hR=>?_;trivial;refine ⟨xs,ws,hs,gs,pa,rfl,np,pb,of,fun P R' L eP eR eL oP oR oL=>?_⟩;trivial;subst hR;trivial;have B50:0 < B5:=by decide
 have B51:B5<=2 ^ 1000:=G2 (a:=200) (by decide +kernel) (by decide);have om:On (LL * Bw) (2 ^ 57 * 2 ^ 80) (R' * W):=On.mul oR oW;have bw2:LL * Bw<=2 ^ 1000:=Nat.le_trans (Nat.mul_le_mul (show LL<=2 ^ 100 by decide +kernel) bw1) (by rw [<- Nat.pow_add]; exact Nat.pow_le_pow_right (by decide) (by decide));refine ⟨_,_,rfl,onL oR (by decide),onQ oW bw0 (G2 bw1 (by decide)) (Nat.pow_le_pow_right (by decide) (by decide)),?_⟩;trivial;refine ⟨_,_,rfl,onQ om (Nat.mul_pos E5 bw0) bw2 (by rw [<- Nat.pow_add]; exact Nat.pow_le_pow_right (by decide) (by decide)),onQ oL B50 B51 (Nat.pow_le_pow_right (by decide) (by decide)),?_⟩;rw [eR,eL];exact k
theorem A5s (T:Txt K mg D):FnOk P w K mg base CX0 1 D.a_b3 D.d_b3 ["_law_script","_law_k"] (B3f K):=by
 refine T.F_b3.ok sc_b3 (fun vs H Q E h=>?_) (fun cdv A outer s H vs Q E hr h=>?_)
 ·obtain ⟨a,ns,k,rfl,_⟩:=h; rfl
 ·obtain ⟨a,ns,k,rfl,ha,k0,k1,kk⟩:=h;refine ⟨_,(K5 (X0 (i:=2) sc_b3.nd rfl (Or.inl rfl) F6)
   (K5 (B6v (A60 (P6 (K:=K) rfl hr.units) (pv 0) (A7e X2) (D4 _))
    (R3 (X0 (i:=2) sc_b3.nd rfl (Or.inl rfl) (Z6 (B2t (K:=K) rfl) (pv 0) (L9 P1 (pv 1) (A3t call_len_seq (by rfl) T.z_len PySem.boot_len (P5 (pv 0) X2))) (fun _ _=>rfl))))
    A2f)
   (R3 (A3p (A7e (P5 (pv 2) (P5 (L9 P1 (L9 G6 (L9 G6 (L9 P1 (pv 2) F6) (L9 E7 (L9 E7 F6 (pv 1)) (pv 1))) F6) F6) (P5 (Z7 C0s (pv 2) (L9 U6 F6 F6) (D4 _)) X2)))))))),?_⟩
  have fin:∀ (c:Int) (H:Hp),(∀ p H',H p=none->StAt H' p->Kp p H H'->Q (.ref p) H')->∃ v,([some (V.ref a),some (V.int k),some (V.int c)]:St)[2]?=some (some v) /\
    (N2 (tOp (rI (fun _ j=>0 < j) fun i j=>.int (i % j)) (tOp (rI0 fun i j=>.int (i + j)) (tOp (rI0 fun i j=>.int (i + j)) (tOp (rI (fun _ j=>0 < j) fun i j=>.int (i % j)) (tVar 2) (tC (.int 2147483587)))
     (tOp (rI B8p fun i j=>.int (i * j)) (tOp (rI B8p fun i j=>.int (i * j)) (tC (.int 104729)) (tVar 1)) (tVar 1))) (tC (.int 7))) (tC (.int 2147483587)))
     (N2 (tOp (rI0 fun i j=>.bl (decide (j<=i))) (tVar 2) (tOp (rI CPow fun i j=>.int (i ^ j.toNat)) (tC (.int 10)) (tC (.int 18)))) tNil)) [some (V.ref a),some (V.int k),some (V.int c)] H
     fun xs H1=>(v :: xs).length<=sizeLine/\∀ p,H1 p=none->Q (.ref p) (upd H1 p (.lst (v :: xs))):=by
   intro c H kk;refine ⟨_,rfl,_,rfl,_,_,rfl,rfl,(by show (0:Int) < 2147483587; decide),_,rfl,_,_,rfl,rfl,⟨W6 0,sm32 k0 (by omega)⟩,_,rfl,_,_,rfl,rfl,⟨(Sm.mul (k:=20) (l:=20) (by unfold Sm; decide) (by unfold Sm; omega)).mono (by decide),sm32 k0 (by omega)⟩,
    _,_,rfl,rfl,_,_,rfl,rfl,_,_,rfl,rfl,(by show (0:Int) < 2147483587; decide),_,rfl,_,_,rfl,rfl,V5 18,_,_,rfl,rfl,by show 3<=sizeLine; decide,fun p hp=>?_⟩
   have e1:=Int.emod_nonneg (c % 2147483587 + 104729 * k * k + 7) (show (2147483587:Int)≠0 by decide);have e2:=Int.emod_lt_of_pos (c % 2147483587 + 104729 * k * k + 7) (show (0:Int) < 2147483587 by decide);exact kk p _ hp ⟨_,_,_,D7,e1,by omega⟩ (Same.upd hp).kp
  refine ⟨_,rfl,Nat.zero_le _,fun p hp=>?_⟩;have sm:=Same.upd (H:=H) (o:=.lst []) hp;have ha':SqL K (upd H p (.lst [])) a (ns.map V.int):=Pu.B1p sm ha;have kk':∀ q H',(upd H p (.lst [])) q=none->StAt H' q->Kp q (upd H p (.lst [])) H'->Q (.ref q) H':=fun q H' hq hs kp=>kk q H' (by
   by_cases z:q=p
   ·rw [z]; exact hp
   ·rw [D8 z] at hq; exact hq) hs (fun b o nb e=>kp b o nb (sm b o e))
  refine ⟨.list (ns.map .int),.list [],.lst ha' (A43 ns),.lst (.inl (.inl D7)) .nil,T4 ns,rfl,A1q ns,_,rfl,?_⟩;rw [A4w];cases ns with
  | nil=>exact fin 0 _ kk'
  | cons c r =>
   obtain ⟨m,hm,hml⟩:∃ m:Nat,k % (((c :: r).map V.int).length:Int)=(m:Int)/\m < ((c :: r).map V.int).length:=by
    have h0:(0:Int) < (((c :: r).map V.int).length:Int):=by first | (simp; done) | (simp; omega)
    have h1:=Int.emod_nonneg k (Int.ne_of_gt h0);have h2:=Int.emod_lt_of_pos k h0;exact ⟨(k % (((c :: r).map V.int).length:Int)).toNat,by omega,by omega⟩
   obtain ⟨z,hz⟩:∃ z,((c :: r).map V.int)[m]?=some (V.int z):=by
    have:m < (c :: r).length:=by simpa using hml
    exact ⟨(c :: r)[m],by rw [List.getElem?_map,List.getElem?_eq_getElem this]; rfl⟩
   refine ⟨_,rfl,_,rfl,_,rfl,a,_,rfl,.inl ha',k,_,rfl,rfl,(by first | (simp; done) | (simp; omega)),a,_,_,_,rfl,rfl,ha',by rw [hm]; exact M0 hz,?_⟩;exact fin z _ kk'
theorem K7 (T:Txt K mg D):FnOk P w K mg base CX0 1 D.a_b3 D.d_b3 ["_law_script","_law_k"] (Pu.spOf K [.vw,.dat] B3p):=FnOk.imp (A5s T) C2c
theorem A8f (T:Txt K mg D):FnOk P w K mg base CX0 1 D.a_c4 D.d_c4 ["_law_state","_law_many"] A6k:=by
 refine T.F_c4.ok sc_c4 (fun vs H Q E h=>?_) (fun cdv A outer s H vs Q E hr h=>?_)
 ·obtain ⟨p,n,rfl,_⟩:=h; rfl
 ·obtain ⟨p,n,rfl,S0,n0,sn,k⟩:=h;refine ⟨_,(K5 (B6v (B3n (Z6 ix_list (pv 0) F6 (fun _ _=>rfl)))
    (K5 (X0 (i:=2) sc_c4.nd rfl (Or.inl rfl) (L9 P1 (Z6 ix_list (pv 0) F6 (fun _ _=>rfl)) (pv 1)))
    (K5 (A3q (L9 J2 (Z6 ix_list (pv 0) F6 (fun _ _=>rfl)) (pv 1)) (A3s (pv 0) F6 I0))
    (K5 (A3q (Z7 U7 (Z6 ix_list (pv 0) F6 (fun _ _=>rfl)) F6 (D4 _)) (A3s (pv 0) F6 I0))
    (R3 (A3p (pv 2))))))
    A2f)
   (K5 (X0 (i:=3) sc_c4.nd rfl (Or.inl rfl) F6)
   (K5 (B3o PassesOwn.never rfl (A03 rfl T.z_range (P5 (L9 G6 F6 (L9 E7 F6 (A7f B06 (by rfl) T.z_int (by rfl) (P5 (Z7 U7 (pv 1) (L9 U6 F6 F6) (D4 _)) X2)))) X2)) (A7d (i:=4) sc_c4.nd rfl (Or.inl rfl) (Or.inl rfl))
    (K5 (A3q (L9 P1 (L9 G6 (L9 E7 (Z6 ix_list (pv 0) F6 (fun _ _=>rfl)) F6) F6) F6) (A3s (pv 0) F6 I0))
    (R3 (X0 (i:=3) sc_c4.nd rfl (Or.inl rfl) (L9 G6 (L9 E7 (pv 3) F6) (L9 P1 (L9 E7 (Z6 ix_list (pv 0) F6 (fun _ _=>rfl)) (Z6 ix_list (pv 0) F6 (fun _ _=>rfl))) F6))))))
   (R3 (A3p (L9 P1 (L9 J2 (pv 3) F6) (pv 1))))))),?_⟩
  obtain ⟨c,m,f,hp,m0,m1⟩:=S0.ex;refine ⟨_,rfl,p,_,_,_,rfl,rfl,SqL.of hp,at2,f,rfl,?_⟩;have s8:Sm 8000 n:=sn.mono (by decide);cases f with
  | true =>
   refine iteT ?_;refine ⟨_,rfl,p,_,_,_,rfl,rfl,SqL.of hp,at0,_,rfl,_,_,rfl,rfl,n0,?_⟩;refine ⟨_,rfl,p,_,_,_,rfl,rfl,SqL.of hp,at0,_,rfl,_,_,rfl,rfl,⟨by omega,s8⟩,_,rfl,p,_,_,0,rfl,rfl,hp,rfl,?_⟩;refine ⟨_,rfl,p,_,_,_,rfl,rfl,SqL.of D7,at0,_,_,rfl,rfl,_,rfl,p,_,_,2,rfl,rfl,D7,rfl,?_⟩;refine ⟨_,rfl,?_⟩;exact k _ _ (Int.emod_nonneg c (by omega)) (Int.emod_lt_of_pos c n0) ⟨_,_,_,D7,m0,m1⟩ (Kp.upd.trans Kp.upd)
  | false =>
   refine iteF ?_;refine ⟨_,rfl,_,_,rfl,rfl,V5 6,_,_,rfl,rfl,.inr ⟨_,rfl,_,_,rfl,rfl,⟨W6 0,B81 _⟩,_,_,rfl,rfl,_,rfl,?_,?_,B0q (lo:=0)
    (fun i σ H'=>∃ (m' md:Int) (x:Option V),σ=[some (V.ref p),some (V.int n),none,some (V.int md),x]/\H' p=some (.lst [.int c,.int m',.bl false])/\0<=m'/\m' < 2147483648/\Kp p H H'/\Sm (40 * i + 1) md)
    ⟨m,0,none,rfl,hp,m0,m1,Kp.refl,by unfold Sm; decide⟩ ?_ ?_⟩⟩
   ·split <;> omega
   ·split <;> omega
   ·rintro i σ H' hi ⟨m',md,x,rfl,hp',h0,h1,kk,sd⟩;have hi9:i < 9:=by
     refine Nat.lt_of_lt_of_le hi ?_;split <;> decide
    refine ⟨_,rfl,p,_,_,_,rfl,rfl,SqL.of hp',at1,_,_,rfl,rfl,⟨sm32 h0 h1,W6 0⟩,_,_,rfl,rfl,_,_,rfl,rfl,(by show (0:Int) < 2147483647; decide),_,rfl,p,_,_,1,rfl,rfl,hp',rfl,?_⟩;have e1:=Int.emod_nonneg (m' * 39373 + 17) (show (2147483647:Int)≠0 by decide);have e2:=Int.emod_lt_of_pos (m' * 39373 + 17) (show (0:Int) < 2147483647 by decide);have sm:=sm32 e1 (by omega);refine ⟨_,rfl,_,_,rfl,rfl,⟨sd.mono (by omega),W6 0⟩,_,rfl,p,_,_,_,rfl,rfl,SqL.of D7,at1,_,rfl,p,_,_,_,rfl,rfl,SqL.of D7,at1,_,_,rfl,rfl,⟨sm,sm⟩,_,_,rfl,rfl,(by show (0:Int) < 2147483587; decide),_,_,rfl,rfl,?_⟩;have g1:=Int.emod_nonneg ((m' * 39373 + 17) % 2147483647 * ((m' * 39373 + 17) % 2147483647)) (show (2147483587:Int)≠0 by decide);have g2:=Int.emod_lt_of_pos ((m' * 39373 + 17) % 2147483647 * ((m' * 39373 + 17) % 2147483647)) (show (0:Int) < 2147483587 by decide);refine ⟨_,_,_,rfl,D7,e1,by omega,kk.trans Kp.upd,?_⟩;refine Sm.mono (k:=40 * i + 1 + 32 + 1) (Sm.add (sd.mul (l:=32) (by unfold Sm; decide)) ?_) (by omega);exact Sm.mono (k:=32) (by unfold Sm; omega) (by omega)
   ·rintro σ H' ⟨m',md,x,rfl,hp',h0,h1,kk,sd⟩;refine ⟨_,rfl,_,_,rfl,rfl,⟨by decide,W6 0⟩,_,rfl,_,_,rfl,rfl,n0,?_⟩;exact k _ _ (Int.emod_nonneg _ (by omega)) (Int.emod_lt_of_pos _ n0) ⟨_,_,_,hp',h0,h1⟩ kk
theorem C8 (T:Txt K mg D):FnOk P w K mg base CX0 1 D.a_c4 D.d_c4 ["_law_state","_law_many"] (Pu.spOf K [.st,.dat] Pu.A61):=FnOk.imp (A8f T) Pu.B5z
theorem P8 (T:Txt K mg D):FnOk P w K mg base CX0 1 D.a_c9 D.d_c9 ["_law_top","_law_bottom"] (Pu.spOf K [.dat,.dat] B6u):=by
 refine T.F_c9.ok sc_c9 (Pu.spOf.len rfl) (fun cdv A outer s H vs Q E hr h=>?_);refine ⟨_,(QSs.out (A5 (B8 (i:=2) sc_c9.nd rfl (Or.inl rfl) (qpv 0))
   (A5 (B8 (i:=3) sc_c9.nd rfl (Or.inl rfl) (qpv 1))
   (A5 (U3 PassesOwn.never (C6 (P6 (K:=K) rfl hr.units) (qpv 3) A4 (D4 _))
    (A9 (P4 (i:=2) (j:=3) rfl sc_c9.nd rfl rfl (by decide) rfl rfl (A0 (qpv 3) (A0 (C3 P1 (qpv 2) (qpv 3)) A3)) rfl)))
   (A9 (C4 (C7 (A0 (C3 J2 (qpv 0) (qpv 2)) (A0 (C3 J2 (qpv 1) (qpv 2)) A3))))))))),?_⟩
 haveI:=T.c2_NOUGHT
 refine Pu.G3 h ?_;rintro as Qp ⟨t,b,rfl,hb,st,sb,k⟩;trivial;refine ⟨fun m e=>∃ x y:Int,e=[some (.d (.int t)),some (.d (.int b)),some (.d (.int x)),some (.d (.int y))]/\0<=y/\(y=0->0 < x)/\m=y.toNat/\Int.gcd x y=Int.gcd t b,⟨_,_,_,rfl,by omega,fun e=>by omega,rfl,rfl⟩,?_⟩;rintro m e ⟨x,y,rfl,hy,hx,rfl,hg⟩;trivial;refine ite2 (fun e=>?_) (fun hn=>?_)
 ·subst e;have hx0:=hx rfl;have e1:x=sh t b:=by
   have:=A4t x (by omega);rw [hg] at this;unfold sh; rw [if_neg (by omega)]; exact this.symm
  subst e1;have hb0:b≠0:=by omega
  refine ⟨⟨B83 hb0,B80 sb hb0⟩,⟨B83 hb0,B80 sb hb0⟩,?_⟩;rw [A9g hb0,B72 hb0]; exact k
 ·have h1:=Int.emod_lt_of_pos x (show 0 < y by omega);have h2:=Int.emod_nonneg x hn;exact ⟨by omega,(x % y).toNat,by omega,y,x % y,rfl,h2,fun _=>by omega,rfl,by rw [B0p,hg]⟩
theorem G4 (T:Txt K mg D):FnOk P w K mg base CX0 2 D.a_c2 D.d_c2 ["_law_one","_law_other"] (Pu.spOf K [.dat,.dat] (X1 (·+·))):=by
 refine T.F_c2.ok sc_c2 (Pu.spOf.len rfl) (fun cdv A outer s H vs Q E hr h=>?_);refine ⟨_,(QSs.out (A9 (C4 (A7 (P8 (K:=K) T) hr.mo rfl T.m_c9 T.F_c9.kp (V9 T) .nil C0 (A0 (C3 G6 (C3 E7 (B2 (A8 (K:=K) rfl) (qpv 0) A4 (fun _ _=>rfl)) (B2 (A8 (K:=K) rfl) (qpv 1) A4 (fun _ _=>rfl))) (C3 E7 (B2 (A8 (K:=K) rfl) (qpv 1) A4 (fun _ _=>rfl)) (B2 (A8 (K:=K) rfl) (qpv 0) A4 (fun _ _=>rfl)))) (A0 (C3 E7 (B2 (A8 (K:=K) rfl) (qpv 0) A4 (fun _ _=>rfl)) (B2 (A8 (K:=K) rfl) (qpv 1) A4 (fun _ _=>rfl))) A3)))))),?_⟩
 haveI:=T.c2_NOUGHT
 refine Pu.G3 h ?_;rintro as Qp ⟨p,q,rfl,sp,sq,k⟩;trivial;have p1:=sp.1.mono (l:=8000) (by decide);have p2:=sp.2.mono (l:=8000) (by decide);have q1:=sq.1.mono (l:=8000) (by decide);have q2:=sq.2.mono (l:=8000) (by decide);refine ⟨⟨p1,q2⟩,⟨q1,p2⟩,⟨p2,q2⟩,_,_,rfl,Int.mul_pos (denp p) (denp q),((sp.1.mul sq.2).add (sq.1.mul sp.2)).mono (by decide),(sp.2.mul sq.2).mono (by decide),?_⟩;rw [B9a]; exact k
theorem K1 (T:Txt K mg D):FnOk P w K mg base CX0 2 D.a_b6 D.d_b6 ["_law_one","_law_other"] (Pu.spOf K [.dat,.dat] (X1 (·-·))):=by
 refine T.F_b6.ok sc_b6 (Pu.spOf.len rfl) (fun cdv A outer s H vs Q E hr h=>?_);refine ⟨_,(QSs.out (A9 (C4 (A7 (P8 (K:=K) T) hr.mo rfl T.m_c9 T.F_c9.kp (V9 T) .nil C0 (A0 (C3 N9 (C3 E7 (B2 (A8 (K:=K) rfl) (qpv 0) A4 (fun _ _=>rfl)) (B2 (A8 (K:=K) rfl) (qpv 1) A4 (fun _ _=>rfl))) (C3 E7 (B2 (A8 (K:=K) rfl) (qpv 1) A4 (fun _ _=>rfl)) (B2 (A8 (K:=K) rfl) (qpv 0) A4 (fun _ _=>rfl)))) (A0 (C3 E7 (B2 (A8 (K:=K) rfl) (qpv 0) A4 (fun _ _=>rfl)) (B2 (A8 (K:=K) rfl) (qpv 1) A4 (fun _ _=>rfl))) A3)))))),?_⟩
 haveI:=T.c2_NOUGHT
 refine Pu.G3 h ?_;rintro as Qp ⟨p,q,rfl,sp,sq,k⟩;trivial;have p1:=sp.1.mono (l:=8000) (by decide);have p2:=sp.2.mono (l:=8000) (by decide);have q1:=sq.1.mono (l:=8000) (by decide);have q2:=sq.2.mono (l:=8000) (by decide);refine ⟨⟨p1,q2⟩,⟨q1,p2⟩,⟨p2,q2⟩,_,_,rfl,Int.mul_pos (denp p) (denp q),((sp.1.mul sq.2).sub (sq.1.mul sp.2)).mono (by decide),(sp.2.mul sq.2).mono (by decide),?_⟩;rw [B88]; exact k
theorem Q6 (T:Txt K mg D):FnOk P w K mg base CX0 2 D.a_bb D.d_bb ["_law_one","_law_other"] (Pu.spOf K [.dat,.dat] (X1 (·*·))):=by
 refine T.F_bb.ok sc_bb (Pu.spOf.len rfl) (fun cdv A outer s H vs Q E hr h=>?_);refine ⟨_,(QSs.out (A9 (C4 (A7 (P8 (K:=K) T) hr.mo rfl T.m_c9 T.F_c9.kp (V9 T) .nil C0 (A0 (C3 E7 (B2 (A8 (K:=K) rfl) (qpv 0) A4 (fun _ _=>rfl)) (B2 (A8 (K:=K) rfl) (qpv 1) A4 (fun _ _=>rfl))) (A0 (C3 E7 (B2 (A8 (K:=K) rfl) (qpv 0) A4 (fun _ _=>rfl)) (B2 (A8 (K:=K) rfl) (qpv 1) A4 (fun _ _=>rfl))) A3)))))),?_⟩
 haveI:=T.c2_NOUGHT
 refine Pu.G3 h ?_;rintro as Qp ⟨p,q,rfl,sp,sq,k⟩;trivial;have p1:=sp.1.mono (l:=8000) (by decide);have p2:=sp.2.mono (l:=8000) (by decide);have q1:=sq.1.mono (l:=8000) (by decide);have q2:=sq.2.mono (l:=8000) (by decide);refine ⟨⟨p1,q1⟩,⟨p2,q2⟩,_,_,rfl,Int.mul_pos (denp p) (denp q),(sp.1.mul sq.1).mono (by decide),(sp.2.mul sq.2).mono (by decide),?_⟩;rw [B89]; exact k
theorem J0 (T:Txt K mg D):FnOk P w K mg base CX0 1 D.a_bc D.d_bc ["_law_one","_law_other"] (Pu.spOf K [.dat,.dat] A63):=by
 refine T.F_bc.ok sc_bc (Pu.spOf.len rfl) (fun cdv A outer s H vs Q E hr h=>?_);refine ⟨_,(QSs.out (A9 (C4 (K4 A5m (C3 E7 (B2 (A8 (K:=K) rfl) (qpv 0) A4 (fun _ _=>rfl)) (B2 (A8 (K:=K) rfl) (qpv 1) A4 (fun _ _=>rfl))) (C3 E7 (B2 (A8 (K:=K) rfl) (qpv 1) A4 (fun _ _=>rfl)) (B2 (A8 (K:=K) rfl) (qpv 0) A4 (fun _ _=>rfl))) (D4 _))))),?_⟩
 haveI:=T.c2_NOUGHT
 refine Pu.G3 h ?_;rintro as Qp ⟨p,q,rfl,sp,sq,k⟩;trivial;have p1:=sp.1.mono (l:=8000) (by decide);have p2:=sp.2.mono (l:=8000) (by decide);have q1:=sq.1.mono (l:=8000) (by decide);have q2:=sq.2.mono (l:=8000) (by decide);refine ⟨⟨p1,q2⟩,⟨q1,p2⟩,?_⟩;rw [A4d]; exact k
theorem J7 (T:Txt K mg D):FnOk P w K mg base CX0 2 D.a_ab D.d_ab ["_law_state","_law_plain","_law_least"] (Pu.spOf K [.st,.dat,.dat] A64):=by
 refine T.F_ab.ok sc_ab (Pu.spOf.len rfl) (fun cdv A outer s H vs Q E hr h=>?_);refine ⟨_,(QSs.out (A5 (B8 (i:=3) sc_ab.nd rfl (Or.inl rfl) (A7 (C8 (K:=K) T) hr.mo rfl T.m_c4 T.F_c4.kp (D5 T) .nil C0 (A0 (qpv 0) (A0 A4 A3))))
   (A5 (D9 (E9 (qpv 1))
    (A9 (C4 (C7 (A0 (C3 G6 (qpv 2) (A7 (C8 (K:=K) T) hr.mo rfl T.m_c4 T.F_c4.kp (D5 T) .nil C0 (A0 (qpv 0) (A0 (B2 (A8 (K:=K) rfl) (E6 (A0 A4 (A0 A4 (A0 A4 (A0 A4 (A0 A4 (A0 A4 A3))))))) (qpv 3) (fun _ _=>rfl)) A3)))) (A0 A4 A3)))))
    D1)
   (A5 (B8 (i:=4) sc_ab.nd rfl (Or.inl rfl) (C3 G6 A4 (A7 (C8 (K:=K) T) hr.mo rfl T.m_c4 T.F_c4.kp (D5 T) .nil C0 (A0 (qpv 0) (A0 (B2 (A8 (K:=K) rfl) (E6 (A0 A4 (A0 A4 (A0 A4 (A0 A4 (A0 A4 (A0 A4 A3))))))) (qpv 3) (fun _ _=>rfl)) A3)))))
   (A9 (C4 (A7 (P8 (K:=K) T) hr.mo rfl T.m_c9 T.F_c9.kp (V9 T) .nil C0 (A0 (C3 G6 (qpv 2) (A7 (C8 (K:=K) T) hr.mo rfl T.m_c4 T.F_c4.kp (D5 T) .nil C0 (A0 (qpv 0) (A0 (B2 (A8 (K:=K) rfl) (E6 (A0 A4 (A0 A4 (A0 A4 (A0 A4 (A0 (C3 U6 A4 A4) (A0 A4 A3))))))) (qpv 3) (fun _ _=>rfl)) A3)))) (A0 (qpv 4) A3))))))))),?_⟩
 haveI:=T.c2_NOUGHT
 refine Pu.G3 h ?_;rintro as Qp ⟨pl,le,rfl,hle,k⟩;trivial;refine ⟨6,rfl,by decide,sm4 6,fun d d0 d6=>?_⟩;trivial;refine ite2 (fun hp=>?_) (fun hp=>?_)
 ·obtain ⟨z,hz,e⟩:=B2o (xs:=[2,3,3,4,5,6]) d0 d6;have hb:2<=z/\z<=6:=by simp at hz; omega
  refine G9 e ?_;trivial;refine ⟨z,rfl,by omega,A6l (by omega) (by omega),fun d2 g0 g1=>?_⟩;trivial;rw [C15];have s3:Sm 3 (le + d2):=M1 (B:=7) (by omega) (by omega) (by decide);exact k _ (C1p (by omega)) (fun h1=>C1o (by omega)) ((A2a s3).mono (by decide) (by decide)) fun _=>⟨A2a s3,B6d (A2a s3)⟩
 ·obtain ⟨x,hx,ex⟩:=B2o (xs:=[1,1,2,4,12,60]) d0 d6;have hbx:1<=x/\x<=60:=by simp at hx; omega
  obtain ⟨z,hz,ez⟩:=B2o (xs:=[3,9,12,30,1000000000000,90]) d0 d6;have hbz:3<=z/\z<=1000000000000:=by simp at hz; omega
  refine G9 ex ?_;trivial;refine ⟨x,rfl,by omega,A6l (by omega) (by omega),fun d1 f0 f1=>?_⟩;trivial;refine ⟨V5 12,G9 ez ?_⟩;trivial;refine ⟨z,rfl,by omega,A6l (by omega) (by omega),fun d2 g0 g1=>?_⟩;trivial;have st:Sm 41 (le + d2):=M1 (B:=1000000000000) (by omega) (by omega) (by decide);have sb:Sm 6 (1 + d1):=M1 (B:=60) (by omega) (by omega) (by decide);refine ⟨_,_,rfl,by omega,st.mono (by decide),sb.mono (by decide),?_⟩;exact k _ (Q4 (by omega) (by omega)) (fun h1=>C2x (by omega) (by omega)) (SmR.low st sb (by omega)) fun h=>absurd h hp
def A68:Pu.PSp:=fun as Q=>∃ (kd:Str) (mo:Int),as=[.st,.d (.str kd),.d (.int mo),.d (.bool false)]/\0 < mo/\mo<=5/\Kd kd/\∀ cs,OfG kd cs 100 54 244 130->OnC cs->(kd="straight"->OnP cs)->cs.length<=mo.toNat->Q (.d (offD kd cs))
theorem A8j (T:Txt K mg D):FnOk P w K mg base CX0 3 D.a_b7 D.d_b7 ["_law_state","_law_kind","_law_most","_law_plain"] (Pu.spOf K [.st,.dat,.dat,.dat] A68):=by
 refine T.F_b7.ok sc_b7 (Pu.spOf.len rfl) (fun cdv A outer s H vs Q E hr h=>?_);refine ⟨_,(QSs.out (A5 (B8 (i:=4) sc_b7.nd rfl (Or.inl rfl) (C3 G6 A4 (A7 (C8 (K:=K) T) hr.mo rfl T.m_c4 T.F_c4.kp (D5 T) .nil C0 (A0 (qpv 0) (A0 (qpv 2) A3)))))
   (A5 (B8 (i:=5) sc_b7.nd rfl (Or.inl rfl) (A7 (J7 (K:=K) T) hr.mo rfl T.m_ab T.F_ab.kp (K9 T) .nil C0 (A0 (qpv 0) (A0 (qpv 3) (A0 A4 A3)))))
   (A5 (B8 (i:=6) sc_b7.nd rfl (Or.inl rfl) (A7 (J7 (K:=K) T) hr.mo rfl T.m_ab T.F_ab.kp (K9 T) .nil C0 (A0 (qpv 0) (A0 (qpv 3) (A0 A4 A3)))))
   (A5 (G0 (i:=7) rfl sc_b7.nd rfl rfl (F3 (N':=["_law_state","_law_plain","_law_k"]) (cap:=[some 0,some 3,none]) rfl rfl rfl rfl (by decide +kernel) rfl rfl) (F2 rfl T.z_range (A0 (C3 N9 (qpv 4) A4) A3)) (fun _ _ _=>(B3 (i:=2) (show (["_law_state","_law_plain","_law_k"]:List Str).Nodup from by decide +kernel) rfl (Or.inl rfl) (Or.inr rfl))) (fun _ _ _=>J1) (fun _ _ _=>(A7 (J7 (K:=K) T) hr.mo rfl T.m_ab T.F_ab.kp (K9 T) .nil C0 (A0 (qpv 0) (A0 (qpv 1) (A0 A4 A3))))) rfl)
   (A5 (F0 PassesOwn.never rfl (F7 (K:=K) rfl (qpv 7)) (B3 (i:=8) sc_b7.nd rfl (Or.inl rfl) (Or.inl rfl))
    (A9 (B8 (i:=5) sc_b7.nd rfl (Or.inl rfl) (A7 (G4 (K:=K) T) hr.mo rfl T.m_c2 T.F_c2.kp (J5 T) .nil C0 (A0 (qpv 5) (A0 (qpv 8) A3))))))
   (A5 (B8 (i:=9) sc_b7.nd rfl (Or.inl rfl) (E6 (A0 (C7 (A0 (qpv 5) (A0 (qpv 6) A3))) A3)))
   (A5 (B8 (i:=10) sc_b7.nd rfl (Or.inl rfl) (C7 (A0 A4 (A0 A4 A3))))
   (A5 (F0 PassesOwn.never rfl (F7 (K:=K) rfl (qpv 7)) (B3 (i:=8) sc_b7.nd rfl (Or.inl rfl) (Or.inl rfl))
    (A5 (B8 (i:=11) sc_b7.nd rfl (Or.inl rfl) (A7 (J7 (K:=K) T) hr.mo rfl T.m_ab T.F_ab.kp (K9 T) .nil C0 (A0 (qpv 0) (A0 (qpv 3) (A0 A4 A3)))))
    (A5 (B8 (i:=5) sc_b7.nd rfl (Or.inl rfl) (A7 (K1 (K:=K) T) hr.mo rfl T.m_b6 T.F_b6.kp (L6 T) .nil C0 (A0 (qpv 5) (A0 (qpv 8) A3))))
    (A5 (B8 (i:=10) sc_b7.nd rfl (Or.inl rfl) (A7 (G4 (K:=K) T) hr.mo rfl T.m_c2 T.F_c2.kp (J5 T) .nil C0 (A0 (qpv 10) (A0 (qpv 11) A3))))
    (A5 (D9 (C6 (F8 (K:=K) rfl hr.units) (qpv 1) D3 (D4 _))
     (A9 (B8 (i:=11) sc_b7.nd rfl (Or.inl rfl) (A7 (Q6 (K:=K) T) hr.mo rfl T.m_bb T.F_bb.kp (T7 T) .nil C0 (A0 (qpv 10) (A0 (qpv 8) A3)))))
     D1)
    (A5 (B8 (i:=6) sc_b7.nd rfl (Or.inl rfl) (A7 (G4 (K:=K) T) hr.mo rfl T.m_c2 T.F_c2.kp (J5 T) .nil C0 (A0 (qpv 6) (A0 (qpv 11) A3))))
    (A9 (F9 (J9 (K:=K) rfl PySem.F.plainAttrs_list PySem.F.slot_list_append PySem.F.type_list_append G7 (qpv 9) (A0 (C7 (A0 (qpv 5) (A0 (qpv 6) A3))) A3))))))))))
   (A9 (C4 (C7 (A0 (qpv 1) (A0 (qpv 9) A3)))))))))))))),?_⟩
 haveI:=T.c2_NOUGHT
 refine Pu.G3 h ?_;rintro as Qp ⟨kd,mo,rfl,m0,m5,hk,k⟩;trivial;refine ⟨mo,rfl,m0,M1 (B:=5) (by omega) (by omega) (by decide),fun d d0 d1=>?_⟩;trivial;refine ⟨_,_,rfl,.inl rfl,fun q1 q10 _ s1 _=>?_⟩;trivial;refine ⟨_,_,rfl,.inl rfl,fun q2 q20 _ s2 _=>?_⟩;trivial;refine ⟨by omega,by rw [J8]; omega,?_⟩;refine O8 (fun i e ys=>∃ (qs:LQ) (o:Option SV),e=[some .st,some (.d (.bool false)),o]/\ys=qs.map dq/\qs.length=i/\∀ q ∈ qs,0 < q/\SmR 41 6 q) ⟨[],_,rfl,rfl,rfl,fun _ z=>nomatch z⟩ ?_ ?_
 ·rintro i e ys hi ⟨qs,o,rfl,rfl,hl,hq⟩;trivial;refine ⟨_,_,rfl,.inr rfl,fun q _ qp sq _=>?_⟩;trivial;refine ⟨qs++[q],_,rfl,by rw [List.map_append]; rfl,by simp [hl],fun c z=>(List.mem_append.mp z).elim (hq c) fun z=>?_⟩;simp at z; subst z; exact ⟨qp rfl,sq⟩
 ·rintro e ys ⟨qs,o,rfl,rfl,hl,hq⟩;have hm:qs.length<=4:=by omega
  trivial;refine K2 (fun i e=>∃ (o8:Option SV) (T':Rat),e=[some .st,some (.d (.str kd)),some (.d (.int mo)),some (.d (.bool false)),some (.d (.int (1 + d))),some (.d (dq T')),some (.d (dq q2)),some (.d (.list (qs.map dq))),o8,none,none,none]/\SmR (41 + 7 * i) (6 + 6 * i) T'/\T'=q1 + sumR (qs.take i)/\On LL ((1 + i) * 2 ^ 41) T') ⟨_,_,rfl,s1,by show q1=q1 + 0; grind,(O0 s1).mono (Nat.le_of_ble_eq_true rfl)⟩ ?_ ?_
  ·rintro i q e hqi ⟨o8,T',rfl,sT,eT,oT⟩;have hil:i < qs.length:=(List.getElem?_eq_some_iff.mp hqi).1;have sg:=(hq q (List.mem_of_getElem? hqi)).2;trivial;refine ⟨_,_,rfl,sT.q (by omega) (by omega),sg.q (by decide) (by decide),?_⟩;trivial;exact ⟨_,_,rfl,(sT.add sg).mono (by omega) (by omega),by rw [List.take_add_one,hqi,Option.toList_some,A0m,eT]; grind,(oT.add E5 (O0 sg)).mono (by rw [show 1 + (i + 1)=(1 + i) + 1 by omega,Nat.add_mul (1 + i) 1,Nat.one_mul]; exact Nat.le_refl _)⟩
  ·rintro e ⟨o8,T0,rfl,sT0,eT0,oT0⟩;try rw [List.length_map] at oT0
   try rw [List.length_map] at eT0
   rw [List.take_length] at eT0;have hq0:∀ q ∈ qs,0 < q:=fun q hq'=>(hq q hq').1;have sT0:SmR 69 30 T0:=sT0.mono (by omega) (by omega);trivial;refine K2 (fun i e=>∃ (o8 o11:Option SV) (T' P' R':Rat) (cs:LR),e=[some .st,some (.d (.str kd)),some (.d (.int mo)),some (.d (.bool false)),some (.d (.int (1 + d))),some (.d (dq T')),some (.d (dq P')),some (.d (.list (qs.map dq))),o8,some (.own ((cs++[(T',P')]).map dcn)),some (.d (dq R')),o11] /\
    SmR (69 + 7 * i) (30 + 6 * i) T'/\SmR (116 + 32 * i) (6 + 31 * i) P'/\SmR (41 + 7 * i) (1 + 6 * i) R'/\(On LL ((6 + i) * 2 ^ 41) T'/\On (LL * LL) ((1 + i) * 2 ^ 85) P'/\On LL (i * 2 ^ 41) R'/\OnC cs/\(kd="straight"->OnP (cs++[(T',P')])))/\(T'=q1 + sumR (qs.drop i)/\0<=P'/\0<=R'/\RiseO (cs++[(T',P')])/\∀ c ∈ cs,0<=c.1/\0<=c.2)/\(kd="straight"->CvR (cs++[(T',P')]) R')/\Dec (cs++[(T',P')])/\cs.length=i/\∀ c ∈ cs,SmR 100 54 c.1/\SmR 244 130 c.2)
    ⟨_,_,T0,q2,0,[],rfl,sT0,s2.mono (by decide) (by decide),sm_zero.mono (by decide) (by decide),⟨oT0.mono (Nat.mul_le_mul_right _ (by omega)),((O0 s2).up E5).mono (Nat.le_of_ble_eq_true rfl),On.zero.mono (Nat.zero_le _),(fun _ z=>nomatch z),fun _=>OnP.one _⟩,⟨eT0,q20,Rat.le_refl,RiseO.one _,fun _ z=>nomatch z⟩,fun _=>CvR.one _,True.intro,rfl,fun _ z=>nomatch z⟩ ?_ ?_
   ·rintro i q e hqi ⟨o8,o11,T',P',R',cs,rfl,sT,sP,sR,⟨oT,oP,oR,oC,oS⟩,⟨eT,P0,R0,up,nn⟩,cv,dec,hcl,hcs⟩;have hil:i < qs.length:=(List.getElem?_eq_some_iff.mp hqi).1;obtain ⟨qp,sg⟩:=hq q (List.mem_of_getElem? hqi);have ed:qs.drop i=q :: qs.drop (i + 1):=by rw [List.drop_eq_getElem_cons hil]; congr 1; exact (List.getElem?_eq_some_iff.mp hqi).2
    have eT2:T' - q=q1 + sumR (qs.drop (i + 1)):=by
     rw [ed] at eT;have:sumR (q :: qs.drop (i + 1))=q + sumR (qs.drop (i + 1)):=rfl;rw [this] at eT; grind
    have nT2:=Y7 (qs:=qs.drop (i + 1)) fun x hx=>hq0 x (List.mem_of_mem_drop hx);have nT:=Y7 (qs:=qs.drop i) fun x hx=>hq0 x (List.mem_of_mem_drop hx);trivial;refine ⟨_,_,rfl,.inr rfl,fun v1 _ vp sv1 _=>?_⟩;have v0:=vp rfl;have nn':∀ c ∈ cs++[(T',P')],0<=c.1/\0<=c.2:=fun c hc=>by
     rcases List.mem_append.mp hc with z | z
     ·exact nn c z
     ·cases List.mem_singleton.mp z;exact ⟨by show 0<=T'; rw [eT]; grind,P0⟩
    trivial;refine ⟨_,_,rfl,sT.q (by omega) (by omega),sg.q (by decide) (by decide),?_⟩;trivial;refine ⟨_,_,rfl,sR.q (by omega) (by omega),sv1.q (by decide) (by decide),?_⟩;trivial;have hi4:i < 4:=by omega
    have oT2:On LL ((6 + (i + 1)) * 2 ^ 41) (T' - q):=(oT.sub E5 (O0 sg)).mono (by rw [show 6 + (i + 1)=(6 + i) + 1 by omega,Nat.add_mul (6 + i) 1,Nat.one_mul]; exact Nat.le_refl _);have oR2:On LL ((i + 1) * 2 ^ 41) (R' + v1):=(oR.add E5 (O0 sv1)).mono (by rw [Nat.add_mul,Nat.one_mul]; exact Nat.le_refl _);have oC2:OnC (cs++[(T',P')]):=fun c hc=>by
     rcases List.mem_append.mp hc with z | z
     ·exact oC c z
     ·cases List.mem_singleton.mp z;exact ⟨oT.mono (Nat.le_trans (Nat.mul_le_mul_right _ (show 6 + i<=16 by omega)) (Nat.le_of_ble_eq_true rfl)),oP.mono (Nat.le_trans (Nat.mul_le_mul_right _ (show 1 + i<=16 by omega)) (Nat.le_of_ble_eq_true rfl))⟩
    have sT2:SmR (69 + 7 * (i + 1)) (30 + 6 * (i + 1)) (T' - q):=(sT.sub sg).mono (by omega) (by omega);have sR2:SmR (41 + 7 * (i + 1)) (1 + 6 * (i + 1)) (R' + v1):=(sR.add sv1).mono (by omega) (by omega);refine ⟨hk.lay,A4e,?_⟩;refine ite2 (fun h2=>?_) (fun h2=>?_);case' refine_1 =>
     refine ⟨_,_,rfl,sR2.q (by omega) (by omega),sg.q (by decide) (by decide),?_⟩;trivial;have sv2:SmR 110 31 ((R' + v1) * q):=(sR2.mul sg).mono (by omega) (by omega);obtain ⟨v2,ev2⟩:∃ v2,v2=(R' + v1) * q:=⟨_,rfl⟩;rw [<- ev2] at sv2 ⊢;have hv:kd="straight"->v2=(R' + v1) * q:=fun _=>ev2;have ov:On (LL * LL) (2 ^ 85) v2:=by rw [ev2]; exact (oR2.mul (O0 sg)).mono (Nat.le_trans (Nat.mul_le_mul_right _ (Nat.mul_le_mul_right _ (show i + 1<=8 by omega))) (Nat.le_of_ble_eq_true rfl))
     have w0:0 < v2:=by rw [ev2]; exact Rat.mul_pos (by grind) qp
    case' refine_2 =>
     have sv2:SmR 110 31 v1:=sv1.mono (by decide) (by decide);have hv:kd="straight"->v1=(R' + v1) * q:=fun z=>absurd (by rw [z]; exact C1u) h2;have ov:On (LL * LL) (2 ^ 85) v1:=((O0 sv1).up E5).mono (Nat.le_of_ble_eq_true rfl);have w0:0 < v1:=v0
    all_goals
     refine ⟨_,_,rfl,sP.q (by omega) (by omega),sv2.q (by decide) (by decide),?_⟩;trivial;refine ⟨by simp; omega,_,_,_,_,_,cs++[(T',P')],by simp only [List.map_append]; rfl,sT2,(sP.add sv2).mono (by omega) (by omega),sR2,⟨oT2,(oP.add (Nat.mul_pos E5 E5) ov).mono (by rw [show 1 + (i + 1)=(1 + i) + 1 by omega,Nat.add_mul (1 + i) 1,Nat.one_mul]; exact Nat.le_refl _),oR2,oC2,fun z=>(oS z).snoc (by rw [((cv z).step qp (vp rfl) (hv z)).2 cs _ _ (by simp)]; exact oR2.mono (Nat.le_trans (Nat.mul_le_mul_right _ (show i + 1<=8 by omega)) (Nat.le_of_ble_eq_true rfl)))⟩,⟨eT2,by grind,by grind,RiseO.snoc up (by show T' - q < T'; grind) (by show P' < P' + _; grind),nn'⟩,fun z=>(cv z).step qp (vp rfl) (hv z),Dec.snoc dec (by show T' - q < T'; grind),by simp [hcl],fun c hc=>?_⟩;rcases List.mem_append.mp hc with z | z
     ·exact hcs c z
     ·cases List.mem_singleton.mp z;exact ⟨sT.mono (by omega) (by omega),sP.mono (by omega) (by omega)⟩
   ·rintro e ⟨o8,o11,T',P',R',cs,rfl,sT,sP,sR,⟨oT,oP,oR,oC,oS⟩,⟨eT,P0,R0,up,nn⟩,cv,dec,hcl,hcs⟩;trivial;have nT:=Y7 (qs:=qs.drop (qs.map dq).length) fun x hx=>hq0 x (List.mem_of_mem_drop hx);have hl4:(qs.map dq).length<=4:=by rw [List.length_map]; exact hm
    refine k _ ⟨⟨by simp,by simp; omega,dec,fun c hc=>?_⟩,fun c hc=>?_,up,fun z=>(cv z).1⟩ (fun c hc=>?_) oS (by simp; omega)
    ·rcases List.mem_append.mp hc with z | z
     ·exact hcs c z
     ·simp at z; subst z; exact ⟨sT.mono (by omega) (by omega),sP.mono (by omega) (by omega)⟩
    ·rcases List.mem_append.mp hc with z | z
     ·exact nn c z
     ·simp at z; subst z; exact ⟨by show 0<=T'; rw [eT]; grind,P0⟩
    ·rcases List.mem_append.mp hc with z | z
     ·exact oC c z
     ·cases List.mem_singleton.mp z;exact ⟨oT.mono (Nat.le_trans (Nat.mul_le_mul_right _ (show 6 + _<=16 by omega)) (Nat.le_of_ble_eq_true rfl)),oP.mono (Nat.le_trans (Nat.mul_le_mul_right _ (show 1 + _<=16 by omega)) (Nat.le_of_ble_eq_true rfl))⟩
def B12:Pu.PSp:=fun as Q=>∃ (n:Nat) (xs:List Wk) (vs:List (Int × Int)) (us:List (Str × Int)),as=[.d (shD xs vs us),.st]/\ShOk n xs vs us/\∀ arcs:List (Str × Int),arcs.length<=12->(∀ a ∈ arcs,ArOk n vs.length us.length a)->(∀ v,My.S (arcs.map fun a=>dfA n vs us a v)=0)->Q (.own (arcs.map qD))
theorem B2g (T:Txt K mg D):FnOk P w K mg base CX0 2 D.a_c5 D.d_c5 ["_law_shape_here","_law_state"] (Pu.spOf K [.dat,.st] B12):=by
 refine T.F_c5.ok sc_c5 (Pu.spOf.len rfl) (fun cdv A outer s H vs Q E hr h=>?_);refine ⟨_,(QSs.out (A5 (F4 (qpv 0) (D0 (K:=K) (n:=3) rfl rfl (B7 (B3 (i:=2) sc_c5.nd rfl (Or.inl rfl) (Or.inl rfl)) (B7 (B3 (i:=3) sc_c5.nd rfl (Or.inr rfl) (Or.inl rfl)) (B7 (B3 (i:=4) sc_c5.nd rfl (Or.inr rfl) (Or.inl rfl)) C9))) rfl rfl))
   (A5 (B8 (i:=5) sc_c5.nd rfl (Or.inr rfl) (A7 (C8 (K:=K) T) hr.mo rfl T.m_c4 T.F_c4.kp (D5 T) .nil C0 (A0 (qpv 1) (A0 (C2 (C5 (K:=K) rfl) (by rfl) T.z_len PySem.boot_len (A0 (qpv 2) A3)) A3))))
   (A5 (B8 (i:=6) sc_c5.nd rfl (Or.inr rfl) (E6 (A0 (qpv 5) A3)))
   (A5 (B8 (i:=7) sc_c5.nd rfl (Or.inl rfl) (E6 A3))
   (A5 (B8 (i:=8) sc_c5.nd rfl (Or.inl rfl) J6)
   (A5 (U3 PassesOwn.never (E9 (qpv 8))
    (A5 (G0 (i:=9) rfl sc_c5.nd rfl rfl (F3 (N':=["_law_work","_law_waits","_law_k"]) (cap:=[some 5,some 3,none]) rfl rfl rfl rfl (by decide +kernel) rfl rfl) (F2 rfl T.z_range (A0 (C2 (C5 (K:=K) rfl) (by rfl) T.z_len PySem.boot_len (A0 (qpv 3) A3)) A3)) (fun _ _ _=>(B3 (i:=2) (show (["_law_work","_law_waits","_law_k"]:List Str).Nodup from by decide +kernel) rfl (Or.inl rfl) (Or.inr rfl))) (fun _ _ _=>(T1 (C6 (F8 (K:=K) rfl hr.units) (B2 (A8 (K:=K) rfl) (B2 (A8 (K:=K) rfl) (qpv 1) (qpv 2) (fun _ _=>rfl)) A4 (fun _ _=>rfl)) (qpv 0) (D4 _)))) (fun _ _ _=>(qpv 2)) rfl)
    (A5 (B8 (i:=8) sc_c5.nd rfl (Or.inl rfl) (M7 (K4 (P6 (K:=K) rfl hr.units) (qpv 9) (E6 A3) (D4 _)) (M6 (K4 U7 (A7 (C8 (K:=K) T) hr.mo rfl T.m_c4 T.F_c4.kp (D5 T) .nil C0 (A0 (qpv 1) (A0 A4 A3))) A4 (D4 _)))))
    (A9 (D9 (E9 (qpv 8))
     (A5 (F9 (J9 (K:=K) rfl PySem.F.plainAttrs_list PySem.F.slot_list_append PySem.F.type_list_append G7 (qpv 7) (A0 (C7 (A0 D3 (A0 (B2 (A8 (K:=K) rfl) (qpv 9) (A7 (C8 (K:=K) T) hr.mo rfl T.m_c4 T.F_c4.kp (D5 T) .nil C0 (A0 (qpv 1) (A0 (C2 (C5 (K:=K) rfl) (by rfl) T.z_len PySem.boot_len (A0 (qpv 9) A3)) A3))) (fun _ _=>rfl)) A3))) A3)))
     (A5 (B8 (i:=5) sc_c5.nd rfl (Or.inr rfl) (B2 (A8 (K:=K) rfl) (B2 (A8 (K:=K) rfl) (qpv 3) (B2 (A8 (K:=K) rfl) (B2 (A8 (K:=K) rfl) (qpv 7) (A6t A54 A4) (fun _ _=>rfl)) A4 (fun _ _=>rfl)) (fun _ _=>rfl)) A4 (fun _ _=>rfl)))
     (A5 (D9 (C6 (A2n (K:=K) rfl hr.units) (qpv 5) (qpv 6) (by with_unfolding_all rfl))
      (A9 (C4 (U5 (Y9 (K:=K) rfl) (qpv 7) (Z3 (J9 (K:=K) rfl PySem.F.plainAttrs_list PySem.F.slot_list_index PySem.F.type_list_index (R6 (K:=K) rfl hr.units) (qpv 6) (A0 (qpv 5) A3))) Z4)))
      D1)
     (A9 (F9 (J9 (K:=K) rfl PySem.F.plainAttrs_list PySem.F.slot_list_append PySem.F.type_list_append G7 (qpv 6) (A0 (qpv 5) A3)))))))
     D1)))))
   (A5 (B8 (i:=10) sc_c5.nd rfl (Or.inl rfl) (C3 (U8 (K:=K) rfl) (E6 (A0 (C7 (A0 D3 (A0 (B2 (A8 (K:=K) rfl) (qpv 6) A4 (fun _ _=>rfl)) A3))) A3)) (O6 rfl (F3 (N':=["_law_holds","_law_seen","_law_k"]) (cap:=[some 4,some 6,none]) rfl rfl rfl rfl (by decide +kernel) rfl rfl) (F2 rfl T.z_range (A0 (C2 (C5 (K:=K) rfl) (by rfl) T.z_len PySem.boot_len (A0 (qpv 4) A3)) A3)) (fun _ _ _=>(B3 (i:=2) (show (["_law_holds","_law_seen","_law_k"]:List Str).Nodup from by decide +kernel) rfl (Or.inl rfl) (Or.inr rfl))) (fun _ _ _=>(T1 (C6 (F8 (K:=K) rfl hr.units) (B2 (A8 (K:=K) rfl) (qpv 0) (qpv 2) (fun _ _=>rfl)) (C7 (A0 D3 (A0 (B2 (A8 (K:=K) rfl) (qpv 1) A4 (fun _ _=>rfl)) A3))) (D4 _)))) (fun _ _ _=>(C7 (A0 D3 (A0 (qpv 2) A3)))))))
   (A5 (B8 (i:=11) sc_c5.nd rfl (Or.inl rfl) (C3 (U8 (K:=K) rfl) (E6 (A0 (C7 (A0 D3 (A0 (qpv 5) A3))) A3)) (O6 rfl (F3 (N':=["_law_holds","_law_work","_law_k"]) (cap:=[some 4,some 5,none]) rfl rfl rfl rfl (by decide +kernel) rfl rfl) (F2 rfl T.z_range (A0 (C2 (C5 (K:=K) rfl) (by rfl) T.z_len PySem.boot_len (A0 (qpv 4) A3)) A3)) (fun _ _ _=>(B3 (i:=2) (show (["_law_holds","_law_work","_law_k"]:List Str).Nodup from by decide +kernel) rfl (Or.inl rfl) (Or.inr rfl))) (fun _ _ _=>(T1 (C6 (A2n (K:=K) rfl hr.units) (B2 (A8 (K:=K) rfl) (qpv 0) (qpv 2) (fun _ _=>rfl)) (E6 (A0 (C7 (A0 D3 (A0 (qpv 1) A3))) (A0 (C7 (A0 D3 (A0 (qpv 1) A3))) A3))) (by with_unfolding_all rfl)))) (fun _ _ _=>(C7 (A0 D3 (A0 (qpv 2) A3)))))))
   (A9 (C4 (C3 (U8 (K:=K) rfl) (C3 (U8 (K:=K) rfl) (E6 (A0 (B2 (A8 (K:=K) rfl) (qpv 10) (A7 (C8 (K:=K) T) hr.mo rfl T.m_c4 T.F_c4.kp (D5 T) .nil C0 (A0 (qpv 1) (A0 (C2 (C5 (K:=K) rfl) (by rfl) T.z_len PySem.boot_len (A0 (qpv 10) A3)) A3))) (fun _ _=>rfl)) A3)) (qpv 7)) (E6 (A0 (B2 (A8 (K:=K) rfl) (qpv 11) (A7 (C8 (K:=K) T) hr.mo rfl T.m_c4 T.F_c4.kp (D5 T) .nil C0 (A0 (qpv 1) (A0 (C2 (C5 (K:=K) rfl) (by rfl) T.z_len PySem.boot_len (A0 (qpv 11) A3)) A3))) (fun _ _=>rfl)) A3)))))))))))))),?_⟩
 haveI:=T.c2_NOUGHT
 refine Pu.G3 h ?_;rintro as Qp ⟨n,xs,vs,us,rfl,ok,k⟩;have n0:=ok.n0;have n1:=ok.n1;have ln:=ok.ln;have vl:=ok.vl;have ul:=ok.ul;unfold shD;refine hd fun R hR=>?_;trivial;subst hR;refine hd fun R hR=>?_;trivial;refine ⟨(n:Int),by simp [ln],by omega,M1 (B:=10) (by omega) (by omega) (by decide),fun w0 w00 w01=>?_⟩;trivial;subst hR;trivial;refine ⟨fun m e=>∃ (wk:Int) (seen:List Int) (arcs:List (Str × Int)) (go:Bool) (o9:Option SV),e=[some (.d (.tuple [.list (xs.map kD),.list (vs.map pD),.list (us.map qD)])),some .st,some (.d (.list (xs.map kD))),some (.d (.list (vs.map pD))),some (.d (.list (us.map qD))),some (.d (.int wk)),some (.own (seen.map .int)),some (.own (arcs.map qD)),some (.d (.bool go)),o9,none,none]/\(wk ∈ seen/\seen.Nodup/\(∀ x ∈ seen,0<=x/\x < (n:Int))/\arcs.length + 1=seen.length/\seen.length<=n/\(∀ a ∈ arcs,ArOk n vs.length us.length a)/\Ndz n vs us seen arcs wk)/\m=if go then n + 1 - seen.length else 0,⟨_,w0,[w0],[],true,_,rfl,⟨List.mem_singleton.mpr rfl,by simp,(fun x hx=>by rw [List.mem_singleton.mp hx]; exact ⟨w00,w01⟩),rfl,by simpa using n0,(fun _ z=>nomatch z),⟨fun i a ha=>by simp at ha,rfl⟩⟩,rfl⟩,?_⟩;rintro m e ⟨wk,seen,arcs,go,o9,rfl,⟨hw,nd,hs,la,ls,ha,nz⟩,rfl⟩;obtain ⟨wk0,wk1⟩:=hs wk hw;trivial;rcases go with _ | _
 ·obtain ⟨s0,es⟩:∃ z,seen[0]?=some z:=⟨_,List.getElem?_eq_getElem (by omega)⟩;obtain ⟨s00,s01⟩:=hs s0 (List.mem_of_getElem? es);trivial;refine C1 (n:=0) es ?_;trivial;refine ⟨by omega,by rw [J8]; omega,?_⟩;refine O8 (fun i e ys=>∃ (fs:List (Str × Int)) (o:Option SV),e=[some (.d (.list (us.map qD))),some (.bor (seen.map .int)),o]/\ys=fs.map qD/\fs.length<=i/\(∀ a ∈ fs,ArOk n vs.length us.length a)/\∀ a ∈ fs,arT n vs us a=n/\arH n vs us a=s0.toNat) ⟨[],_,rfl,rfl,Nat.zero_le _,(fun _ z=>nomatch z),fun _ z=>nomatch z⟩ ?_ ?_
  ·rintro i e ys hi ⟨fs,o,rfl,rfl,hl,hf,hf2⟩;obtain ⟨u,eu⟩:∃ u,us[i]?=some u:=⟨_,List.getElem?_eq_getElem (by omega)⟩;have uk:=(ok.uk u (List.mem_of_getElem? eu)).1;trivial;refine C1 eu ?_;trivial;refine C1 (n:=0) es ?_;trivial;refine ⟨A0x uk,A0x (u:=(_,s0)) (.inl rfl),A3n u,?_⟩;refine ite2 (fun zq=>?_) (fun _=>⟨fs,_,rfl,rfl,by omega,hf,hf2⟩);have eu':u=(Str.ofString "from",s0):=B1x zq;subst eu';have aq:=ar_h (n:=n) (vs:=vs) eu;rw [if_pos rfl,if_pos rfl] at aq;exact ⟨fs++[(Str.ofString "hold",(i:Int))],_,rfl,by rw [List.map_append]; rfl,by rw [List.length_append,List.length_singleton]; omega,ArOk.snoc hf (by omega),fun a h=>by
    rcases List.mem_append.mp h with h | h
    ·exact hf2 a h
    ·rw [List.mem_singleton.mp h]; exact aq⟩
  ·rintro e ys ⟨fs,o,rfl,rfl,hl,hf,hf2⟩;trivial;refine ⟨by omega,by omega,by rw [J8]; omega,?_⟩;refine O8 (fun i e ys=>∃ (gs:List (Str × Int)) (o:Option SV),e=[some (.d (.list (us.map qD))),some (.d (.int wk)),o]/\ys=gs.map qD/\gs.length<=i/\(∀ a ∈ gs,ArOk n vs.length us.length a)/\∀ a ∈ gs,arT n vs us a=wk.toNat/\arH n vs us a=n) ⟨[],_,rfl,rfl,Nat.zero_le _,(fun _ z=>nomatch z),fun _ z=>nomatch z⟩ ?_ ?_
   ·rintro i e ys hi ⟨gs,o,rfl,rfl,hl,hf,hf3⟩;obtain ⟨u,eu⟩:∃ u,us[i]?=some u:=⟨_,List.getElem?_eq_getElem (by omega)⟩;have uk:=(ok.uk u (List.mem_of_getElem? eu)).1;trivial;refine C1 eu ?_;trivial;refine ⟨by show ((qD (Str.ofString "till",wk)).canLay0 && ((qD (Str.ofString "by",wk)).canLay0 && true))=true; rw [A0x (.inr (.inl rfl)),A0x (.inr (.inr rfl))]; rfl,A0x uk,A3n u,?_⟩;refine ite2 (fun zq=>?_) (fun _=>⟨gs,_,rfl,rfl,by omega,hf,hf3⟩);have aq:arT n vs us (Str.ofString "hold",(i:Int))=wk.toNat/\arH n vs us (Str.ofString "hold",(i:Int))=n:=by
     have zz:u=(Str.ofString "till",wk)\/u=(Str.ofString "by",wk):=by
      obtain ⟨x,hx,e⟩:=List.any_eq_true.mp zq;simp only [List.mem_cons,List.not_mem_nil,or_false] at hx;rcases hx with rfl | rfl
      ·exact .inl (B1x (u:=(Str.ofString "till",wk)) e).symm
      ·exact .inr (B1x (u:=(Str.ofString "by",wk)) e).symm
     have aq:=ar_h (n:=n) (vs:=vs) eu;rcases zz with rfl | rfl
     ·rw [if_neg w_tf,if_neg w_tf] at aq; exact aq
     ·rw [if_neg w_bf,if_neg w_bf] at aq; exact aq
    exact ⟨gs++[(Str.ofString "hold",(i:Int))],_,rfl,by rw [List.map_append]; rfl,by rw [List.length_append,List.length_singleton]; omega,ArOk.snoc hf (by omega),fun a h=>by
     rcases List.mem_append.mp h with h | h
     ·exact hf3 a h
     ·rw [List.mem_singleton.mp h]; exact aq⟩
   ·rintro e ys ⟨gs,o,rfl,rfl,hl2,hg,hf3⟩;have af:∀ a ∈ (Str.ofString "start",s0) :: fs,ArOk n vs.length us.length a:=fun a h=>by
     rcases List.mem_cons.mp h with rfl | h
     ·exact ⟨s00,.inl ⟨rfl,s01⟩⟩
     ·exact hf a h
    have ag:∀ a ∈ (Str.ofString "end",wk) :: gs,ArOk n vs.length us.length a:=fun a h=>by
     rcases List.mem_cons.mp h with rfl | h
     ·exact ⟨wk0,.inr (.inl ⟨rfl,wk1⟩)⟩
     ·exact hg a h
    trivial;refine ⟨by omega,((fs.length + 1:Nat):Int),by simp,by omega,M1 (B:=50) (by omega) (by omega) (by decide),fun b b0 b1=>?_⟩;trivial;obtain ⟨q,rfl⟩:=Int.eq_ofNat_of_zero_le b0;obtain ⟨y,ey⟩:∃ z,((Str.ofString "start",s0) :: fs)[q]?=some z:=⟨_,List.getElem?_eq_getElem (by rw [List.length_cons]; omega)⟩;have hy:=af y (List.mem_of_getElem? ey);have hy2:arT n vs us y=n/\arH n vs us y=s0.toNat:=by
     rcases List.mem_cons.mp (List.mem_of_getElem? ey) with h | h
     ·rw [h]; exact ar_s
     ·exact hf2 y h
    refine C1 (f:=qD) (xs:=(Str.ofString "start",s0) :: fs) ey ?_;trivial;refine ⟨by omega,((gs.length + 1:Nat):Int),by simp,by omega,M1 (B:=50) (by omega) (by omega) (by decide),fun b b0 b1=>?_⟩;trivial;obtain ⟨q,rfl⟩:=Int.eq_ofNat_of_zero_le b0;obtain ⟨z,ez⟩:∃ z,((Str.ofString "end",wk) :: gs)[q]?=some z:=⟨_,List.getElem?_eq_getElem (by rw [List.length_cons]; omega)⟩;have hz:=ag z (List.mem_of_getElem? ez);have hz2:arT n vs us z=wk.toNat/\arH n vs us z=n:=by
     rcases List.mem_cons.mp (List.mem_of_getElem? ez) with h | h
     ·rw [h]; exact ar_e
     ·exact hf3 z h
    refine C1 (f:=qD) (xs:=(Str.ofString "end",wk) :: gs) ez ?_;trivial;have k2:=k ([y]++arcs++[z]) (by simp; omega) (fun a h=>by
     rcases List.mem_append.mp h with h | h
     ·rcases List.mem_append.mp h with h | h
      ·rw [List.mem_singleton.mp h]; exact hy
      ·exact ha a h
     ·rw [List.mem_singleton.mp h]; exact hz) (nz.way la es hy2 hz2)
    rw [List.map_append,List.map_append] at k2;exact ⟨by omega,k2⟩
 ·trivial;refine ⟨by omega,by rw [J8]; omega,?_⟩;refine O8 (fun i e ys=>∃ (js:List Int) (o:Option SV),e=[some (.d (.int wk)),some (.d (.list (vs.map pD))),o]/\ys=js.map .int/\js.length<=i/\∀ j ∈ js,(0<=j/\j < (vs.length:Int))/\∃ v,vs[j.toNat]?=some v/\v.1=wk) ⟨[],_,rfl,rfl,Nat.zero_le _,fun _ z=>nomatch z⟩ ?_ ?_
  ·rintro i e ys hi ⟨js,o,rfl,rfl,hl,hj⟩;obtain ⟨v,ev⟩:∃ v,vs[i]?=some v:=⟨_,List.getElem?_eq_getElem (by omega)⟩;trivial;refine C1 ev ?_;unfold pD;trivial;refine ite2 (fun zq=>?_) (fun _=>⟨js,_,rfl,rfl,by omega,hj⟩);trivial;refine ⟨js++[(i:Int)],_,rfl,by rw [List.map_append]; rfl,by rw [List.length_append,List.length_singleton]; omega,fun j hj'=>?_⟩;rcases List.mem_append.mp hj' with z | z
   ·exact hj j z
   ·rw [List.mem_singleton.mp z]; exact ⟨by omega,v,by rw [Int.toNat_natCast]; exact ev,zq⟩
  ·rintro e ys ⟨js,o,rfl,rfl,hl,hj⟩;trivial;refine ⟨T4 js,A1q js,?_⟩;rw [A4w];have stop:∀ o9:Option SV,∃ m',m' < n + 1 - seen.length/\∃ (wk_1:Int) (seen_1:List Int) (arcs_1:List (Str × Int)) (go:Bool) (o9':Option SV),[some (SV.d (.tuple [.list (xs.map kD),.list (vs.map pD),.list (us.map qD)])),some .st,some (.d (.list (xs.map kD))),some (.d (.list (vs.map pD))),some (.d (.list (us.map qD))),some (.d (.int wk)),some (.own (seen.map .int)),some (.own (arcs.map qD)),some (.d (.bool false)),o9,none,none]=[some (SV.d (.tuple [.list (xs.map kD),.list (vs.map pD),.list (us.map qD)])),some .st,some (.d (.list (xs.map kD))),some (.d (.list (vs.map pD))),some (.d (.list (us.map qD))),some (.d (.int wk_1)),some (.own (seen_1.map .int)),some (.own (arcs_1.map qD)),some (.d (.bool go)),o9',none,none]/\(wk_1 ∈ seen_1/\seen_1.Nodup/\(∀ x ∈ seen_1,0<=x/\x < (n:Int))/\arcs_1.length + 1=seen_1.length/\seen_1.length<=n/\(∀ a ∈ arcs_1,ArOk n vs.length us.length a)/\Ndz n vs us seen_1 arcs_1 wk_1)/\m'=if go=true then n + 1 - seen_1.length else 0:=fun o9=>⟨0,by omega,wk,seen,arcs,false,o9,rfl,⟨hw,nd,hs,la,ls,ha,nz⟩,rfl⟩;refine ite2 (fun hn=>?_) (fun hn=>stop _);refine ⟨4,rfl,by decide,sm4 4,fun d d0 d1=>?_⟩;trivial;refine ite2 (fun hdd=>?_) (fun hdd=>by rw [decide_eq_false hdd]; exact stop _);have jp:0 < js.length:=by cases js with | nil=>cases hn | cons a r=>exact Nat.succ_pos _
   refine ⟨(js.length:Int),by simp,by omega,M1 (B:=40) (by omega) (by omega) (by decide),fun b b0 b1=>?_⟩;trivial;obtain ⟨q,rfl⟩:=Int.eq_ofNat_of_zero_le b0;obtain ⟨z,ez⟩:∃ z,js[q]?=some z:=⟨_,List.getElem?_eq_getElem (by omega)⟩;obtain ⟨⟨z0,z1⟩,zv⟩:=hj z (List.mem_of_getElem? ez);refine C1 ez ?_;trivial;refine ⟨by omega,?_⟩;have ea:arcs.map qD++[PyData.tuple [.str (Str.ofString "wait"),.int z]]=(arcs++[(Str.ofString "wait",z)]).map qD:=by rw [List.map_append]; rfl
   obtain ⟨u,rfl⟩:=Int.eq_ofNat_of_zero_le z0;obtain ⟨v,ev⟩:∃ v,vs[u]?=some v:=⟨_,List.getElem?_eq_getElem (by omega)⟩;obtain ⟨_,v0,v1⟩:=ok.vk v (List.mem_of_getElem? ev);have v1k:v.1=wk:=by obtain ⟨v',e1,e2⟩:=zv; rw [Int.toNat_natCast,ev] at e1; cases e1; exact e2
   have aw:=ar_w (n:=n) (us:=us) ev;rw [v1k] at aw;have ha2:∀ a ∈ arcs++[(Str.ofString "wait",(u:Int))],ArOk n vs.length us.length a:=fun a hm=>by
    rcases List.mem_append.mp hm with y | y
    ·exact ha a y
    ·rw [List.mem_singleton.mp y]; exact ⟨z0,.inr (.inr (.inl ⟨rfl,z1⟩))⟩
   rw [ea];refine A06 (a:=(Str.ofString "wait",(u:Int))) (by simp) (by simp) ?_;rw [show qD (Str.ofString "wait",(u:Int))=PyData.tuple [.str (Str.ofString "wait"),.int (u:Int)] from rfl];trivial;refine C1 ev ?_;rw [show pD v=PyData.tuple [.int v.1,.int v.2] from rfl];trivial;refine ⟨A1d seen,?_⟩;refine ite2 (fun hy=>?_) (fun hy=>?_)
   ·obtain ⟨p,hp⟩:∃ p,(seen.map PyData.int).findIdx? (fun z=>z.eqv (PyData.int v.2))=some p:=by
     rcases e:(seen.map PyData.int).findIdx? (fun z=>z.eqv (PyData.int v.2)) with _ | p
     ·rw [List.findIdx?_eq_none_iff] at e;obtain ⟨y,y1,y2⟩:=List.any_eq_true.mp hy;rw [e y y1] at y2; cases y2
     ·exact ⟨p,e⟩
    refine ⟨A1d seen,by omega,p,hp,?_⟩;obtain ⟨hpl,hpe,_⟩:=List.findIdx?_eq_some_iff_getElem.mp hp;have hps:seen[p]?=some v.2:=by
     rw [List.length_map] at hpl;rw [List.getElem_map,S1] at hpe;rw [List.getElem?_eq_getElem hpl,of_decide_eq_true hpe]
    have hpl':=(List.getElem?_eq_some_iff.mp hps).1;rw [B5u (by rw [List.length_append,List.length_singleton]; omega)];exact k _ (by rw [List.length_drop,List.length_append,List.length_singleton]; omega) (fun a h=>ha2 a (List.mem_of_mem_drop h)) (nz.ring la aw hps)
   ·have nin:v.2 ∉ seen:=fun hm=>hy (List.any_eq_true.mpr ⟨_,List.mem_map_of_mem hm,by first | exact eqv_int_self _ | decide | simp [PyData.eqv]⟩);have nd2:(seen++[v.2]).Nodup:=List.nodup_append.mpr ⟨nd,by simp,fun a h b h2=>by rw [List.mem_singleton.mp h2]; exact fun e=>nin (e ▸ h)⟩;have hs2:∀ x ∈ seen++[v.2],0<=x/\x < (n:Int):=fun x hx=>by
     rcases List.mem_append.mp hx with y | y
     ·exact hs x y
     ·rw [List.mem_singleton.mp y]; exact ⟨v0,v1⟩
    have l2:=B2n nd2 hs2;rw [List.length_append,List.length_singleton] at l2;rw [show seen.map PyData.int++[PyData.int v.2]=(seen++[v.2]).map PyData.int from by rw [List.map_append]; rfl,decide_eq_true hdd];refine ⟨by omega,n - seen.length,by omega,v.2,seen++[v.2],arcs++[(Str.ofString "wait",(u:Int))],true,_,rfl,⟨by simp,nd2,hs2,by simp; omega,by simp; omega,ha2,nz.snoc la aw⟩,?_⟩;rw [if_pos rfl,List.length_append,List.length_singleton]; omega
def B13:Pu.PSp:=fun as Q=>∃ (n:Nat) (xs:List Wk) (vs:List (Int × Int)) (us:List (Str × Int)),as=[.d (shD xs vs us),.st]/\ShOk n xs vs us/\∀ q,0 < q->On LL (2 ^ 45) q->Q (.d (dq q))
theorem B2h (T:Txt K mg D):FnOk P w K mg base CX0 3 D.a_c3 D.d_c3 ["_law_shape_here","_law_state"] (Pu.spOf K [.dat,.st] B13):=by
 refine T.F_c3.ok sc_c3 (Pu.spOf.len rfl) (fun cdv A outer s H vs Q E hr h=>?_);refine ⟨_,(QSs.out (A5 (F4 (B2 (A8 (K:=K) rfl) (B2 (A8 (K:=K) rfl) (B2 (A8 (K:=K) rfl) (qpv 0) A4 (fun _ _=>rfl)) (A7 (C8 (K:=K) T) hr.mo rfl T.m_c4 T.F_c4.kp (D5 T) .nil C0 (A0 (qpv 1) (A0 (C2 (C5 (K:=K) rfl) (by rfl) T.z_len PySem.boot_len (A0 (B2 (A8 (K:=K) rfl) (qpv 0) A4 (fun _ _=>rfl)) A3)) A3))) (fun _ _=>rfl)) A4 (fun _ _=>rfl)) (D0 (K:=K) (n:=2) rfl rfl (B7 (B3 (i:=2) sc_c3.nd rfl (Or.inl rfl) (Or.inl rfl)) (B7 (B3 (i:=3) sc_c3.nd rfl (Or.inl rfl) (Or.inl rfl)) C9)) rfl rfl))
   (A5 (B8 (i:=4) sc_c3.nd rfl (Or.inl rfl) (A7 (J7 (K:=K) T) hr.mo rfl T.m_ab T.F_ab.kp (K9 T) .nil C0 (A0 (qpv 1) (A0 J6 (A0 A4 A3)))))
   (A5 (D9 (QW.pt (L8 (C6 (F8 (K:=K) rfl hr.units) (qpv 2) D3 (D4 _)) (L8 (C6 U7 (C2 (C5 (K:=K) rfl) (by rfl) T.z_len PySem.boot_len (A0 (qpv 3) A3)) A4 (D4 _)) (L4 (C6 U7 (A7 (C8 (K:=K) T) hr.mo rfl T.m_c4 T.F_c4.kp (D5 T) .nil C0 (A0 (qpv 1) (A0 A4 A3))) A4 (D4 _))))))
    (A5 (B8 (i:=5) sc_c3.nd rfl (Or.inl rfl) (C3 G6 A4 (A7 (C8 (K:=K) T) hr.mo rfl T.m_c4 T.F_c4.kp (D5 T) .nil C0 (A0 (qpv 1) (A0 (C3 N9 (C2 (C5 (K:=K) rfl) (by rfl) T.z_len PySem.boot_len (A0 (qpv 3) A3)) A4) A3)))))
    (A5 (B8 (i:=6) sc_c3.nd rfl (Or.inl rfl) (A7 (K1 (K:=K) T) hr.mo rfl T.m_b6 T.F_b6.kp (L6 T) .nil C0 (A0 (B2 (A8 (K:=K) rfl) (B2 (A8 (K:=K) rfl) (qpv 3) (qpv 5) (fun _ _=>rfl)) A4 (fun _ _=>rfl)) (A0 (B2 (A8 (K:=K) rfl) (B2 (A8 (K:=K) rfl) (qpv 3) (C3 N9 (qpv 5) A4) (fun _ _=>rfl)) A4 (fun _ _=>rfl)) A3))))
    (A5 (B8 (i:=7) sc_c3.nd rfl (Or.inl rfl) (A7 (K1 (K:=K) T) hr.mo rfl T.m_b6 T.F_b6.kp (L6 T) .nil C0 (A0 (B2 (A8 (K:=K) rfl) (B2 (A8 (K:=K) rfl) (qpv 3) (C3 N9 (qpv 5) A4) (fun _ _=>rfl)) A4 (fun _ _=>rfl)) (A0 (B2 (A8 (K:=K) rfl) (B2 (A8 (K:=K) rfl) (qpv 3) (qpv 5) (fun _ _=>rfl)) A4 (fun _ _=>rfl)) A3))))
    (A9 (B8 (i:=4) sc_c3.nd rfl (Or.inl rfl) (A7 (P8 (K:=K) T) hr.mo rfl T.m_c9 T.F_c9.kp (V9 T) .nil C0 (A0 (C3 E7 (B2 (A8 (K:=K) rfl) (qpv 6) A4 (fun _ _=>rfl)) (B2 (A8 (K:=K) rfl) (qpv 7) A4 (fun _ _=>rfl))) (A0 (C3 E7 (B2 (A8 (K:=K) rfl) (qpv 6) A4 (fun _ _=>rfl)) (B2 (A8 (K:=K) rfl) (qpv 7) A4 (fun _ _=>rfl))) A3))))))))
    D1)
   (A9 (C4 (qpv 4))))))),?_⟩
 haveI:=T.c2_NOUGHT
 refine Pu.G3 h ?_;rintro as Qp ⟨n,xs,vs,us,rfl,ok,k⟩;have n0:=ok.n0;have n1:=ok.n1;have ln:=ok.ln;unfold shD;trivial;refine ⟨(n:Int),by simp [ln],by omega,M1 (B:=10) (by omega) (by omega) (by decide),fun a a0 a1=>?_⟩;trivial;obtain ⟨i,rfl⟩:=Int.eq_ofNat_of_zero_le a0;obtain ⟨x,ex⟩:∃ c,xs[i]?=some c:=⟨_,List.getElem?_eq_getElem (by omega)⟩;obtain ⟨hk,og,oc,op⟩:=ok.of x (List.mem_of_getElem? ex);have n5:=og.ok.le;refine C1 ex ?_;unfold kD offD;trivial;refine ⟨_,_,rfl,.inr rfl,fun q q0 qp sq _=>?_⟩;have kq:=k q (qp rfl) ((O0 sq).p2 (by decide));trivial;refine ⟨hk.lay,A4e,?_⟩;refine ite2 (fun hst=>?_) (fun _=>kq);refine ite2 (fun hl=>?_) (fun _=>kq);refine ⟨3,rfl,by decide,sm4 3,fun t t0 t1=>?_⟩;trivial;refine ite2 (fun _=>?_) (fun _=>kq);refine ⟨(x.2.2.length:Int) - 1,by simp,by omega,M1 (B:=5) (by omega) (by omega) (by decide),fun j j0 j1=>?_⟩;trivial;obtain ⟨m,rfl⟩:=Int.eq_ofNat_of_zero_le j0;obtain ⟨c,ec⟩:∃ c,x.2.2[m]?=some c:=⟨_,List.getElem?_eq_getElem (by omega)⟩;obtain ⟨d,ed⟩:∃ c,x.2.2[m + 1]?=some c:=⟨_,List.getElem?_eq_getElem (by omega)⟩;have e1:(1:Int) + (m:Int)=((m + 1:Nat):Int):=by omega
 have e2:((m + 1:Nat):Int) - 1=(m:Int):=by omega
 obtain ⟨c1,c2⟩:=og.ok.sm c (List.mem_of_getElem? ec);obtain ⟨d1,d2⟩:=og.ok.sm d (List.mem_of_getElem? ed);obtain ⟨g1,g2⟩:=og.up m c d ec ed;have kst:x.2.1="straight":=by
  rcases hk with z | z
  ·exact z
  ·exfalso;have:x.2.1=Str.ofString "steps":=z;rw [this] at hst;exact absurd hst (by decide +kernel)
 have hp:0 < J3 c d:=by
  unfold J3;rw [Rat.div_def];exact Rat.mul_pos (by grind) (Rat.inv_pos.mpr (by grind))
 have ks:=k _ hp (op kst m c d ec ed);have sg:=c1.sub d1;have su:=d2.sub c2;rw [e1];refine C1 (n:=m + 1) ed ?_;trivial;rw [e2];refine C1 ec ?_;trivial;refine ⟨d.2,c.2,rfl,d2.q (by decide) (by decide),c2.q (by decide) (by decide),?_⟩;trivial;rw [e2];refine C1 ec ?_;trivial;refine C1 (n:=m + 1) ed ?_;trivial;refine ⟨c.1,d.1,rfl,c1.q (by decide) (by decide),d1.q (by decide) (by decide),?_⟩;trivial;refine ⟨⟨su.1.mono (by decide),sg.2.mono (by decide)⟩,⟨su.2.mono (by decide),sg.1.mono (by decide)⟩,_,_,rfl,Int.mul_pos (denp _) (A2q (by grind)),(su.1.mul sg.2).mono (by decide),(su.2.mul sg.1).mono (by decide),?_⟩;rw [B6p];trivial;exact ks
def A67:Pu.PSp:=fun as Q=>∃ (n:Nat) (xs:List Wk) (vs:List (Int × Int)) (us:List (Str × Int)) (ns:List Int) (at_:Int),as=[.d (shD xs vs us),.bor (ns.map .int),.d (.int at_)]/\0<=at_/\at_<=300/\ShOk n xs vs us/\∀ ps:List ((Str × Int) × Rat),PB n vs us ps->Q (.own (ps.map paD))
theorem A8i (T:Txt K mg D):FnOk P w K mg base CX0 4 D.a_b8 D.d_b8 ["_law_shape_here","_law_script","_law_at"] (Pu.spOf K [.dat,.vw,.dat] A67):=by
 refine T.F_b8.ok sc_b8 (Pu.spOf.len rfl) (fun cdv A outer s H vs Q E hr h=>?_);refine ⟨_,(QSs.out (A5 (B8 (i:=3) sc_b8.nd rfl (Or.inl rfl) (A7 (K7 (K:=K) T) hr.mo rfl T.m_b3 T.F_b3.kp (M3 T) .nil C0 (A0 (qpv 1) (A0 (qpv 2) A3))))
   (A5 (F9 (A7 (C8 (K:=K) T) hr.mo rfl T.m_c4 T.F_c4.kp (D5 T) .nil C0 (A0 (qpv 3) (A0 A4 A3))))
   (A5 (B8 (i:=4) sc_b8.nd rfl (Or.inr rfl) (E6 A3))
   (A5 (B8 (i:=5) sc_b8.nd rfl (Or.inr rfl) (E6 A3))
   (A5 (F0 PassesOwn.never rfl (F2 rfl T.z_range (A0 (B2 (A8 (K:=K) rfl) (E6 (A0 A4 (A0 A4 (A0 A4 (A0 A4 (A0 A4 (A0 A4 A3))))))) (A7 (C8 (K:=K) T) hr.mo rfl T.m_c4 T.F_c4.kp (D5 T) .nil C0 (A0 (qpv 3) (A0 A4 A3))) (fun _ _=>rfl)) A3)) (B3 (i:=6) sc_b8.nd rfl (Or.inl rfl) (Or.inl rfl))
    (A5 (B8 (i:=7) sc_b8.nd rfl (Or.inl rfl) (A7 (B2h (K:=K) T) hr.mo rfl T.m_c3 T.F_c3.kp (B8k T) .nil C0 (A0 (qpv 0) (A0 (qpv 3) A3))))
    (A9 (F0 PassesOwn.never rfl (F7 (K:=K) rfl (A7 (B2g (K:=K) T) hr.mo rfl T.m_c5 T.F_c5.kp (B8j T) .nil C0 (A0 (qpv 0) (A0 (qpv 3) A3)))) (B3 (i:=8) sc_b8.nd rfl (Or.inl rfl) (Or.inl rfl))
     (A9 (D9 (C6 (A2n (K:=K) rfl hr.units) (qpv 8) (qpv 4) (by with_unfolding_all rfl))
      (A9 (F4 (A7 (G4 (K:=K) T) hr.mo rfl T.m_c2 T.F_c2.kp (J5 T) .nil C0 (A0 (B2 (A8 (K:=K) rfl) (qpv 5) (J9 (K:=K) rfl PySem.F.plainAttrs_list PySem.F.slot_list_index PySem.F.type_list_index (R6 (K:=K) rfl hr.units) (qpv 4) (A0 (qpv 8) A3)) (fun _ _=>rfl)) (A0 (qpv 7) A3))) (M5 (qpv 5) (J9 (K:=K) rfl PySem.F.plainAttrs_list PySem.F.slot_list_index PySem.F.type_list_index (R6 (K:=K) rfl hr.units) (qpv 4) (A0 (qpv 8) A3)) I0)))
      (A5 (F9 (J9 (K:=K) rfl PySem.F.plainAttrs_list PySem.F.slot_list_append PySem.F.type_list_append G7 (qpv 4) (A0 (qpv 8) A3)))
      (A9 (F9 (J9 (K:=K) rfl PySem.F.plainAttrs_list PySem.F.slot_list_append PySem.F.type_list_append G7 (qpv 5) (A0 (qpv 7) A3)))))))))))
   (A5 (G0 (i:=9) rfl sc_b8.nd rfl rfl (F3 (N':=["_law_arcs","_law_amounts","_law_k"]) (cap:=[some 4,some 5,none]) rfl rfl rfl rfl (by decide +kernel) rfl rfl) (F2 rfl T.z_range (A0 (C2 (C5 (K:=K) rfl) (by rfl) T.z_len PySem.boot_len (A0 (qpv 4) A3)) A3)) (fun _ _ _=>(B3 (i:=2) (show (["_law_arcs","_law_amounts","_law_k"]:List Str).Nodup from by decide +kernel) rfl (Or.inl rfl) (Or.inr rfl))) (fun _ _ _=>J1) (fun _ _ _=>(C7 (A0 (B2 (A8 (K:=K) rfl) (qpv 0) (qpv 2) (fun _ _=>rfl)) (A0 (B2 (A8 (K:=K) rfl) (qpv 1) (qpv 2) (fun _ _=>rfl)) A3)))) rfl)
   (A5 (B8 (i:=10) sc_b8.nd rfl (Or.inl rfl) (A7 (C8 (K:=K) T) hr.mo rfl T.m_c4 T.F_c4.kp (D5 T) .nil C0 (A0 (qpv 3) (A0 (C3 G6 (C2 (C5 (K:=K) rfl) (by rfl) T.z_len PySem.boot_len (A0 (qpv 9) A3)) A4) A3))))
   (A9 (C4 (C3 (U8 (K:=K) rfl) (U5 (Y9 (K:=K) rfl) (qpv 9) (Z3 (qpv 10)) Z4) (U5 (Y9 (K:=K) rfl) (qpv 9) Z4 (Z3 (qpv 10)))))))))))))),?_⟩
 haveI:=T.c2_NOUGHT
 refine Pu.G3 h ?_;rintro as Qp ⟨n,xs,vs,us,ns,at_,rfl,at0,at1,ok,k⟩;refine hd fun R hR=>?_;trivial;refine ⟨ns,_,rfl,at0,at1,?_⟩;trivial;subst hR;refine hd fun R hR=>?_;trivial;refine ⟨7919,rfl,by decide,M1 (B:=7919) (by omega) (by omega) (by decide),fun d d0 d1=>?_⟩;trivial;subst hR;trivial;refine ⟨6,rfl,by decide,sm4 6,fun d d0 d1=>?_⟩;trivial;obtain ⟨tz,hz,etz⟩:=B2o (xs:=[0,1,1,2,3,4]) d0 d1;have tz0:0<=tz/\tz<=4:=by
  simp only [List.mem_cons,List.not_mem_nil,or_false] at hz;omega
 refine G9 etz ?_;trivial;refine ⟨by omega,?_⟩;refine M9 (fun i e=>∃ (ar:List (Str × Int)) (am:LQ) (o6 o7 o8:Option SV),e=[some (.d (shD xs vs us)),some (.bor (ns.map .int)),some (.d (.int at_)),some .st,some (.own (ar.map qD)),some (.own (am.map dq)),o6,o7,o8,none,none]/\ar.length=am.length/\ar.length<=12 * i/\(∀ a ∈ ar,ArOk n vs.length us.length a)/\(∀ q ∈ am,On LL ((12 * i) * 2 ^ 45) q)/\ar.Nodup/\(∀ q ∈ am,0 < q)/\∀ v,sA (ar.zip am) (fun a=>dfA n vs us a v)=0) ⟨[],[],_,_,_,rfl,rfl,Nat.zero_le _,(fun _ z=>nomatch z),(fun _ z=>nomatch z),List.nodup_nil,(fun _ z=>nomatch z),fun _=>rfl⟩ ?_ ?_
 ·rintro i e hi ⟨ar,am,o6,o7,o8,rfl,hl,h12,ha,hm,nd,hp0,hb0⟩;trivial;refine ⟨n,xs,vs,us,rfl,ok,fun q qp oq=>?_⟩;trivial;refine ⟨n,xs,vs,us,rfl,ok,fun wa lw hw hbw=>?_⟩;trivial;refine K2 (f:=qD) (xs:=wa) (fun j e=>∃ (ar:List (Str × Int)) (am:LQ) (o6 o8:Option SV),e=[some (.d (shD xs vs us)),some (.bor (ns.map .int)),some (.d (.int at_)),some .st,some (.own (ar.map qD)),some (.own (am.map dq)),o6,some (.d (dq q)),o8,none,none]/\ar.length=am.length/\ar.length<=12 * i + j/\(∀ a ∈ ar,ArOk n vs.length us.length a)/\(∀ q ∈ am,On LL ((12 * i + j) * 2 ^ 45) q)/\ar.Nodup/\(∀ q ∈ am,0 < q)/\∀ v,sA (ar.zip am) (fun a=>dfA n vs us a v)=q * My.S ((wa.take j).map fun a=>dfA n vs us a v)) ⟨ar,am,_,_,rfl,hl,h12,ha,hm,nd,hp0,fun v=>by rw [hb0 v]; show (0:Rat)=q * 0; rw [Rat.mul_zero]⟩ ?_ ?_
  ·rintro j w e hj ⟨ar,am,o6,o8,rfl,hl,h12,ha,hm,nd,hp0,hb0⟩;have hjl:j < wa.length:=(List.getElem?_eq_some_iff.mp hj).1;have hwk:=hw w (List.mem_of_getElem? hj);trivial;refine ⟨A0e ha,hwk.lay,A3n w,?_⟩;refine ite2 (fun hy=>?_) (fun hy=>?_)
   ·obtain ⟨p,hp,pl⟩:=B78 hy;rw [List.length_map] at pl;have ew:ar[p]?=some w:=by
     obtain ⟨hpl,hpe,_⟩:=List.findIdx?_eq_some_iff_getElem.mp hp;rw [List.length_map] at hpl;rw [List.getElem_map] at hpe;rw [List.getElem?_eq_getElem hpl,B1x hpe]
    obtain ⟨b,eb⟩:∃ a,am[p]?=some a:=⟨_,List.getElem?_eq_getElem (by omega)⟩;have ob:=hm b (List.mem_of_getElem? eb);have L:PyData.canLayAll0 (ar.map qD)=true/\(qD w).canLay0=true/\(qD w).depth<=60/\ar.length<=1000:=⟨A0e ha,hwk.lay,A3n w,by omega⟩;refine ⟨L.1,L.2.1,L.2.2.1,L.2.2.2,p,hp,?_⟩;refine C1 eb ?_;trivial;refine ⟨b,q,rfl,(ob.mono (Nat.le_trans (Nat.mul_le_mul_right _ (show _<=64 by omega)) (Nat.le_of_ble_eq_true rfl)):On LL (2 ^ 51) b).q E5 (by decide +kernel) (by decide +kernel),oq.q E5 (by decide +kernel) (by decide +kernel),?_⟩;trivial;refine ⟨L.1,L.2.1,L.2.2.1,L.2.2.2,p,hp,p,S3 (o:=(p:Int)) (by omega) (by omega),ar,am.set p (b + q),_,_,by rw [List.map_set],by rw [List.length_set]; exact hl,by omega,ha,fun r h=>?_,nd,fun r h=>?_,fun v=>by rw [A5z ew eb,hb0 v,B1i hj]; grind⟩
    ·rcases List.mem_or_eq_of_mem_set h with z | z
     ·exact (hm r z).mono (Nat.mul_le_mul_right _ (by omega))
     ·rw [z]; exact B7x E5 ob oq
    ·rcases List.mem_or_eq_of_mem_set h with z | z
     ·exact hp0 r z
     ·rw [z]; have:=hp0 b (List.mem_of_getElem? eb); grind
   ·trivial;refine ⟨by omega,by omega,ar++[w],am++[q],_,_,by rw [List.map_append,List.map_append]; rfl,by rw [List.length_append,List.length_append,hl]; rfl,by rw [List.length_append,List.length_singleton]; omega,fun a h=>?_,fun r h=>?_,?_,fun r h=>?_,fun v=>by rw [A28 hl,hb0 v,B1i hj]; grind⟩
    ·rcases List.mem_append.mp h with z | z
     ·exact ha a z
     ·rw [List.mem_singleton.mp z]; exact hwk
    ·rcases List.mem_append.mp h with z | z
     ·exact (hm r z).mono (Nat.mul_le_mul_right _ (by omega))
     ·rw [List.mem_singleton.mp z]; exact oq.mono (Nat.le_mul_of_pos_left _ (by omega))
    ·have nin:w ∉ ar:=fun hmem=>hy (List.any_eq_true.mpr ⟨qD w,List.mem_map_of_mem hmem,PySem.SeqAt.eqv_refl _ hwk.lay⟩);exact List.nodup_append.mpr ⟨nd,by simp,fun a h b h2=>by rw [List.mem_singleton.mp h2]; exact fun e=>nin (e ▸ h)⟩
    ·rcases List.mem_append.mp h with z | z
     ·exact hp0 r z
     ·rw [List.mem_singleton.mp z]; exact qp
  ·rintro e ⟨ar,am,o6,o8,rfl,hl,h12,ha,hm,nd,hp0,hb0⟩;exact ⟨ar,am,_,_,_,rfl,hl,by omega,ha,(fun r h=>(hm r h).mono (Nat.mul_le_mul_right _ (by omega))),nd,hp0,fun v=>by rw [hb0 v,List.take_length,hbw v,Rat.mul_zero]⟩
 ·rintro e ⟨ar,am,o6,o7,o8,rfl,hl,h12,ha,hm,nd,hp0,hb0⟩;have l48:ar.length<=48:=by omega
  have zl:(ar.zip am).length=ar.length:=by rw [List.length_zip]; omega
  trivial;refine ⟨by omega,by rw [J8]; omega,?_⟩;refine O8 (fun i e ys=>∃ o:Option SV,e=[some (.bor (ar.map qD)),some (.bor (am.map dq)),o]/\ys=((ar.zip am).take i).map paD) ⟨_,rfl,rfl⟩ ?_ ?_
  ·rintro i e ys hi ⟨o,rfl,rfl⟩;obtain ⟨a,ea⟩:∃ a,ar[i]?=some a:=⟨_,List.getElem?_eq_getElem (by omega)⟩;obtain ⟨b,eb⟩:∃ a,am[i]?=some a:=⟨_,List.getElem?_eq_getElem (by omega)⟩;trivial;refine C1 ea ?_;trivial;refine C1 eb ?_;trivial;have ez:(ar.zip am)[i]?=some (a,b):=List.getElem?_zip_eq_some.mpr ⟨ea,eb⟩;exact ⟨_,rfl,by rw [List.take_add_one,ez,List.map_append]; rfl⟩
  ·rintro e ys ⟨o,rfl,rfl⟩;rw [List.take_of_length_le (by rw [zl]; omega)];trivial;refine ⟨((ar.zip am).length:Int) + 1,by simp,by omega,M1 (B:=50) (by omega) (by omega) (by decide),fun c c0 c1=>?_⟩;trivial;obtain ⟨u,rfl⟩:=Int.eq_ofNat_of_zero_le c0;have hu:u<=(ar.zip am).length:=by omega
   rw [B5u hu,C2a hu,<- List.map_append];have mz:(ar.zip am).map (·.1)=ar:=List.map_fst_zip (by omega);refine ⟨by rw [List.length_map,List.length_map,List.length_drop,List.length_take]; omega,k _ ⟨by rw [List.length_append,List.length_drop,List.length_take]; omega,fun p h=>?_,?_,fun v _=>?_⟩⟩
   ·have hpz:p ∈ ar.zip am:=by
     rcases List.mem_append.mp h with z | z
     ·exact List.mem_of_mem_drop z
     ·exact List.mem_of_mem_take z
    obtain ⟨j,hj,e⟩:=List.getElem_of_mem hpz;have pj:(ar.zip am)[j]?=some p:=by rw [List.getElem?_eq_getElem hj,e]
    obtain ⟨p1,p2⟩:=List.getElem?_zip_eq_some.mp pj;have m2:=List.mem_of_getElem? p2;exact ⟨ha _ (List.mem_of_getElem? p1),(hm _ m2).mono (Nat.le_trans (Nat.mul_le_mul_right _ (show _<=64 by omega)) (Nat.le_of_ble_eq_true rfl)),hp0 _ m2⟩
   ·have nd':((ar.zip am).map (·.1)).Nodup:=by rw [mz]; exact nd
    rw [<- List.take_append_drop u (ar.zip am),List.map_append] at nd';rw [List.map_append];obtain ⟨n1,n2,n3⟩:=List.nodup_append.mp nd';exact List.nodup_append.mpr ⟨n2,n1,fun a h b h2 e=>n3 b h2 a h e.symm⟩
   ·have:=hb0 v;rw [<- List.take_append_drop u (ar.zip am),A0s] at this;rw [A0s]; grind
def A66:Pu.PSp:=fun as Q=>∃ (kd:Str) (cs:LR) (t:Rat) (c0:Rat × Rat),as=[.d (offD kd cs),.d (dq t)]/\Kd kd/\OfG kd cs 100 54 244 130/\OnC cs/\(kd="straight"->OnP cs)/\On (LL * 4) (2 ^ 50) t/\Off kd cs t/\cs[0]?=some c0/\∀ p,On B5 (2 ^ 98) p->(∀ r,lm (cs.map (val r)) (val r c0)<=p + r * t)->Q (.d (dq p))
theorem A8h (T:Txt K mg D):FnOk P w K mg base CX0 3 D.a_b9 D.d_b9 ["_law_offer_here","_law_time"] (Pu.spOf K [.dat,.dat] A66):=by
 refine T.F_b9.ok sc_b9 (Pu.spOf.len rfl) (fun cdv A outer s H vs Q E hr h=>?_);refine ⟨_,(QSs.out (A5 (B8 (i:=2) sc_b9.nd rfl (Or.inl rfl) (B2 (A8 (K:=K) rfl) (qpv 0) A4 (fun _ _=>rfl)))
   (A5 (F0 PassesOwn.never rfl (F2 rfl T.z_range (A0 (C2 (C5 (K:=K) rfl) (by rfl) T.z_len PySem.boot_len (A0 (qpv 2) A3)) A3)) (B3 (i:=3) sc_b9.nd rfl (Or.inl rfl) (Or.inl rfl))
    (A5 (D9 (C6 (F8 (K:=K) rfl hr.units) (B2 (A8 (K:=K) rfl) (B2 (A8 (K:=K) rfl) (qpv 2) (qpv 3) (fun _ _=>rfl)) A4 (fun _ _=>rfl)) (qpv 1) (D4 _))
     (A9 (C4 (B2 (A8 (K:=K) rfl) (B2 (A8 (K:=K) rfl) (qpv 2) (qpv 3) (fun _ _=>rfl)) A4 (fun _ _=>rfl))))
     D1)
    (A9 (D9 (E9 (A7 (J0 (K:=K) T) hr.mo rfl T.m_bc T.F_bc.kp (K6 T) .nil C0 (A0 (B2 (A8 (K:=K) rfl) (B2 (A8 (K:=K) rfl) (qpv 2) (qpv 3) (fun _ _=>rfl)) A4 (fun _ _=>rfl)) (A0 (qpv 1) A3))))
     (A5 (B8 (i:=4) sc_b9.nd rfl (Or.inl rfl) (A7 (K1 (K:=K) T) hr.mo rfl T.m_b6 T.F_b6.kp (L6 T) .nil C0 (A0 (B2 (A8 (K:=K) rfl) (B2 (A8 (K:=K) rfl) (qpv 2) (qpv 3) (fun _ _=>rfl)) A4 (fun _ _=>rfl)) (A0 (B2 (A8 (K:=K) rfl) (B2 (A8 (K:=K) rfl) (qpv 2) (C3 N9 (qpv 3) A4) (fun _ _=>rfl)) A4 (fun _ _=>rfl)) A3))))
     (A5 (B8 (i:=5) sc_b9.nd rfl (Or.inl rfl) (A7 (K1 (K:=K) T) hr.mo rfl T.m_b6 T.F_b6.kp (L6 T) .nil C0 (A0 (B2 (A8 (K:=K) rfl) (B2 (A8 (K:=K) rfl) (qpv 2) (C3 N9 (qpv 3) A4) (fun _ _=>rfl)) A4 (fun _ _=>rfl)) (A0 (B2 (A8 (K:=K) rfl) (B2 (A8 (K:=K) rfl) (qpv 2) (qpv 3) (fun _ _=>rfl)) A4 (fun _ _=>rfl)) A3))))
     (A5 (B8 (i:=6) sc_b9.nd rfl (Or.inl rfl) (A7 (K1 (K:=K) T) hr.mo rfl T.m_b6 T.F_b6.kp (L6 T) .nil C0 (A0 (B2 (A8 (K:=K) rfl) (B2 (A8 (K:=K) rfl) (qpv 2) (C3 N9 (qpv 3) A4) (fun _ _=>rfl)) A4 (fun _ _=>rfl)) (A0 (qpv 1) A3))))
     (A9 (C4 (A7 (G4 (K:=K) T) hr.mo rfl T.m_c2 T.F_c2.kp (J5 T) .nil C0 (A0 (B2 (A8 (K:=K) rfl) (B2 (A8 (K:=K) rfl) (qpv 2) (C3 N9 (qpv 3) A4) (fun _ _=>rfl)) A4 (fun _ _=>rfl)) (A0 (A7 (Q6 (K:=K) T) hr.mo rfl T.m_bb T.F_bb.kp (T7 T) .nil C0 (A0 (qpv 4) (A0 (A7 (P8 (K:=K) T) hr.mo rfl T.m_c9 T.F_c9.kp (V9 T) .nil C0 (A0 (C3 E7 (B2 (A8 (K:=K) rfl) (qpv 6) A4 (fun _ _=>rfl)) (B2 (A8 (K:=K) rfl) (qpv 5) A4 (fun _ _=>rfl))) (A0 (C3 E7 (B2 (A8 (K:=K) rfl) (qpv 6) A4 (fun _ _=>rfl)) (B2 (A8 (K:=K) rfl) (qpv 5) A4 (fun _ _=>rfl))) A3))) A3))) A3))))))))
     D1))))
   (A9 (C4 A6v))))),?_⟩
 haveI:=T.c2_NOUGHT
 refine Pu.G3 h ?_;rintro as Qp ⟨kd,cs,t,c0,rfl,hk,og,oc,op,ot,off,e0,k⟩;have n1:=og.ok.ne;have n5:=og.ok.le;have dec:=og.ok.dec;have st:SmQ 3900 t:=onQ ot (by decide) (G2 A17 (by decide)) (Nat.pow_le_pow_right (by decide) (by decide));unfold offD;refine hd fun R hR=>?_;trivial;subst hR;refine hd fun R hR=>?_;trivial;refine ⟨by omega,M9 (fun i e=>∃ o3:Option SV,e=[some (.d (.tuple [.str kd,.list (cs.map dcn)])),some (.d (dq t)),some (.d (.list (cs.map dcn))),o3,none,none,none]/\∀ j c,j < i->cs[j]?=some c->t < c.1) ⟨_,rfl,fun j c z=>absurd z (Nat.not_lt_zero j)⟩ ?_ ?_⟩
 ·rintro i e hi ⟨o3,rfl,hn⟩;obtain ⟨c,ec⟩:∃ c,cs[i]?=some c:=⟨_,List.getElem?_eq_getElem (by omega)⟩;have hcm:=List.mem_of_getElem? ec;obtain ⟨oc1,oc2⟩:=oc c hcm;have sc1:SmQ 3900 c.1:=onL oc1 (by decide);refine hd fun R hR=>?_;trivial;refine C1 ec ?_;trivial;refine ite2 (fun z=>?_) (fun z=>?_)
  ·refine C1 ec ?_;trivial;refine k c.2 ((oc2.up (C:=4) (by decide)).p2 (by decide)) fun r=>?_;have:=(B2q (cs.map (val r)) (val r c0)).2 _ (List.mem_map.mpr ⟨c,hcm,rfl⟩);unfold val at this;rw [<- z];exact this
  subst hR;refine hdI fun S hS=>?_;trivial;refine C1 ec ?_;trivial;refine ⟨_,_,rfl,sc1,st,?_⟩;by_cases lt:c.1 < t
  ·rw [decide_eq_true lt];trivial;have i0:0 < i:=by
    rcases Nat.eq_zero_or_pos i with z0 | z0
    ·exfalso;subst z0;rw [e0] at ec; cases ec;rcases hk with hk | hk
     ·obtain ⟨a,b,h1,_,_,h4⟩:=off.sr hk;rw [e0] at h1; cases h1;exact h4 lt
     ·obtain ⟨a,h1,h2⟩:=off.st hk;obtain ⟨j,hj,e⟩:=List.getElem_of_mem h1;have ej:cs[j]?=some a:=by rw [List.getElem?_eq_getElem hj,e]
      rcases Nat.eq_zero_or_pos j with y | y
      ·subst y; rw [e0] at ej; cases ej; exact z h2
      ·have:=dec.get e0 ej y; grind
    ·exact z0
   obtain ⟨d,ed⟩:∃ d,cs[i - 1]?=some d:=⟨_,List.getElem?_eq_getElem (by omega)⟩;have td:=hn (i - 1) d (by omega) ed;have hdm:=List.mem_of_getElem? ed;obtain ⟨od1,od2⟩:=oc d hdm;have kst:kd="straight":=by
    rcases hk with hk | hk
    ·exact hk
    ·exfalso;obtain ⟨a,h1,h2⟩:=off.st hk;obtain ⟨j,hj,e⟩:=List.getElem_of_mem h1;have ej:cs[j]?=some a:=by rw [List.getElem?_eq_getElem hj,e]
     rcases Nat.lt_trichotomy j i with y | y | y
     ·have:=hn j a y ej; grind
     ·subst y; rw [ec] at ej; cases ej; exact z h2
     ·have:=dec.get ec ej y; grind
   have sd1:SmQ 3900 d.1:=onL od1 (by decide);have L2:0 < LL * LL:=by decide
   have L3:LL * LL<=2 ^ 1000:=G2 (a:=200) (by decide +kernel) (by decide);have sc2:SmQ 3900 c.2:=onQ oc2 L2 L3 (Nat.pow_le_pow_right (by decide) (by decide));have sd2:SmQ 3900 d.2:=onQ od2 L2 L3 (Nat.pow_le_pow_right (by decide) (by decide));have ou:=oc2.sub L2 od2;have su:SmQ 3900 (c.2 - d.2):=onQ ou L2 L3 (by decide);have ogp:=od1.sub E5 oc1;have sg:SmQ 3900 (d.1 - c.1):=onQ ogp E5 C2n (by decide);have osh:On (LL * 4) (2 ^ 51) (d.1 - t):=((od1.up (C:=4) (by decide)).sub (by decide) ot).mono (by decide);have ssh:SmQ 3900 (d.1 - t):=onQ osh (by decide) (G2 A17 (by decide)) (Nat.pow_le_pow_right (by decide) (by decide));have g0:(0:Rat) < d.1 - c.1:=by grind
   have g1:(0:Rat) < d.1 - t:=by grind
   have ei:((i:Nat):Int) - 1=((i - 1:Nat):Int):=by omega
   refine C1 ec ?_;trivial;rw [ei];refine C1 ed ?_;trivial;refine ⟨_,_,rfl,sc2,sd2,?_⟩;trivial;subst hS;refine hd fun R hR=>?_;trivial;rw [ei];refine C1 ed ?_;trivial;refine C1 ec ?_;trivial;refine ⟨_,_,rfl,sd1,sc1,?_⟩;trivial;subst hR;refine hd fun R hR=>?_;trivial;rw [ei];refine C1 ed ?_;trivial;refine ⟨_,_,rfl,sd1,st,?_⟩;trivial;subst hR;trivial;rw [ei];refine C1 ed ?_;trivial;have r1:SmR 150 100 (d.1 - t):=onR osh (by decide) (by decide +kernel) (by decide +kernel);have r2:SmR 150 100 (d.1 - c.1):=onR ogp E5 (by decide +kernel) (by decide +kernel);have rq:SmR 250 250 ((d.1 - t) / (d.1 - c.1)):=r1.div r2 (by grind);refine ⟨⟨ssh.1.mono (by decide),sg.2.mono (by decide)⟩,⟨ssh.2.mono (by decide),sg.1.mono (by decide)⟩,_,_,rfl,Int.mul_pos (denp _) (A2q g0),(ssh.1.mul sg.2).mono (by decide),(ssh.2.mul sg.1).mono (by decide),?_⟩;rw [B6p];trivial;refine ⟨_,_,rfl,su,rq.q (by decide) (by decide),?_⟩;trivial;have om:On B5 (2 ^ 96) (J3 d c * (d.1 - t)):=by
    have:=On.mul (op kst (i - 1) d c ed (by rw [show i - 1 + 1=i by omega]; exact ec)) osh;rw [<- Nat.mul_assoc] at this;exact this.mono (by decide)
   have es:(c.2 - d.2) * ((d.1 - t) / (d.1 - c.1))=J3 d c * (d.1 - t):=by
    unfold J3;rw [Rat.div_def,Rat.div_def];grind
   have B50:0 < B5:=by decide
   have B51:B5<=2 ^ 1000:=G2 (a:=200) (by decide +kernel) (by decide);refine ⟨_,_,rfl,sd2,by rw [es]; exact onQ om B50 B51 (Nat.pow_le_pow_right (by decide) (by decide)),?_⟩;trivial;refine k _ ?_ fun r=>C1b hcm hdm lt td rfl;rw [es];exact (((od2.up (C:=4) (by decide)).add B50 om)).mono (by decide)
  ·rw [decide_eq_false lt];trivial;refine ⟨_,rfl,fun j c' hj hc'=>?_⟩;rcases Nat.lt_succ_iff_lt_or_eq.mp hj with y | y
   ·exact hn j c' y hc'
   ·subst y; rw [ec] at hc'; cases hc';have:=Rat.not_lt.mp lt;grind
 rintro e ⟨o3,rfl,hn⟩;exfalso;have hn':∀ c ∈ cs,t < c.1:=fun c hc=>by
  obtain ⟨j,hj,e⟩:=List.getElem_of_mem hc;exact hn j c (by omega) (by rw [List.getElem?_eq_getElem hj,e])
 rcases hk with hk | hk
 ·obtain ⟨a,b,h1,h2,h3,_⟩:=off.sr hk;exact h3 (hn' b (List.mem_of_getElem? h2))
 ·obtain ⟨a,h1,h2⟩:=off.st hk;have:=hn' a h1;grind
def B14:Pu.PSp:=fun as Q=>∃ (xs:List Wk) (ws:LW) (hs:LH) (gs:LP) (ps:LR),as=[.d (netD xs ws hs gs),.bor (ps.map dcn)]/\ps.length=xs.length/\xs.length<=10/\(∀ x ∈ xs,Kd x.2.1/\OfG x.2.1 x.2.2 100 54 244 130/\OnC x.2.2/\(x.2.1="straight"->OnP x.2.2))/\(∀ p ∈ ps,On (LL * 4) (2 ^ 50) p.2)/\(∀ (i:Nat) x p,xs[i]?=some x->ps[i]?=some p->Off x.2.1 x.2.2 p.2)/\∀ C,On B5 (2 ^ 102) C->(∀ F:Nat->Rat,sumV (lsV xs F) xs.length<=C + sumV (fun v=>F v * (sat ps (v:Int)).2) xs.length)->Q (.d (dq C))
theorem B2j (T:Txt K mg D):FnOk P w K mg base CX0 4 D.a_c0 D.d_c0 ["_law_net","_law_plan"] (Pu.spOf K [.dat,.vw] B14):=by
 refine T.F_c0.ok sc_c0 (Pu.spOf.len rfl) (fun cdv A outer s H vs Q E hr h=>?_);refine ⟨_,(QSs.out (A5 (B8 (i:=2) sc_c0.nd rfl (Or.inl rfl) (C7 (A0 A4 (A0 A4 A3))))
   (A5 (F0 PassesOwn.never rfl (F2 rfl T.z_range (A0 (C2 (C5 (K:=K) rfl) (by rfl) T.z_len PySem.boot_len (A0 (qpv 1) A3)) A3)) (B3 (i:=3) sc_c0.nd rfl (Or.inl rfl) (Or.inl rfl))
    (A9 (B8 (i:=2) sc_c0.nd rfl (Or.inl rfl) (A7 (G4 (K:=K) T) hr.mo rfl T.m_c2 T.F_c2.kp (J5 T) .nil C0 (A0 (qpv 2) (A0 (A7 (A8h (K:=K) T) hr.mo rfl T.m_b9 T.F_b9.kp (B28 T) .nil C0 (A0 (B2 (A8 (K:=K) rfl) (B2 (A8 (K:=K) rfl) (B2 (A8 (K:=K) rfl) (qpv 0) A4 (fun _ _=>rfl)) (qpv 3) (fun _ _=>rfl)) A4 (fun _ _=>rfl)) (A0 (B2 (A8 (K:=K) rfl) (B2 (A8 (K:=K) rfl) (qpv 1) (qpv 3) (fun _ _=>rfl)) A4 (fun _ _=>rfl)) A3))) A3))))))
   (A9 (C4 (qpv 2)))))),?_⟩
 haveI:=T.c2_NOUGHT
 refine Pu.G3 h ?_;rintro as Qp ⟨xs,ws,hs,gs,ps,rfl,pl,n1,of,op,off,k⟩;have B50:0 < B5:=by decide
 have B51:B5<=2 ^ 1000:=G2 (a:=200) (by decide +kernel) (by decide);have sB:∀ {k:Nat} {q:Rat},On B5 k q->k<=2 ^ 200->SmQ 3900 q:=fun h g=>onQ h B50 B51 (Nat.le_trans g (Nat.pow_le_pow_right (by decide) (by decide)));unfold netD;refine hd fun R hR=>?_;trivial;subst hR;refine hd fun R hR=>?_;trivial;refine ⟨by omega,M9 (fun i e=>∃ (C:Rat) (o3:Option SV),e=[some (.d (.tuple [.list (xs.map kD),.list (ws.map wD),.list (hs.map hD),.list gs])),some (.bor (ps.map dcn)),some (.d (dq C)),o3]/\On B5 (i * 2 ^ 98) C/\∀ F:Nat->Rat,sumV (lsV xs F) i<=C + sumV (fun v=>F v * (sat ps (v:Int)).2) i) ⟨0,_,rfl,On.zero.mono (Nat.zero_le _),fun F=>by show (0:Rat)<=0 + 0; grind⟩ ?_ ?_⟩
 ·rintro i e hi ⟨C,o3,rfl,oC,hC⟩;have hil:i < xs.length:=by omega
  obtain ⟨x,hx⟩:∃ x,xs[i]?=some x:=⟨_,List.getElem?_eq_getElem hil⟩;have hp:=Z1 (ps:=ps) (i:=i) (by omega);obtain ⟨h1,h2,h3,h4⟩:=of x (List.mem_of_getElem? hx);obtain ⟨c0,e0⟩:∃ c,x.2.2[0]?=some c:=⟨_,List.getElem?_eq_getElem (by have:=h2.ok.ne; omega)⟩;trivial;refine C1 hx ?_;rw [show kD x=PyData.tuple [.str x.1,offD x.2.1 x.2.2] from rfl];trivial;refine C1 hp ?_;trivial;refine ⟨x.2.1,x.2.2,_,c0,rfl,h1,h2,h3,h4,op _ (List.mem_of_getElem? hp),off i x _ hx hp,e0,fun p oq hq=>?_⟩;trivial;refine ⟨_,_,rfl,sB oC (Nat.le_trans (Nat.mul_le_mul_right _ (show i<=16 by omega)) (by decide)),sB oq (by decide),?_⟩;trivial;refine ⟨_,_,rfl,(oC.add B50 oq).mono (by rw [Nat.add_mul,Nat.one_mul]; exact Nat.le_refl _),fun F=>?_⟩;have z1:=hC F;have z2:=hq (F i);rw [E8,E8];have e1:lsV xs F i=lm (x.2.2.map (val (F i))) (val (F i) c0):=by
   unfold lsV;rw [hx];show lm (x.2.2.map (val (F i))) (val (F i) ((x.2.2[0]?).getD (0,0)))=_;rw [e0]; rfl
  rw [e1];grind
 rintro e ⟨C,o3,rfl,oC,hC⟩;subst hR;trivial;rw [Int.toNat_natCast,pl] at hC oC;exact k C (oC.mono (Nat.le_trans (Nat.mul_le_mul_right _ (show _<=16 by omega)) (by decide))) hC
def A69:Pu.PSp:=fun as Q=>∃ (n:Nat) (xs:List Wk) (vs:List (Int × Int)) (us:List (Str × Int)) (ns:List Int),as=[.d (shD xs vs us),.bor (ns.map .int)]/\ShOk n xs vs us/\∀ ws hs,LN xs ws hs []->ws.map (fun w=>(w.1,w.2.1))=vs->hs.map (fun h=>(h.1,h.2.1))=us->Q (.d (netD xs ws hs []))
theorem A8k (T:Txt K mg D):FnOk P w K mg base CX0 3 D.a_b5 D.d_b5 ["_law_shape_here","_law_script"] (Pu.spOf K [.dat,.vw] A69):=by
 refine T.F_b5.ok sc_b5 (Pu.spOf.len rfl) (fun cdv A outer s H vs Q E hr h=>?_);refine ⟨_,(QSs.out (A5 (F4 (qpv 0) (D0 (K:=K) (n:=3) rfl rfl (B7 (B3 (i:=2) sc_b5.nd rfl (Or.inl rfl) (Or.inl rfl)) (B7 (B3 (i:=3) sc_b5.nd rfl (Or.inl rfl) (Or.inl rfl)) (B7 (B3 (i:=4) sc_b5.nd rfl (Or.inl rfl) (Or.inl rfl)) C9))) rfl rfl))
   (A5 (B8 (i:=5) sc_b5.nd rfl (Or.inl rfl) (E6 A3))
   (A5 (F0 PassesOwn.never rfl (F2 rfl T.z_range (A0 (C2 (C5 (K:=K) rfl) (by rfl) T.z_len PySem.boot_len (A0 (qpv 3) A3)) A3)) (B3 (i:=6) sc_b5.nd rfl (Or.inl rfl) (Or.inl rfl))
    (A5 (B8 (i:=7) sc_b5.nd rfl (Or.inl rfl) (A7 (K7 (K:=K) T) hr.mo rfl T.m_b3 T.F_b3.kp (M3 T) .nil C0 (A0 (qpv 1) (A0 (C3 G6 A4 (qpv 6)) A3))))
    (A5 (F9 (A7 (C8 (K:=K) T) hr.mo rfl T.m_c4 T.F_c4.kp (D5 T) .nil C0 (A0 (qpv 7) (A0 A4 A3))))
    (A5 (B8 (i:=8) sc_b5.nd rfl (Or.inl rfl) (A7 (J7 (K:=K) T) hr.mo rfl T.m_ab T.F_ab.kp (K9 T) .nil C0 (A0 (qpv 7) (A0 J6 (A0 A4 A3)))))
    (A5 (D9 (QW.pt (L8 (C6 U7 (B2 (A8 (K:=K) rfl) (B2 (A8 (K:=K) rfl) (qpv 3) (qpv 6) (fun _ _=>rfl)) A4 (fun _ _=>rfl)) (B2 (A8 (K:=K) rfl) (B2 (A8 (K:=K) rfl) (qpv 3) (qpv 6) (fun _ _=>rfl)) A4 (fun _ _=>rfl)) (D4 _)) (L4 (C6 U7 (A7 (C8 (K:=K) T) hr.mo rfl T.m_c4 T.F_c4.kp (D5 T) .nil C0 (A0 (qpv 7) (A0 A4 A3))) A4 (D4 _)))))
     (A9 (B8 (i:=8) sc_b5.nd rfl (Or.inl rfl) (A7 (K1 (K:=K) T) hr.mo rfl T.m_b6 T.F_b6.kp (L6 T) .nil C0 (A0 (C7 (A0 A4 (A0 A4 A3))) (A0 (A7 (G4 (K:=K) T) hr.mo rfl T.m_c2 T.F_c2.kp (J5 T) .nil C0 (A0 (qpv 8) (A0 (B2 (A8 (K:=K) rfl) (E6 (A0 (C7 (A0 A4 (A0 A4 A3))) (A0 (C7 (A0 A4 (A0 A4 A3))) (A0 (C7 (A0 (C3 U6 A4 A4) (A0 A4 A3))) A3)))) (A7 (C8 (K:=K) T) hr.mo rfl T.m_c4 T.F_c4.kp (D5 T) .nil C0 (A0 (qpv 7) (A0 A4 A3))) (fun _ _=>rfl)) A3))) A3)))))
     D1)
    (A9 (F9 (J9 (K:=K) rfl PySem.F.plainAttrs_list PySem.F.slot_list_append PySem.F.type_list_append G7 (qpv 5) (A0 (C7 (A0 (B2 (A8 (K:=K) rfl) (B2 (A8 (K:=K) rfl) (qpv 3) (qpv 6) (fun _ _=>rfl)) A4 (fun _ _=>rfl)) (A0 (B2 (A8 (K:=K) rfl) (B2 (A8 (K:=K) rfl) (qpv 3) (qpv 6) (fun _ _=>rfl)) A4 (fun _ _=>rfl)) (A0 (qpv 8) A3)))) A3)))))))))
   (A5 (B8 (i:=9) sc_b5.nd rfl (Or.inl rfl) (E6 A3))
   (A5 (F0 PassesOwn.never rfl (F2 rfl T.z_range (A0 (C2 (C5 (K:=K) rfl) (by rfl) T.z_len PySem.boot_len (A0 (qpv 4) A3)) A3)) (B3 (i:=6) sc_b5.nd rfl (Or.inl rfl) (Or.inl rfl))
    (A5 (B8 (i:=7) sc_b5.nd rfl (Or.inl rfl) (A7 (K7 (K:=K) T) hr.mo rfl T.m_b3 T.F_b3.kp (M3 T) .nil C0 (A0 (qpv 1) (A0 (C3 G6 A4 (qpv 6)) A3))))
    (A5 (F9 (A7 (C8 (K:=K) T) hr.mo rfl T.m_c4 T.F_c4.kp (D5 T) .nil C0 (A0 (qpv 7) (A0 A4 A3))))
    (A5 (B8 (i:=10) sc_b5.nd rfl (Or.inl rfl) (A7 (J7 (K:=K) T) hr.mo rfl T.m_ab T.F_ab.kp (K9 T) .nil C0 (A0 (qpv 7) (A0 J6 (A0 A4 A3)))))
    (A5 (B8 (i:=11) sc_b5.nd rfl (Or.inl rfl) (A7 (C8 (K:=K) T) hr.mo rfl T.m_c4 T.F_c4.kp (D5 T) .nil C0 (A0 (qpv 7) (A0 A4 A3))))
    (A5 (D9 (QW.pt (L8 (C6 (P6 (K:=K) rfl hr.units) (B2 (A8 (K:=K) rfl) (B2 (A8 (K:=K) rfl) (qpv 4) (qpv 6) (fun _ _=>rfl)) A4 (fun _ _=>rfl)) D3 (D4 _)) (L4 (C6 U7 (qpv 11) A4 (D4 _)))))
     (A9 (B8 (i:=10) sc_b5.nd rfl (Or.inl rfl) (A7 (G4 (K:=K) T) hr.mo rfl T.m_c2 T.F_c2.kp (J5 T) .nil C0 (A0 (qpv 10) (A0 (B2 (A8 (K:=K) rfl) (E6 (A0 (C7 (A0 A4 (A0 A4 A3))) (A0 (C7 (A0 A4 (A0 A4 A3))) (A0 (C7 (A0 (C3 U6 A4 A4) (A0 A4 A3))) (A0 (C7 (A0 (C3 U6 A4 A4) (A0 A4 A3))) A3))))) (A7 (C8 (K:=K) T) hr.mo rfl T.m_c4 T.F_c4.kp (D5 T) .nil C0 (A0 (qpv 7) (A0 A4 A3))) (fun _ _=>rfl)) A3)))))
     (A9 (D9 (C6 A5m (qpv 11) A4 (D4 _))
      (A9 (B8 (i:=10) sc_b5.nd rfl (Or.inl rfl) (A7 (K1 (K:=K) T) hr.mo rfl T.m_b6 T.F_b6.kp (L6 T) .nil C0 (A0 (C7 (A0 A4 (A0 A4 A3))) (A0 (qpv 10) A3)))))
      D1)))
    (A9 (F9 (J9 (K:=K) rfl PySem.F.plainAttrs_list PySem.F.slot_list_append PySem.F.type_list_append G7 (qpv 9) (A0 (C7 (A0 (B2 (A8 (K:=K) rfl) (B2 (A8 (K:=K) rfl) (qpv 4) (qpv 6) (fun _ _=>rfl)) A4 (fun _ _=>rfl)) (A0 (B2 (A8 (K:=K) rfl) (B2 (A8 (K:=K) rfl) (qpv 4) (qpv 6) (fun _ _=>rfl)) A4 (fun _ _=>rfl)) (A0 (qpv 10) A3)))) A3))))))))))
   (A9 (C4 (C7 (A0 (qpv 2) (A0 (qpv 5) (A0 (qpv 9) (A0 (E6 A3) A3))))))))))))),?_⟩
 haveI:=T.c2_NOUGHT
 refine Pu.G3 h ?_;rintro as Qp ⟨n,xs,vs,us,ns,rfl,ok,k⟩;have n1:=ok.n1;have ln:=ok.ln;have vl:=ok.vl;have ul:=ok.ul;refine hd fun R hR=>?_;unfold shD;trivial;subst hR;refine hd fun R hR=>?_;trivial;subst hR;refine hd fun R hR=>?_;trivial;refine ⟨by omega,M9 (fun i e=>∃ (ws:LW) (o6 o7 o8:Option SV),e=[some (.d (.tuple [.list (xs.map kD),.list (vs.map pD),.list (us.map qD)])),some (.bor (ns.map .int)),some (.d (.list (xs.map kD))),some (.d (.list (vs.map pD))),some (.d (.list (us.map qD))),some (.own (ws.map wD)),o6,o7,o8,none,none,none]/\ws.length=i/\(∀ w ∈ ws,LnW n w)/\ws.map (fun w=>(w.1,w.2.1))=vs.take i) ⟨[],_,_,_,rfl,rfl,(fun _ z=>nomatch z),rfl⟩ ?_ ?_⟩
 ·rintro i e hi ⟨ws,o6,o7,o8,rfl,lw,hw,mw⟩;obtain ⟨⟨v1,v2⟩,ev⟩:∃ z,vs[i]?=some z:=⟨_,List.getElem?_eq_getElem (by omega)⟩;have vk:=ok.vk _ (List.mem_of_getElem? ev);have fin:∀ q:Rat,O4 q->∀ w ∈ ws++[(v1,v2,q)],LnW n w:=fun q oq w h=>by
   rcases List.mem_append.mp h with z | z
   ·exact hw w z
   ·rw [List.mem_singleton.mp z]; exact ⟨vk.1,vk.2,oq⟩
  refine hd fun R hR=>?_;trivial;refine ⟨ns,_,rfl,by omega,by omega,?_⟩;trivial;subst hR;refine hd fun R hR=>?_;trivial;refine ⟨7907,rfl,by decide,M1 (B:=7907) (by omega) (by omega) (by decide),fun d d0 d1=>?_⟩;trivial;subst hR;refine hd fun R hR=>?_;trivial;refine ⟨_,_,rfl,.inl rfl,fun q q0 _ sq _=>?_⟩;have oq:=O0 sq;trivial;subst hR;refine Z0 (fun e=>∃ (q:Rat) (o7:Option SV),e=[some (.d (.tuple [.list (xs.map kD),.list (vs.map pD),.list (us.map qD)])),some (.bor (ns.map .int)),some (.d (.list (xs.map kD))),some (.d (.list (vs.map pD))),some (.d (.list (us.map qD))),some (.own (ws.map wD)),some (.d (.int (i:Int))),o7,some (.d (dq q)),none,none,none]/\O4 q) (fun R hR=>?_) ?_
  ·refine hd3 fun S hS=>?_;trivial;refine C1 ev ?_;rw [show pD (v1,v2)=PyData.tuple [.int v1,.int v2] from rfl];trivial;refine C1 ev ?_;rw [show pD (v1,v2)=PyData.tuple [.int v1,.int v2] from rfl];trivial;refine ite2 (fun _=>?_) (fun _=>hR _ ⟨q,_,rfl,A5t oq (by decide)⟩);refine ⟨6,rfl,by decide,sm4 6,fun b b0 b1=>?_⟩;trivial;refine ite2 (fun _=>?_) (fun _=>hR _ ⟨q,_,rfl,A5t oq (by decide)⟩);subst hS;generalize hL:pLst _=L;trivial;subst hL;refine lit3 fun qs ql hq=>?_;trivial;refine ⟨3,rfl,by decide,sm4 3,fun g g0 g1=>?_⟩;trivial;obtain ⟨g,rfl⟩:=Int.eq_ofNat_of_zero_le g0;obtain ⟨y,ey⟩:∃ z,qs[g]?=some z:=⟨_,List.getElem?_eq_getElem (by omega)⟩;have oy:=hq y (List.mem_of_getElem? ey);have os:=(oq.p2 (b:=44) (by decide)).add2 (b:=45) E5 oy (by decide);refine C1 ey ?_;trivial;refine ⟨_,_,rfl,onL oq (by decide),onL oy (by decide),?_⟩;trivial;refine ⟨0,_,rfl,smq0,onL os (by decide),?_⟩;trivial;exact hR _ ⟨_,_,rfl,A5t ((On.zero.mono (Nat.zero_le (2 ^ 45))).sub2 (b:=46) E5 os (by decide)) (by decide)⟩
  ·rintro e ⟨q,o7,rfl,o4⟩;trivial;refine C1 ev ?_;rw [show pD (v1,v2)=PyData.tuple [.int v1,.int v2] from rfl];trivial;refine C1 ev ?_;rw [show pD (v1,v2)=PyData.tuple [.int v1,.int v2] from rfl];trivial;exact ⟨by omega,ws++[(v1,v2,q)],_,_,_,by rw [List.map_append]; rfl,by rw [List.length_append,lw]; rfl,fin q o4,by rw [List.map_append,mw,List.take_add_one,ev]; rfl⟩
 rintro e ⟨ws,o6,o7,o8,rfl,lw,hw,mw⟩;subst hR;dsimp only;refine hd fun R hR=>?_;trivial;subst hR;refine hd fun R hR=>?_;trivial;refine ⟨by omega,M9 (fun i e=>∃ (hs:LH) (o6 o7 o10 o11:Option SV),e=[some (.d (.tuple [.list (xs.map kD),.list (vs.map pD),.list (us.map qD)])),some (.bor (ns.map .int)),some (.d (.list (xs.map kD))),some (.d (.list (vs.map pD))),some (.d (.list (us.map qD))),some (.own (ws.map wD)),o6,o7,o8,some (.own (hs.map hD)),o10,o11]/\hs.length=i/\(∀ h ∈ hs,LnH n h)/\hs.map (fun h=>(h.1,h.2.1))=us.take i) ⟨[],_,_,_,_,rfl,rfl,(fun _ z=>nomatch z),rfl⟩ ?_ ?_⟩
 ·rintro i e hi ⟨hs,o6,o7,o10,o11,rfl,lh,hh,mh⟩;obtain ⟨⟨u1,u2⟩,eu⟩:∃ z,us[i]?=some z:=⟨_,List.getElem?_eq_getElem (by omega)⟩;have uk:=ok.uk _ (List.mem_of_getElem? eu);have fin:∀ q:Rat,O4 q->∀ h ∈ hs++[(u1,u2,q)],LnH n h:=fun q oq w h=>by
   rcases List.mem_append.mp h with z | z
   ·exact hh w z
   ·rw [List.mem_singleton.mp z]; exact ⟨uk.1,uk.2,oq⟩
  refine hd fun R hR=>?_;trivial;refine ⟨ns,_,rfl,by omega,by omega,?_⟩;trivial;subst hR;refine hd fun R hR=>?_;trivial;refine ⟨7907,rfl,by decide,M1 (B:=7907) (by omega) (by omega) (by decide),fun d d0 d1=>?_⟩;trivial;subst hR;refine hd fun R hR=>?_;trivial;refine ⟨_,_,rfl,.inl rfl,fun q q0 _ sq _=>?_⟩;have oq:=O0 sq;trivial;subst hR;refine hd fun R hR=>?_;trivial;refine ⟨8,rfl,by decide,sm4 8,fun b b0 b1=>?_⟩;trivial;subst hR;refine Z0 (fun e=>∃ (q:Rat) (o7 o11:Option SV),e=[some (.d (.tuple [.list (xs.map kD),.list (vs.map pD),.list (us.map qD)])),some (.bor (ns.map .int)),some (.d (.list (xs.map kD))),some (.d (.list (vs.map pD))),some (.d (.list (us.map qD))),some (.own (ws.map wD)),some (.d (.int (i:Int))),o7,o8,some (.own (hs.map hD)),some (.d (dq q)),o11]/\O4 q) (fun R hR=>?_) ?_
  ·generalize hL:pLst _=L;trivial;refine C1 eu ?_;rw [show qD (u1,u2)=PyData.tuple [.str u1,.int u2] from rfl];trivial;refine ⟨uk.1.lay,A1e,ite2 (fun _=>ite2 (fun _=>?_) (fun _=>?_)) (fun _=>?_)⟩
   ·subst hL;refine lit4 fun qs ql hq=>?_;trivial;refine ⟨4,rfl,by decide,sm4 4,fun g g0 g1=>?_⟩;trivial;obtain ⟨g,rfl⟩:=Int.eq_ofNat_of_zero_le g0;obtain ⟨y,ey⟩:∃ z,qs[g]?=some z:=⟨_,List.getElem?_eq_getElem (by omega)⟩;have oy:=hq y (List.mem_of_getElem? ey);have os:=(oq.p2 (b:=44) (by decide)).add2 (b:=45) E5 oy (by decide);refine C1 ey ?_;trivial;refine ⟨_,_,rfl,onL oq (by decide),onL oy (by decide),?_⟩;trivial;exact hR _ ⟨_,_,_,rfl,A5t os (by decide)⟩
   all_goals
    trivial;refine ite2 (fun _=>?_) (fun _=>hR _ ⟨q,_,_,rfl,A5t oq (by decide)⟩);trivial;refine ⟨0,_,rfl,smq0,onL oq (by decide),?_⟩;trivial;exact hR _ ⟨_,_,_,rfl,A5t ((On.zero.mono (Nat.zero_le (2 ^ 41))).sub2 (b:=42) E5 oq (by decide)) (by decide)⟩
  ·rintro e ⟨q,o7,o11,rfl,o4⟩;trivial;refine C1 eu ?_;rw [show qD (u1,u2)=PyData.tuple [.str u1,.int u2] from rfl];trivial;refine C1 eu ?_;rw [show qD (u1,u2)=PyData.tuple [.str u1,.int u2] from rfl];trivial;exact ⟨by omega,hs++[(u1,u2,q)],_,_,_,_,by rw [List.map_append]; rfl,by rw [List.length_append,lh]; rfl,fin q o4,by rw [List.map_append,mh,List.take_add_one,eu]; rfl⟩
 rintro e ⟨hs,o6,o7,o10,o11,rfl,lh,hh,mh⟩;subst hR;trivial;refine k ws hs ⟨by rw [ln]; exact ok.n0,by omega,fun x hx=>?_,ok.nm,by omega,by omega,by rw [ln]; exact hw,by rw [ln]; exact hh,.inl rfl⟩ (by rw [mw]; exact List.take_of_length_le (by omega)) (by rw [mh]; exact List.take_of_length_le (by omega));obtain ⟨a,b,c,_⟩:=ok.of x hx;exact ⟨a,b,c⟩
def W1:Pu.PSp:=fun as Q=>∃ (xs:List Wk) (ws:LW) (hs:LH) (gs:LP) (ns:List Int) (a:Int),as=[.d (netD xs ws hs gs),.bor (ns.map .int),.d (.int a)]/\0<=a/\a<=100/\LN xs ws hs gs/\∀ ts:LQ,ts.length=xs.length->(∀ t ∈ ts,On (LL * 4) (2 ^ 50) t)->(∀ (i:Nat) x t,xs[i]?=some x->ts[i]?=some t->Off x.2.1 x.2.2 t)->Q (.own (ts.map dq))
theorem W2 (T:Txt K mg D):FnOk P w K mg base CX0 3 D.a_a1 D.d_a1 ["_law_net","_law_script","_law_at"] (Pu.spOf K [.dat,.vw,.dat] W1):=by
 refine T.F_a1.ok sc_a1 (Pu.spOf.len rfl) (fun cdv A outer s H vs Q E hr h=>?_);refine ⟨_,(QSs.out (A5 (B8 (i:=3) sc_a1.nd rfl (Or.inl rfl) (E6 A3))
   (A5 (F0 PassesOwn.never rfl (F2 rfl T.z_range (A0 (C2 (C5 (K:=K) rfl) (by rfl) T.z_len PySem.boot_len (A0 (B2 (A8 (K:=K) rfl) (qpv 0) A4 (fun _ _=>rfl)) A3)) A3)) (B3 (i:=4) sc_a1.nd rfl (Or.inl rfl) (Or.inl rfl))
    (A5 (B8 (i:=5) sc_a1.nd rfl (Or.inl rfl) (A7 (K7 (K:=K) T) hr.mo rfl T.m_b3 T.F_b3.kp (M3 T) .nil C0 (A0 (qpv 1) (A0 (C3 G6 (qpv 2) (qpv 4)) A3))))
    (A5 (F9 (A7 (C8 (K:=K) T) hr.mo rfl T.m_c4 T.F_c4.kp (D5 T) .nil C0 (A0 (qpv 5) (A0 A4 A3))))
    (A5 (F4 (B2 (A8 (K:=K) rfl) (B2 (A8 (K:=K) rfl) (B2 (A8 (K:=K) rfl) (qpv 0) A4 (fun _ _=>rfl)) (qpv 4) (fun _ _=>rfl)) A4 (fun _ _=>rfl)) (D0 (K:=K) (n:=2) rfl rfl (B7 (B3 (i:=6) sc_a1.nd rfl (Or.inl rfl) (Or.inl rfl)) (B7 (B3 (i:=7) sc_a1.nd rfl (Or.inl rfl) (Or.inl rfl)) C9)) rfl rfl))
    (A5 (B8 (i:=8) sc_a1.nd rfl (Or.inl rfl) (A7 (C8 (K:=K) T) hr.mo rfl T.m_c4 T.F_c4.kp (D5 T) .nil C0 (A0 (qpv 5) (A0 (C2 (C5 (K:=K) rfl) (by rfl) T.z_len PySem.boot_len (A0 (qpv 7) A3)) A3))))
    (A5 (B8 (i:=9) sc_a1.nd rfl (Or.inl rfl) (B2 (A8 (K:=K) rfl) (B2 (A8 (K:=K) rfl) (qpv 7) (qpv 8) (fun _ _=>rfl)) A4 (fun _ _=>rfl)))
    (A5 (D9 (QW.pt (L8 (C6 (F8 (K:=K) rfl hr.units) (qpv 6) D3 (D4 _)) (L8 (C6 U7 (qpv 8) A4 (D4 _)) (L4 (C6 (F8 (K:=K) rfl hr.units) (A7 (C8 (K:=K) T) hr.mo rfl T.m_c4 T.F_c4.kp (D5 T) .nil C0 (A0 (qpv 5) (A0 A4 A3))) A4 (D4 _))))))
     (A5 (B8 (i:=10) sc_a1.nd rfl (Or.inl rfl) (A7 (K1 (K:=K) T) hr.mo rfl T.m_b6 T.F_b6.kp (L6 T) .nil C0 (A0 (B2 (A8 (K:=K) rfl) (B2 (A8 (K:=K) rfl) (qpv 7) (C3 N9 (qpv 8) A4) (fun _ _=>rfl)) A4 (fun _ _=>rfl)) (A0 (qpv 9) A3))))
     (A9 (B8 (i:=9) sc_a1.nd rfl (Or.inl rfl) (A7 (G4 (K:=K) T) hr.mo rfl T.m_c2 T.F_c2.kp (J5 T) .nil C0 (A0 (qpv 9) (A0 (A7 (Q6 (K:=K) T) hr.mo rfl T.m_bb T.F_bb.kp (T7 T) .nil C0 (A0 (qpv 10) (A0 (A7 (P8 (K:=K) T) hr.mo rfl T.m_c9 T.F_c9.kp (V9 T) .nil C0 (A0 (C3 G6 A4 (A7 (C8 (K:=K) T) hr.mo rfl T.m_c4 T.F_c4.kp (D5 T) .nil C0 (A0 (qpv 5) (A0 A4 A3)))) (A0 A4 A3))) A3))) A3))))))
     D1)
    (A9 (F9 (J9 (K:=K) rfl PySem.F.plainAttrs_list PySem.F.slot_list_append PySem.F.type_list_append G7 (qpv 3) (A0 (qpv 9) A3)))))))))))
   (A9 (C4 (qpv 3)))))),?_⟩
 haveI:=T.c2_NOUGHT
 refine Pu.G3 h ?_;rintro as Qp ⟨xs,ws,hs,gs,ns,a,rfl,a0,a1,ok,k⟩;have n0:=ok.n0;have n1:=ok.n1;unfold netD;refine hd fun R hR=>?_;trivial;subst hR;refine hd fun R hR=>?_;trivial;refine ⟨by omega,M9 (fun i e=>∃ (ts:LQ) (o4 o5 o6 o7 o8 o9 o10:Option SV),e=[some (.d (.tuple [.list (xs.map kD),.list (ws.map wD),.list (hs.map hD),.list gs])),some (.bor (ns.map .int)),some (.d (.int a)),some (.own (ts.map dq)),o4,o5,o6,o7,o8,o9,o10]/\ts.length=i/\(∀ t ∈ ts,On (LL * 4) (2 ^ 50) t)/\∀ (i:Nat) x t,xs[i]?=some x->ts[i]?=some t->Off x.2.1 x.2.2 t) ⟨[],_,_,_,_,_,_,_,rfl,rfl,(fun _ z=>nomatch z),fun _ _ _ _ z=>by simp at z⟩ ?_ ?_⟩
 ·rintro i e hi ⟨ts,o4,o5,o6,o7,o8,o9,o10,rfl,tl,ht,hf⟩;obtain ⟨x,ex⟩:∃ z,xs[i]?=some z:=⟨_,List.getElem?_eq_getElem (by omega)⟩;obtain ⟨hk,og,oc⟩:=ok.of x (List.mem_of_getElem? ex);have l0:=og.ok.ne;have l5:=og.ok.le;have fin:∀ q:Rat,On (LL * 4) (2 ^ 50) q->∀ t ∈ ts++[q],On (LL * 4) (2 ^ 50) t:=fun q oq w h=>by
   rcases List.mem_append.mp h with z | z
   ·exact ht w z
   ·rw [List.mem_singleton.mp z]; exact oq
  have fio:∀ q:Rat,Off x.2.1 x.2.2 q->∀ (i:Nat) x t,xs[i]?=some x->(ts++[q])[i]?=some t->Off x.2.1 x.2.2 t:=fun q oq j y t hy hq=>by
   rcases Nat.lt_or_ge j ts.length with z | z
   ·rw [List.getElem?_append_left z] at hq; exact hf j y t hy hq
   ·have lj:=(List.getElem?_eq_some_iff.mp hq).1;rw [List.length_append,List.length_singleton] at lj;have ej:j=i:=by omega
    subst ej;rw [List.getElem?_append_right z,show j - ts.length=0 by omega] at hq;cases hq;rw [ex] at hy; cases hy;exact oq
  refine hd fun R hR=>?_;trivial;refine ⟨ns,_,rfl,by omega,by omega,?_⟩;trivial;subst hR;refine hd fun R hR=>?_;trivial;refine ⟨7901,rfl,by decide,M1 (B:=7901) (by omega) (by omega) (by decide),fun d d0 d1=>?_⟩;trivial;subst hR;refine hd fun R hR=>?_;trivial;refine C1 ex ?_;rw [show kD x=PyData.tuple [.str x.1,.tuple [.str x.2.1,.list (x.2.2.map dcn)]] from rfl];trivial;subst hR;refine hd fun R hR=>?_;trivial;refine ⟨(x.2.2.length:Int),by simp,by omega,M1 (B:=5) (by omega) (by omega) (by decide),fun c c0 c1=>?_⟩;trivial;subst hR;obtain ⟨c,rfl⟩:=Int.eq_ofNat_of_zero_le c0;obtain ⟨cc,ec⟩:∃ z,x.2.2[c]?=some z:=⟨_,List.getElem?_eq_getElem (by omega)⟩;have o1:=(oc cc (List.mem_of_getElem? ec)).1;refine hd fun R hR=>?_;trivial;refine C1 ec ?_;trivial;subst hR;refine hd fun R hR=>?_;trivial;refine ⟨hk.lay,A4e,?_⟩;refine ite2 (fun hst=>ite2 (fun c0=>?_) (fun _=>?_)) (fun _=>?_)
  ·refine ⟨3,rfl,by decide,sm4 3,fun b b0 b1=>?_⟩;trivial;refine ite2 (fun _=>?_) (fun _=>?_)
   ·obtain ⟨c2,ec2⟩:∃ z,x.2.2[c - 1]?=some z:=⟨_,List.getElem?_eq_getElem (by omega)⟩;have o2:=(oc c2 (List.mem_of_getElem? ec2)).1;rw [show (c:Int) - 1=((c - 1:Nat):Int) by omega];refine C1 ec2 ?_;trivial;have B4:0 < LL * 4:=by decide
    have hcd:cc.1 < c2.1:=og.ok.dec.get ec2 ec (by omega);have nst:x.2.1≠"steps":=fun z=>by rw [z] at hst; exact absurd hst (by decide +kernel)
    have mid:∀ g:Int,0<=g->g<=2->Off x.2.1 x.2.2 (cc.1 + (c2.1 - cc.1) * Rat.divInt (1 + g) 4):=fun g g0 g1=>by
     have f:=four (x:=1 + g) (by omega) (by omega);refine U9 (i:=c - 1) (j:=c) og.ok.dec nst l0 ec2 ec ?_ ?_
     ·have h2:0<=(c2.1 - cc.1) * (1 - Rat.divInt (1 + g) 4):=Rat.mul_nonneg (by grind) (by grind);grind
     ·have h2:0<=(c2.1 - cc.1) * Rat.divInt (1 + g) 4:=Rat.mul_nonneg (by grind) f.1;grind
    have og2:=(o2.sub2 (b:=46) E5 o1 (by decide));refine ⟨_,_,rfl,onL o2 (by decide),onL o1 (by decide),?_⟩;trivial;refine ⟨3,rfl,by decide,sm4 3,fun g g0 g1=>?_⟩;trivial;refine ⟨_,_,rfl,by decide,M1 (B:=4) (by omega) (by omega) (by decide),M1 (B:=4) (by omega) (by omega) (by decide),?_⟩;trivial;have B9:LL * 4<=2 ^ 1000:=G2 A17 (by decide);have o3:On 4 1 (Rat.divInt (1 + g) 4):=⟨1 + g,rfl,by omega⟩;have o5:On (LL * 4) (2 ^ 46) ((c2.1 - cc.1) * Rat.divInt (1 + g) 4):=(On.mul og2 o3).mono (by decide);refine ⟨_,_,rfl,onL og2 (by decide),onQ o3 (by decide) (by decide) (by decide),?_⟩;trivial;refine ⟨_,_,rfl,onL o1 (by decide),onQ o5 B4 B9 (Nat.pow_le_pow_right (by decide) (by decide)),?_⟩;trivial;subst hR;trivial;exact ⟨by omega,ts++[cc.1 + (c2.1 - cc.1) * Rat.divInt (1 + g) 4],_,_,_,_,_,_,_,by rw [List.map_append]; rfl,by rw [List.length_append,tl]; rfl,fin _ ((((o1.up (C:=4) (by decide)).p2 (b:=46) (by decide)).add2 (b:=47) B4 o5 (by decide)).p2 (by decide)),fio _ (mid g g0 (by omega))⟩
   ·subst hR;trivial;exact ⟨by omega,ts++[cc.1],_,_,_,_,_,_,_,by rw [List.map_append]; rfl,by rw [List.length_append,tl]; rfl,fin _ ((o1.up (by decide)).p2 (by decide)),fio _ (R5 hk og.ok.dec l0 ec)⟩
  ·subst hR;trivial;exact ⟨by omega,ts++[cc.1],_,_,_,_,_,_,_,by rw [List.map_append]; rfl,by rw [List.length_append,tl]; rfl,fin _ ((o1.up (by decide)).p2 (by decide)),fio _ (R5 hk og.ok.dec l0 ec)⟩
  ·subst hR;trivial;exact ⟨by omega,ts++[cc.1],_,_,_,_,_,_,_,by rw [List.map_append]; rfl,by rw [List.length_append,tl]; rfl,fin _ ((o1.up (by decide)).p2 (by decide)),fio _ (R5 hk og.ok.dec l0 ec)⟩
 rintro e ⟨ts,o4,o5,o6,o7,o8,o9,o10,rfl,tl,ht,hf⟩;subst hR;trivial;exact k ts (by omega) ht hf
def A7a:Pu.PSp:=fun as Q=>∃ (xs:List Wk) (ws:LW) (hs:LH) (gs:LP) (ps:LR) (W:Option Rat) (B a:Nat),as=[.d (netD xs ws hs gs),.bor (ps.map dcn),.d (vD W)]/\PSz B a ws hs ps/\(∀ w,W=some w->On B (2 ^ a) w)/\∀ b:Bool,(b=true ↔ Kps ws hs ps W)->Q (.d (.bool b))
theorem A8l (T:Txt K mg D):FnOk P w K mg base CX0 3 D.a_b4 D.d_b4 ["_law_net","_law_plan","_law_whole"] (Pu.spOf K [.dat,.vw,.dat] A7a):=by
 refine T.F_b4.ok sc_b4 (Pu.spOf.len rfl) (fun cdv A outer s H vs Q E hr h=>?_);refine ⟨_,(QSs.out (A5 (G0 (i:=3) rfl sc_b4.nd rfl rfl (F3 (N':=["_law_start","_law_time"]) (cap:=[none,none]) rfl rfl rfl rfl (by decide +kernel) rfl rfl) (F7 (K:=K) rfl (qpv 1)) (fun _ _ _=>(D0 (K:=K) (n:=2) rfl rfl (B7 (B3 (i:=0) (show (["_law_start","_law_time"]:List Str).Nodup from by decide +kernel) rfl (Or.inl rfl) (Or.inr rfl)) (B7 (B3 (i:=1) (show (["_law_start","_law_time"]:List Str).Nodup from by decide +kernel) rfl (Or.inl rfl) (Or.inr rfl)) C9)) rfl rfl)) (fun _ _ _=>J1) (fun _ _ _=>(A7 (G4 (K:=K) T) hr.mo rfl T.m_c2 T.F_c2.kp (J5 T) .nil C0 (A0 (qpv 0) (A0 (qpv 1) A3)))) rfl)
   (A5 (F0 PassesOwn.never rfl (F7 (K:=K) rfl (qpv 1)) (D0 (K:=K) (n:=2) rfl rfl (B7 (B3 (i:=4) sc_b4.nd rfl (Or.inl rfl) (Or.inl rfl)) (B7 (B3 (i:=5) sc_b4.nd rfl (Or.inl rfl) (Or.inl rfl)) C9)) rfl rfl)
    (A9 (D9 (C6 A5m (B2 (A8 (K:=K) rfl) (qpv 4) A4 (fun _ _=>rfl)) A4 (D4 _))
     (A9 (C4 J6))
     D1)))
   (A5 (F0 PassesOwn.never rfl (F7 (K:=K) rfl (B2 (A8 (K:=K) rfl) (qpv 0) A4 (fun _ _=>rfl))) (D0 (K:=K) (n:=3) rfl rfl (B7 (B3 (i:=6) sc_b4.nd rfl (Or.inl rfl) (Or.inl rfl)) (B7 (B3 (i:=7) sc_b4.nd rfl (Or.inl rfl) (Or.inl rfl)) (B7 (B3 (i:=8) sc_b4.nd rfl (Or.inl rfl) (Or.inl rfl)) C9))) rfl rfl)
    (A9 (D9 (E9 (A7 (J0 (K:=K) T) hr.mo rfl T.m_bc T.F_bc.kp (K6 T) .nil C0 (A0 (B2 (A8 (K:=K) rfl) (B2 (A8 (K:=K) rfl) (qpv 1) (qpv 7) (fun _ _=>rfl)) A4 (fun _ _=>rfl)) (A0 (A7 (G4 (K:=K) T) hr.mo rfl T.m_c2 T.F_c2.kp (J5 T) .nil C0 (A0 (B2 (A8 (K:=K) rfl) (qpv 3) (qpv 6) (fun _ _=>rfl)) (A0 (qpv 8) A3))) A3))))
     (A9 (C4 J6))
     D1)))
   (A5 (F0 PassesOwn.never rfl (F7 (K:=K) rfl (B2 (A8 (K:=K) rfl) (qpv 0) A4 (fun _ _=>rfl))) (D0 (K:=K) (n:=3) rfl rfl (B7 (B3 (i:=9) sc_b4.nd rfl (Or.inl rfl) (Or.inl rfl)) (B7 (B3 (i:=10) sc_b4.nd rfl (Or.inl rfl) (Or.inl rfl)) (B7 (B3 (i:=11) sc_b4.nd rfl (Or.inl rfl) (Or.inl rfl)) C9))) rfl rfl)
    (A5 (D9 (QW.pt (A0u (QW.pt (L8 (C6 (F8 (K:=K) rfl hr.units) (qpv 9) D3 (D4 _)) (L4 (E9 (A7 (J0 (K:=K) T) hr.mo rfl T.m_bc T.F_bc.kp (K6 T) .nil C0 (A0 (B2 (A8 (K:=K) rfl) (B2 (A8 (K:=K) rfl) (qpv 1) (qpv 10) (fun _ _=>rfl)) A4 (fun _ _=>rfl)) (A0 (qpv 11) A3))))))) (U2 (QW.pt (L8 (C6 (F8 (K:=K) rfl hr.units) (qpv 9) D3 (D4 _)) (L4 (E9 (A7 (J0 (K:=K) T) hr.mo rfl T.m_bc T.F_bc.kp (K6 T) .nil C0 (A0 (qpv 11) (A0 (B2 (A8 (K:=K) rfl) (B2 (A8 (K:=K) rfl) (qpv 1) (qpv 10) (fun _ _=>rfl)) A4 (fun _ _=>rfl)) A3))))))))))
     (A9 (C4 J6))
     D1)
    (A9 (D9 (QW.pt (L8 (C6 (F8 (K:=K) rfl hr.units) (qpv 9) D3 (D4 _)) (L4 (E9 (A7 (J0 (K:=K) T) hr.mo rfl T.m_bc T.F_bc.kp (K6 T) .nil C0 (A0 (qpv 11) (A0 (B2 (A8 (K:=K) rfl) (qpv 3) (qpv 10) (fun _ _=>rfl)) A3)))))))
     (A9 (C4 J6))
     D1))))
   (A9 (C4 (B3j (K4 B7w (qpv 2) A6v (D4 _)) (M6 (A6u (C2 (B07 (K:=K) rfl) (by rfl) T.z_any (by rfl) (A0 (O6 rfl (F3 (N':=["_law_whole","_law_end"]) (cap:=[some 2,none]) rfl rfl rfl rfl (by decide +kernel) rfl rfl) (F7 (K:=K) rfl (qpv 3)) (fun _ _ _=>(B3 (i:=1) (show (["_law_whole","_law_end"]:List Str).Nodup from by decide +kernel) rfl (Or.inl rfl) (Or.inr rfl))) (fun _ _ _=>J1) (fun _ _ _=>(A7 (J0 (K:=K) T) hr.mo rfl T.m_bc T.F_bc.kp (K6 T) .nil C0 (A0 (qpv 0) (A0 (qpv 1) A3))))) A3)))))))))))),?_⟩
 haveI:=T.c2_NOUGHT
 refine Pu.G3 h ?_;rintro as Qp ⟨xs,ws,hs,gs,ps,W,B,a,rfl,ok,oW,k⟩;have no:¬ Kps ws hs ps W->Qp (.d (.bool false)):=fun h=>k false ⟨fun z=>(nomatch z),fun z=>absurd z h⟩;have hl:=ok.ln;have ii:∀ {o:Int},0<=o->o < (ps.length:Int)->o < ((ps.map enD).length:Int):=fun _ h=>by rw [List.length_map]; exact h
 unfold netD;refine hd fun R hR=>?_;trivial;refine ⟨by omega,M2 (f:=dcn) (xs:=ps) (fun i e ys=>∃ o1 o2:Option SV,e=[o1,o2]/\ys=((ps.map enD).take i).map dq) ⟨_,_,rfl,rfl⟩ ?_ ?_⟩
 ·rintro i p e ys hi ⟨o1,o2,rfl,rfl⟩;obtain ⟨p1,p2⟩:=ok.p p (List.mem_of_getElem? hi);trivial;refine ⟨_,_,rfl,ok.sm p1 (by omega),ok.sm p2 (by omega),?_⟩;trivial;refine ⟨_,_,rfl,?_⟩;rw [List.take_add_one,List.getElem?_map,hi,List.map_append];rfl
 rintro e ys ⟨o1,o2,rfl,rfl⟩;rw [show (ps.map enD).take ps.length=ps.map enD from List.take_of_length_le (by rw [List.length_map]; exact Nat.le_refl _)];trivial;subst hR;refine hd fun R hR=>?_;trivial;refine K2 (f:=dcn) (xs:=ps) (fun i e=>∃ o4 o5:Option SV,e=[some (.d (.tuple [.list (xs.map kD),.list (ws.map wD),.list (hs.map hD),.list gs])),some (.bor (ps.map dcn)),some (.d (vD W)),some (.own ((ps.map enD).map dq)),o4,o5,none,none,none,none,none,none]/\∀ j p,j < i->ps[j]?=some p->0<=p.1) ⟨_,_,rfl,fun j p h=>absurd h (Nat.not_lt_zero _)⟩ ?_ ?_
 ·rintro i p e hi ⟨o4,o5,rfl,hj⟩;trivial;refine ite2 (fun z=>?_) (fun z=>?_)
  ·exact no fun h=>absurd (num_lt.mp z) (Rat.not_lt.mpr (h.s p (List.mem_of_getElem? hi)))
  ·refine ⟨_,_,rfl,fun j q hj' hq=>?_⟩;by_cases h:j=i
   ·subst h; rw [hi] at hq; cases hq; exact Rat.not_lt.mp fun y=>z (num_lt.mpr y)
   ·exact hj j q (by omega) hq
 rintro e ⟨o4,o5,rfl,hs0⟩;have ks:∀ p ∈ ps,0<=p.1:=fun p hp=>by
  obtain ⟨j,hj,e⟩:=List.getElem_of_mem hp;exact hs0 j p hj (by rw [List.getElem?_eq_getElem hj,e])
 subst hR;dsimp only;refine hd fun R hR=>?_;trivial;refine K2 (f:=wD) (xs:=ws) (fun i e=>∃ o4 o5 o6 o7 o8:Option SV,e=[some (.d (.tuple [.list (xs.map kD),.list (ws.map wD),.list (hs.map hD),.list gs])),some (.bor (ps.map dcn)),some (.d (vD W)),some (.own ((ps.map enD).map dq)),o4,o5,o6,o7,o8,none,none,none]/\∀ j w,j < i->ws[j]?=some w->0<=wSl ps w) ⟨_,_,_,_,_,rfl,fun j p h=>absurd h (Nat.not_lt_zero _)⟩ ?_ ?_
 ·rintro i x e hi ⟨o4,o5,o6,o7,o8,rfl,hj⟩;have hx:=List.mem_of_getElem? hi;obtain ⟨ha,hb,hl⟩:=ok.w x hx;rw [show wD x=PyData.tuple [.int x.1,.int x.2.1,dq x.2.2] from rfl];trivial;refine G9 (A6o hb.1 hb.2) ?_;trivial;refine G9 (W8 ha.1 (ii ha.1 ha.2)) ?_;rw [B3i];trivial;refine ⟨_,_,rfl,(ok.pl ha.1 ha.2).e,ok.sm hl (by omega),?_⟩;trivial;refine ⟨_,_,rfl,(ok.pl hb.1 hb.2).s,ok.sm (ok.wS hx).2 (by omega),?_⟩;trivial;refine ite2 (fun z=>?_) (fun z=>?_)
  ·refine no fun h=>?_;have:=h.w x hx;unfold wSl at this;grind
  ·refine ⟨_,_,_,_,_,rfl,fun j q hj' hq=>?_⟩;by_cases h:j=i
   ·subst h; rw [hi] at hq; cases hq;unfold wSl;grind
   ·exact hj j q (by omega) hq
 rintro e ⟨o4,o5,o6,o7,o8,rfl,hw0⟩;have kw:∀ w ∈ ws,0<=wSl ps w:=fun p hp=>by
  obtain ⟨j,hj,e⟩:=List.getElem_of_mem hp;exact hw0 j p hj (by rw [List.getElem?_eq_getElem hj,e])
 subst hR;dsimp only;refine hd fun R hR=>?_;trivial;refine K2 (f:=hD) (xs:=hs) (fun i e=>∃ o4 o5 o6 o7 o8 o9 o10 o11:Option SV,e=[some (.d (.tuple [.list (xs.map kD),.list (ws.map wD),.list (hs.map hD),.list gs])),some (.bor (ps.map dcn)),some (.d (vD W)),some (.own ((ps.map enD).map dq)),o4,o5,o6,o7,o8,o9,o10,o11]/\∀ j w,j < i->hs[j]?=some w->0<=hSl ps w) ⟨_,_,_,_,_,_,_,_,rfl,fun j p h=>absurd h (Nat.not_lt_zero _)⟩ ?_ ?_
 ·rintro i x e hi ⟨o4,o5,o6,o7,o8,o9,o10,o11,rfl,hj⟩;have hx:=List.mem_of_getElem? hi;obtain ⟨hk,hb,hl⟩:=ok.h x hx;have up:0<=hSl ps x->∀ j w,j < i + 1->hs[j]?=some w->0<=hSl ps w:=fun h0 j q hj' hq=>by
   by_cases h:j=i
   ·subst h; rw [hi] at hq; cases hq; exact h0
   ·exact hj j q (by omega) hq
  have dn:hSl ps x < 0->¬ Kps ws hs ps W:=fun h0 h=>absurd h0 (Rat.not_lt.mpr (h.h x hx));have pb:=ok.pl hb.1 hb.2;have sl:=ok.sm hl (by omega);obtain ⟨kd,o,m⟩:=x;rw [show hD (kd,o,m)=PyData.tuple [.str kd,.int o,dq m] from rfl];trivial;refine ⟨hk.lay,A1e,?_⟩;rcases hk with hk | hk | hk
  ·have hk':kd="from":=hk;subst hk';rw [C1z,if_pos rfl];refine G9 (A6o hb.1 hb.2) ?_;trivial;refine ⟨_,_,rfl,pb.s,sl,?_⟩;trivial;have eh:hSl ps (Str.ofString "from",o,m)=(sat ps o).1 - m:=if_pos rfl;refine ite2 (fun z=>no (dn (by rw [eh]; grind))) (fun z=>⟨A1e,A1c,?_⟩);rw [C1y,if_neg (by decide)];refine ⟨A1e,A1f,?_⟩;rw [C10,if_neg (by decide)];exact ⟨_,_,_,_,_,_,_,_,rfl,up (by rw [eh]; grind)⟩
  ·have hk':kd="till":=hk;subst hk';have eh:hSl ps (Str.ofString "till",o,m)=m - (sat ps o).1:=(if_neg C3b).trans (if_pos rfl);rw [C1v,if_neg (by decide)];refine ⟨A1c,A1c,?_⟩;rw [C1w,if_pos rfl];refine G9 (A6o hb.1 hb.2) ?_;trivial;refine ⟨_,_,rfl,sl,pb.s,?_⟩;trivial;refine ite2 (fun z=>no (dn (by rw [eh]; grind))) (fun z=>⟨A1c,A1f,?_⟩);rw [C1x,if_neg (by decide)];exact ⟨_,_,_,_,_,_,_,_,rfl,up (by rw [eh]; grind)⟩
  ·have hk':kd="by":=hk;subst hk';have eh:hSl ps (Str.ofString "by",o,m)=m - enD (sat ps o):=(if_neg C3e).trans (if_neg C3d);rw [C12,if_neg (by decide)];refine ⟨A1f,A1c,?_⟩;rw [C11,if_neg (by decide)];refine ⟨A1f,A1f,?_⟩;rw [C13,if_pos rfl];refine G9 (W8 hb.1 (ii hb.1 hb.2)) ?_;rw [B3i];trivial;refine ⟨_,_,rfl,sl,pb.e,?_⟩;trivial;refine ite2 (fun z=>no (dn (by rw [eh]; grind))) (fun z=>?_);exact ⟨_,_,_,_,_,_,_,_,rfl,up (by rw [eh]; grind)⟩
 rintro e ⟨o4,o5,o6,o7,o8,o9,o10,o11,rfl,hh0⟩;have kh:∀ h ∈ hs,0<=hSl ps h:=fun p hp=>by
  obtain ⟨j,hj,e⟩:=List.getElem_of_mem hp;exact hh0 j p hj (by rw [List.getElem?_eq_getElem hj,e])
 subst hR;trivial;rcases W with _ | V
 ·refine ite2 (fun _=>k true ⟨fun _=>⟨ks,kw,kh,fun _ e=>(nomatch e)⟩,fun _=>rfl⟩) (fun z=>absurd rfl z)
 ·have oV:=oW V rfl;refine ite2 (fun z=>absurd z (by show ¬ isNo (dq V)=true; exact fun z=>nomatch z)) (fun _=>?_);rw [show vD (some V)=dq V from rfl];refine ⟨by omega,M2 (f:=dq) (xs:=ps.map enD) (fun i e ys=>∃ o1:Option SV,e=[some (.d (dq V)),o1]/\ys=((ps.map enD).take i).map fun q=>.bool (decide (V < q))) ⟨_,rfl,rfl⟩ ?_ ?_⟩
  ·rintro i q e ys hi ⟨o1,rfl,rfl⟩;obtain ⟨p,hp,rfl⟩:∃ p ∈ ps,q=enD p:=by
    obtain ⟨p,hp,e⟩:=List.mem_map.mp (List.mem_of_getElem? hi);exact ⟨p,hp,e.symm⟩
   obtain ⟨p1,p2⟩:=ok.p p hp;trivial;refine ⟨_,_,rfl,ok.sm oV (by omega),ok.sm (p1.add2 ok.b0 p2 (Nat.le_refl (a + 1))) (by omega),?_⟩;trivial;refine ⟨_,rfl,?_⟩;rw [List.take_add_one,hi,List.map_append];rfl
  rintro e ys ⟨o1,rfl,rfl⟩;rw [List.take_length];trivial;refine ⟨_,B09 _ _,k _ ⟨fun h=>⟨ks,kw,kh,fun V' e p hp=>?_⟩,fun h=>?_⟩⟩
  ·cases e;rw [Bool.not_eq_true',List.any_eq_false] at h;have:=h (decide (V < enD p)) (List.mem_map.mpr ⟨enD p,List.mem_map.mpr ⟨p,hp,rfl⟩,rfl⟩);exact Rat.not_lt.mp fun z=>this (decide_eq_true z)
  ·rw [Bool.not_eq_true',List.any_eq_false];intro x hx;obtain ⟨q,hq,rfl⟩:=List.mem_map.mp hx;obtain ⟨p,hp,rfl⟩:=List.mem_map.mp hq;exact fun z=>absurd (of_decide_eq_true z) (Rat.not_lt.mpr (h.e V rfl p hp))
def A65:Pu.PSp:=fun as Q=>∃ (ns:List Int) (kz:List Str),as=[.bor (ns.map .int),.d (.list (kz.map .str))]/\ns.length<=63/\1<=kz.length/\kz.length<=3/\(∀ z ∈ kz,Kd z)/\∀ n xs vs us,ShOk n xs vs us->Q (.d (shD xs vs us))
theorem A8g (T:Txt K mg D):FnOk P w K mg base CX0 4 D.a_ba D.d_ba ["_law_script","_law_kinds"] (Pu.spOf K [.vw,.dat] A65):=by
 refine T.F_ba.ok sc_ba (Pu.spOf.len rfl) (fun cdv A outer s H vs Q E hr h=>?_);refine ⟨_,(QSs.out (A5 (B8 (i:=2) sc_ba.nd rfl (Or.inl rfl) (A7 (K7 (K:=K) T) hr.mo rfl T.m_b3 T.F_b3.kp (M3 T) .nil C0 (A0 (qpv 0) (A0 A4 A3))))
   (A5 (B8 (i:=3) sc_ba.nd rfl (Or.inl rfl) (C3 G6 A4 (A7 (C8 (K:=K) T) hr.mo rfl T.m_c4 T.F_c4.kp (D5 T) .nil C0 (A0 (qpv 2) (A0 A4 A3)))))
   (A5 (B8 (i:=4) sc_ba.nd rfl (Or.inl rfl) (C3 G6 A4 (A7 (C8 (K:=K) T) hr.mo rfl T.m_c4 T.F_c4.kp (D5 T) .nil C0 (A0 (qpv 2) (A0 A4 A3)))))
   (A5 (B8 (i:=5) sc_ba.nd rfl (Or.inl rfl) (A7 (C8 (K:=K) T) hr.mo rfl T.m_c4 T.F_c4.kp (D5 T) .nil C0 (A0 (qpv 2) (A0 A4 A3))))
   (A5 (B8 (i:=6) sc_ba.nd rfl (Or.inl rfl) (E6 A3))
   (A5 (F0 PassesOwn.never rfl (F2 rfl T.z_range (A0 (qpv 3) A3)) (B3 (i:=7) sc_ba.nd rfl (Or.inl rfl) (Or.inl rfl))
    (A5 (B8 (i:=8) sc_ba.nd rfl (Or.inl rfl) (A7 (K7 (K:=K) T) hr.mo rfl T.m_b3 T.F_b3.kp (M3 T) .nil C0 (A0 (qpv 0) (A0 (C3 G6 A4 (qpv 7)) A3))))
    (A5 (B8 (i:=9) sc_ba.nd rfl (Or.inl rfl) (B2 (A8 (K:=K) rfl) (qpv 1) (A7 (C8 (K:=K) T) hr.mo rfl T.m_c4 T.F_c4.kp (D5 T) .nil C0 (A0 (qpv 8) (A0 (C2 (C5 (K:=K) rfl) (by rfl) T.z_len PySem.boot_len (A0 (qpv 1) A3)) A3))) (fun _ _=>rfl)))
    (A9 (F9 (J9 (K:=K) rfl PySem.F.plainAttrs_list PySem.F.slot_list_append PySem.F.type_list_append G7 (qpv 6) (A0 (C7 (A0 (C3 B7v (B2 (A8 (K:=K) rfl) D3 (qpv 7) (fun _ _=>rfl)) (qpv 4)) (A0 (A7 (A8j (K:=K) T) hr.mo rfl T.m_b7 T.F_b7.kp (B3a T) .nil C0 (A0 (qpv 8) (A0 (qpv 9) (A0 A4 (A0 J6 A3))))) A3))) A3)))))))
   (A5 (B8 (i:=10) sc_ba.nd rfl (Or.inl rfl) (E6 A3))
   (A5 (B8 (i:=11) sc_ba.nd rfl (Or.inl rfl) (E6 A3))
   (A5 (F0 PassesOwn.never rfl (W9 rfl T.z_range (A0 A4 (A0 (C2 (A1v rfl) (by rfl) T.z_max (by rfl) (A0 (C3 G6 A4 (qpv 5)) (A0 (C2 (A1u rfl) (by rfl) T.z_min (by rfl) (A0 (C2 (C5 (K:=K) rfl) (by rfl) T.z_len PySem.boot_len (A0 (qpv 0) A3)) (A0 A4 A3))) A3))) A3))) (B3 (i:=7) sc_ba.nd rfl (Or.inl rfl) (Or.inl rfl))
    (A5 (B8 (i:=8) sc_ba.nd rfl (Or.inl rfl) (A7 (K7 (K:=K) T) hr.mo rfl T.m_b3 T.F_b3.kp (M3 T) .nil C0 (A0 (qpv 0) (A0 (qpv 7) A3))))
    (A5 (B8 (i:=12) sc_ba.nd rfl (Or.inl rfl) (A7 (C8 (K:=K) T) hr.mo rfl T.m_c4 T.F_c4.kp (D5 T) .nil C0 (A0 (qpv 8) (A0 (qpv 3) A3))))
    (A9 (D9 (QW.pt (L8 (C6 U7 (qpv 3) A4 (D4 _)) (L4 (C6 A5m (A7 (C8 (K:=K) T) hr.mo rfl T.m_c4 T.F_c4.kp (D5 T) .nil C0 (A0 (qpv 8) (A0 A4 A3))) A4 (D4 _)))))
     (A9 (F9 (J9 (K:=K) rfl PySem.F.plainAttrs_list PySem.F.slot_list_append PySem.F.type_list_append G7 (qpv 10) (A0 (C7 (A0 (qpv 12) (A0 (C3 P1 (C3 G6 (C3 G6 (qpv 12) A4) (A7 (C8 (K:=K) T) hr.mo rfl T.m_c4 T.F_c4.kp (D5 T) .nil C0 (A0 (qpv 8) (A0 (C3 N9 (qpv 3) A4) A3)))) (qpv 3)) A3))) A3))))
     (A9 (F9 (J9 (K:=K) rfl PySem.F.plainAttrs_list PySem.F.slot_list_append PySem.F.type_list_append G7 (qpv 11) (A0 (C7 (A0 (B2 (A8 (K:=K) rfl) (E6 (A0 D3 (A0 D3 (A0 D3 A3)))) (A7 (C8 (K:=K) T) hr.mo rfl T.m_c4 T.F_c4.kp (D5 T) .nil C0 (A0 (qpv 8) (A0 A4 A3))) (fun _ _=>rfl)) (A0 (qpv 12) A3))) A3)))))))))
   (A9 (C4 (C7 (A0 (qpv 6) (A0 (qpv 10) (A0 (qpv 11) A3)))))))))))))))),?_⟩
 haveI:=T.c2_NOUGHT
 refine Pu.G3 h ?_;rintro as Qp ⟨ns,kz,rfl,hns,k1,k3,hkz,k⟩;refine hd fun R hR=>?_;trivial;refine ⟨ns,_,rfl,by decide,by decide,?_⟩;trivial;subst hR;refine hd fun R hR=>?_;trivial;refine ⟨5,rfl,by decide,sm4 5,fun d d0 d1=>?_⟩;trivial;obtain ⟨n,hn⟩:∃ n:Nat,1 + d=(n:Int):=⟨(1 + d).toNat,by omega⟩;have n0:1<=n:=by omega
 have n1:n<=5:=by omega
 rw [hn];subst hR;refine hd fun R hR=>?_;trivial;refine ⟨8,rfl,by decide,sm4 8,fun sz sz0 sz1=>?_⟩;trivial;subst hR;refine hd fun R hR=>?_;trivial;refine ⟨8,rfl,by decide,sm4 8,fun le le0 le1=>?_⟩;trivial;subst hR;refine hd fun R hR=>?_;trivial;subst hR;refine Z0 (fun e=>∃ (xs:List Wk) (o8 o9 o10:Option SV),e=[some (.bor (ns.map .int)),some (.d (.list (kz.map .str))),some .st,some (.d (.int (n:Int))),some (.d (.int (1 + sz))),some (.d (.int le)),some (.own (xs.map kD)),o8,o9,o10,none,none,none]/\xs.length=n/\(∀ x ∈ xs,Kd x.2.1/\OfG x.2.1 x.2.2 100 54 244 130/\OnC x.2.2/\(x.2.1="straight"->OnP x.2.2))/\∀ x ∈ xs,(PyData.str x.1).canLay0=true) (fun R hR=>?_) ?_
 ·trivial;refine ⟨⟨by omega,by omega⟩,M9 (fun i e=>∃ (xs:List Wk) (o8 o9 o10:Option SV),e=[some (.bor (ns.map .int)),some (.d (.list (kz.map .str))),some .st,some (.d (.int (n:Int))),some (.d (.int (1 + sz))),some (.d (.int le)),some (.own (xs.map kD)),o8,o9,o10,none,none,none]/\xs.length=i/\(∀ x ∈ xs,Kd x.2.1/\OfG x.2.1 x.2.2 100 54 244 130/\OnC x.2.2/\(x.2.1="straight"->OnP x.2.2))/\∀ x ∈ xs,(PyData.str x.1).canLay0=true) ⟨[],_,_,_,rfl,rfl,(fun _ z=>nomatch z),fun _ z=>nomatch z⟩ ?_ ?_⟩
  ·rintro i e hi ⟨xs,o8,o9,o10,rfl,hl,hx,hn⟩;have hin:i < n:=by simpa using hi
   refine hd fun R hR=>?_;trivial;refine ⟨ns,_,rfl,by omega,by omega,?_⟩;trivial;subst hR;refine hd fun R hR=>?_;trivial;refine ⟨(kz.length:Int),by simp,by omega,M1 (B:=3) (by omega) (by omega) (by decide),fun g g0 g1=>?_⟩;trivial;obtain ⟨gj,rfl⟩:=Int.eq_ofNat_of_zero_le g0;have hgj:gj < kz.length:=by omega
   have eg:L2.atI (kz.map PyData.str) (gj:Int)=some (.str kz[gj]):=M0 (by rw [List.getElem?_map,List.getElem?_eq_getElem hgj]; rfl);refine G9 eg ?_;trivial;subst hR;trivial;refine ⟨(show ltr3.length<=1000 by rw [A0d]; decide),?_⟩;refine getS (z:=ltr3) (by rw [A0d]; decide) B2p (by omega) (by rw [A0d]; omega) (fun c hc=>?_);rw [show sgn c=PyData.str ⟨#[c]⟩ from rfl];trivial;refine ⟨⟨by omega,by omega⟩,(show 1<=100 by decide),kz[gj],4,rfl,by decide,by decide,hkz _ (List.getElem_mem hgj),fun cs og oc op ol=>?_⟩;trivial;refine ⟨by omega,xs++[(Txt.mul ⟨#[c]⟩ (1 + sz),kz[gj],cs)],_,_,_,by rw [List.map_append]; rfl,by rw [List.length_append,hl]; rfl,fun x hx'=>?_,fun x hx'=>?_⟩
   ·rcases List.mem_append.mp hx' with q | q
    ·exact hx x q
    ·rw [List.mem_singleton.mp q]; exact ⟨hkz _ (List.getElem_mem hgj),og,oc,op⟩
   ·rcases List.mem_append.mp hx' with q | q
    ·exact hn x q
    ·rw [List.mem_singleton.mp q]; exact B71 (B85 hc)
  ·rintro e ⟨xs,o8,o9,o10,rfl,hl,hx,hn⟩;exact hR _ ⟨xs,_,_,_,rfl,by simpa using hl,hx,hn⟩
 rintro e ⟨xs,o8,o9,o10,rfl,hl,hx,hn⟩;refine hd fun R hR=>?_;trivial;subst hR;refine hd fun R hR=>?_;trivial;subst hR;trivial;have hM:0<=(if (if 40 < (ns.length:Int) then 40 else (ns.length:Int)) > 7 + le then if 40 < (ns.length:Int) then 40 else (ns.length:Int) else 7 + le)/\(if (if 40 < (ns.length:Int) then 40 else (ns.length:Int)) > 7 + le then if 40 < (ns.length:Int) then 40 else (ns.length:Int) else 7 + le)<=40:=by
  split <;> split <;> omega
 generalize (if (if 40 < (ns.length:Int) then 40 else (ns.length:Int)) > 7 + le then if 40 < (ns.length:Int) then 40 else (ns.length:Int) else 7 + le)=M at hM ⊢;refine ⟨⟨by decide,by decide,by omega,by omega⟩,M9 (fun i e=>∃ (vs:List (Int × Int)) (us:List (Str × Int)) (o8 o9 o10 o13:Option SV),e=[some (.bor (ns.map .int)),some (.d (.list (kz.map .str))),some .st,some (.d (.int (n:Int))),some (.d (.int (1 + sz))),some (.d (.int le)),some (.own (xs.map kD)),o8,o9,o10,some (.own (vs.map pD)),some (.own (us.map qD)),o13]/\vs.length + us.length=i/\ShOk n xs vs us) ⟨[],[],_,_,_,_,rfl,rfl,hl,n0,(by omega),hx,hn,Nat.zero_le _,(fun _ z=>nomatch z),Nat.zero_le _,(fun _ z=>nomatch z),fun _ z=>nomatch z⟩ ?_ ?_⟩
 ·rintro i e hi ⟨vs,us,o8,o9,o10,o13,rfl,lvu,ok⟩;have vl:=ok.vl;have ul:=ok.ul;refine hd fun R hR=>?_;trivial;refine ⟨ns,_,rfl,by omega,by omega,?_⟩;trivial;subst hR;refine hd fun R hR=>?_;trivial;refine ⟨(n:Int),rfl,by omega,M1 (B:=10) (by omega) (by omega) (by decide),fun a a0 a1=>?_⟩;trivial;subst hR;trivial;refine ite2 (fun h1=>?_) (fun h1=>?_)
  ·refine ⟨3,rfl,by decide,sm4 3,fun t t0 t1=>?_⟩;trivial;refine ite2 (fun h3=>?_) (fun h3=>?_)
   ·refine ⟨(n:Int) - 1,rfl,by omega,M1 (B:=10) (by omega) (by omega) (by decide),fun b b0 b1=>?_⟩;trivial;exact ⟨by omega,by omega,vs++[(a,(a + 1 + b) % (n:Int))],us,_,_,_,_,by rw [List.map_append]; rfl,by rw [List.length_append,List.length_singleton]; omega,ok.addV ⟨a0,a1⟩ ⟨Int.emod_nonneg _ (by omega),Int.emod_lt_of_pos _ (by omega)⟩ (by omega) (C05 a0 a1 b0 (by omega))⟩
   ·refine ⟨3,rfl,by decide,sm4 3,fun g g0 g1=>?_⟩;trivial;obtain ⟨kd,hkd,ek⟩:=B5p g0 g1;refine G9 ek ?_;trivial;exact ⟨by omega,vs,us++[(kd,a)],_,_,_,_,by rw [List.map_append]; rfl,by rw [List.length_append,List.length_singleton]; omega,ok.addU ⟨a0,a1⟩ hkd (by omega)⟩
  ·refine ⟨3,rfl,by decide,sm4 3,fun g g0 g1=>?_⟩;trivial;obtain ⟨kd,hkd,ek⟩:=B5p g0 g1;refine G9 ek ?_;trivial;exact ⟨by omega,vs,us++[(kd,a)],_,_,_,_,by rw [List.map_append]; rfl,by rw [List.length_append,List.length_singleton]; omega,ok.addU ⟨a0,a1⟩ hkd (by omega)⟩
 rintro e ⟨vs,us,o8,o9,o10,o13,rfl,lvu,ok⟩;trivial;exact k n xs vs us ok
def A2j:Pu.PSp:=fun as Q=>∃ (xs:List Wk) (ws:LW) (hs:LH) (gs:LP) (ts:LQ),as=[.d (netD xs ws hs gs),.bor (ts.map dq)]/\NP ts.length ws hs/\(∀ t ∈ ts,O4 t)/\∀ ps:LR,ps.map (·.2)=ts->(∀ p ∈ ps,On (LL * 4) (2 ^ 70) p.1)->Q (.own (ps.map dcn))
theorem A2p (T:Txt K mg D):FnOk P w K mg base CX0 3 D.a_a8 D.d_a8 ["_law_net","_law_times_here"] (Pu.spOf K [.dat,.vw] A2j):=by
 refine T.F_a8.ok sc_a8 (Pu.spOf.len rfl) (fun cdv A outer s H vs Q E hr h=>?_);refine ⟨_,(QSs.out (A5 (B8 (i:=2) sc_a8.nd rfl (Or.inr rfl) (O6 rfl (F3 (N':=["_law_time"]) (cap:=[none]) rfl rfl rfl rfl (by decide +kernel) rfl rfl) (F7 (K:=K) rfl (qpv 1)) (fun _ _ _=>(B3 (i:=0) (show (["_law_time"]:List Str).Nodup from by decide +kernel) rfl (Or.inl rfl) (Or.inr rfl))) (fun _ _ _=>J1) (fun _ _ _=>(C7 (A0 A4 (A0 A4 A3))))))
   (A5 (F0 PassesOwn.never rfl (F7 (K:=K) rfl (B2 (A8 (K:=K) rfl) (qpv 0) A4 (fun _ _=>rfl))) (D0 (K:=K) (n:=3) rfl rfl (B7 (B3 (i:=3) sc_a8.nd rfl (Or.inl rfl) (Or.inl rfl)) (B7 (B3 (i:=4) sc_a8.nd rfl (Or.inl rfl) (Or.inl rfl)) (B7 (B3 (i:=5) sc_a8.nd rfl (Or.inl rfl) (Or.inl rfl)) C9))) rfl rfl)
    (A9 (D9 (QW.pt (L8 (C6 (F8 (K:=K) rfl hr.units) (qpv 3) D3 (D4 _)) (L4 (E9 (A7 (J0 (K:=K) T) hr.mo rfl T.m_bc T.F_bc.kp (K6 T) .nil C0 (A0 (B2 (A8 (K:=K) rfl) (qpv 2) (qpv 4) (fun _ _=>rfl)) (A0 (qpv 5) A3)))))))
     (A9 (F4 (qpv 5) (M5 (qpv 2) (qpv 4) I0)))
     D1)))
   (A5 (F0 PassesOwn.never rfl (F2 rfl T.z_range (A0 (C2 (C5 (K:=K) rfl) (by rfl) T.z_len PySem.boot_len (A0 (qpv 1) A3)) A3)) (B3 (i:=6) sc_a8.nd rfl (Or.inl rfl) (Or.inl rfl))
    (A9 (F0 PassesOwn.never rfl (F7 (K:=K) rfl (B2 (A8 (K:=K) rfl) (qpv 0) A4 (fun _ _=>rfl))) (D0 (K:=K) (n:=3) rfl rfl (B7 (B3 (i:=7) sc_a8.nd rfl (Or.inl rfl) (Or.inl rfl)) (B7 (B3 (i:=8) sc_a8.nd rfl (Or.inl rfl) (Or.inl rfl)) (B7 (B3 (i:=9) sc_a8.nd rfl (Or.inl rfl) (Or.inl rfl)) C9))) rfl rfl)
     (A5 (B8 (i:=10) sc_a8.nd rfl (Or.inl rfl) (A7 (G4 (K:=K) T) hr.mo rfl T.m_c2 T.F_c2.kp (J5 T) .nil C0 (A0 (A7 (G4 (K:=K) T) hr.mo rfl T.m_c2 T.F_c2.kp (J5 T) .nil C0 (A0 (B2 (A8 (K:=K) rfl) (qpv 2) (qpv 7) (fun _ _=>rfl)) (A0 (B2 (A8 (K:=K) rfl) (qpv 1) (qpv 7) (fun _ _=>rfl)) A3))) (A0 (qpv 9) A3))))
     (A9 (D9 (E9 (A7 (J0 (K:=K) T) hr.mo rfl T.m_bc T.F_bc.kp (K6 T) .nil C0 (A0 (B2 (A8 (K:=K) rfl) (qpv 2) (qpv 8) (fun _ _=>rfl)) (A0 (qpv 10) A3))))
      (A9 (F4 (qpv 10) (M5 (qpv 2) (qpv 8) I0)))
      D1))))))
   (A9 (C4 (O6 rfl (F3 (N':=["_law_starts","_law_times_here","_law_i"]) (cap:=[some 2,some 1,none]) rfl rfl rfl rfl (by decide +kernel) rfl rfl) (F2 rfl T.z_range (A0 (C2 (C5 (K:=K) rfl) (by rfl) T.z_len PySem.boot_len (A0 (qpv 1) A3)) A3)) (fun _ _ _=>(B3 (i:=2) (show (["_law_starts","_law_times_here","_law_i"]:List Str).Nodup from by decide +kernel) rfl (Or.inl rfl) (Or.inr rfl))) (fun _ _ _=>J1) (fun _ _ _=>(C7 (A0 (B2 (A8 (K:=K) rfl) (qpv 0) (qpv 2) (fun _ _=>rfl)) (A0 (B2 (A8 (K:=K) rfl) (qpv 1) (qpv 2) (fun _ _=>rfl)) A3))))))))))),?_⟩
 haveI:=T.c2_NOUGHT
 refine Pu.G3 h ?_;rintro as Qp ⟨xs,ws,hs,gs,ts,rfl,ok,ot,k⟩;have l6:=ok.n1;have wl:=ok.wl;have B4:0 < LL * 4:=by decide
 have B9:LL * 4<=2 ^ 1000:=G2 A17 (by decide);have sq:∀ {k:Nat} {q:Rat},On (LL * 4) (k * 2 ^ 58) q->k<=2 ^ 20->SmQ 3900 q:=fun h g=>onQ h B4 B9 (Nat.le_trans (Nat.mul_le_mul_right _ g) (by rw [<- Nat.pow_add]; exact Nat.pow_le_pow_right (by decide) (by decide)));have one:∀ {q:Rat},O4 q->On (LL * 4) (1 * 2 ^ 58) q:=fun h=>by rw [Nat.one_mul]; exact h
 unfold netD;refine hd fun R hR=>?_;trivial;refine ⟨by omega,M2 (f:=dq) (xs:=ts) (fun i e ys=>∃ o1:Option SV,e=[o1]/\ys=(List.replicate i (0:Rat)).map dq) ⟨_,rfl,rfl⟩ ?_ ?_⟩
 ·rintro i p e ys hi ⟨o1,rfl,rfl⟩;trivial;exact ⟨_,rfl,by show List.map dq (List.replicate i (0:Rat))++[dq 0]=(List.replicate (i + 1) (0:Rat)).map dq; rw [List.replicate_succ',List.map_append]; rfl⟩
 rintro e ys ⟨o1,rfl,rfl⟩;trivial;subst hR;refine hd fun R hR=>?_;trivial;refine K2 (f:=hD) (xs:=hs) (fun j e=>∃ (ss:LQ) (o2 o3 o4 o5 o6 o7 o8 o9:Option SV),e=[some (.d (.tuple [.list (xs.map kD),.list (ws.map wD),.list (hs.map hD),.list gs])),some (.bor (ts.map dq)),some (.own (ss.map dq)),o2,o3,o4,o5,o6,o7,o8,o9]/\ss.length=ts.length/\∀ s ∈ ss,On (LL * 4) (1 * 2 ^ 58) s) ⟨_,_,_,_,_,_,_,_,_,rfl,by simp,fun s hs=>by rw [(List.mem_replicate.mp hs).2]; exact On.zero.mono (Nat.zero_le _)⟩ ?_ ?_
 ·rintro j x e hj ⟨ss,o2,o3,o4,o5,o6,o7,o8,o9,rfl,hl,hon⟩;obtain ⟨h1,h2,h3⟩:=ok.h x (List.mem_of_getElem? hj);have oo:=hon _ (Z2 (ss:=ss) h2.1 (by rw [hl]; exact h2.2));have h3':=one h3;rw [show hD x=PyData.tuple [.str x.1,.int x.2.1,dq x.2.2] from rfl];trivial;refine ⟨h1.lay,A1e,?_⟩;refine ite2 (fun h=>?_) (fun h=>?_)
  ·refine G9 (W8 h2.1 (by rw [hl]; exact h2.2)) ?_;trivial;refine ⟨_,_,rfl,sq oo (by decide),sq h3' (by decide),?_⟩;trivial;refine ite2 (fun h=>?_) (fun h=>?_)
   ·refine ⟨x.2.1.toNat,by rw [hl]; exact S3 h2.1 h2.2,ss.set x.2.1.toNat x.2.2,_,_,_,_,_,_,_,_,by rw [List.map_set],by rw [List.length_set]; exact hl,fun s hs=>?_⟩;rcases List.mem_or_eq_of_mem_set hs with z | z
    ·exact hon s z
    ·rw [z]; exact h3'
   ·exact ⟨ss,_,_,_,_,_,_,_,_,rfl,hl,hon⟩
  ·exact ⟨ss,_,_,_,_,_,_,_,_,rfl,hl,hon⟩
 rintro e ⟨ss,o2,o3,o4,o5,o6,o7,o8,o9,rfl,hl,hon⟩;subst hR;dsimp only;refine hd fun R hR=>?_;trivial;refine ⟨by omega,M9 (fun i e=>∃ (ss:LQ) (o2 o3 o4 o5 o6 o7 o8 o9:Option SV),e=[some (.d (.tuple [.list (xs.map kD),.list (ws.map wD),.list (hs.map hD),.list gs])),some (.bor (ts.map dq)),some (.own (ss.map dq)),o2,o3,o4,o5,o6,o7,o8,o9]/\ss.length=ts.length/\∀ s ∈ ss,On (LL * 4) ((1 + 80 * i) * 2 ^ 58) s) ⟨ss,_,_,_,_,_,_,_,_,rfl,hl,hon⟩ ?_ ?_⟩
 ·rintro i e hi ⟨ss,o2,o3,o4,o5,o6,o7,o8,o9,rfl,hl,hon⟩;have hi3:i < 10:=by omega
  trivial;refine K2 (f:=wD) (xs:=ws) (fun j e=>∃ (ss:LQ) (o2 o3 o4 o5 o6 o7 o8 o9:Option SV),e=[some (.d (.tuple [.list (xs.map kD),.list (ws.map wD),.list (hs.map hD),.list gs])),some (.bor (ts.map dq)),some (.own (ss.map dq)),o2,o3,o4,o5,o6,o7,o8,o9]/\ss.length=ts.length/\∀ s ∈ ss,On (LL * 4) ((1 + 80 * i + 2 * j) * 2 ^ 58) s) ⟨ss,_,_,_,_,_,_,_,_,rfl,hl,hon⟩ ?_ ?_
  ·rintro j w e hj ⟨ss,o2,o3,o4,o5,o6,o7,o8,o9,rfl,hl,hon⟩;obtain ⟨w1,w2,w3⟩:=ok.w w (List.mem_of_getElem? hj);have hjl:j < ws.length:=(List.getElem?_eq_some_iff.mp hj).1;have os:=hon _ (Z2 (ss:=ss) w1.1 (by rw [hl]; exact w1.2));have oo:=hon _ (Z2 (ss:=ss) w2.1 (by rw [hl]; exact w2.2));have ott:=one (ot _ (Z2 w1.1 w1.2));have w3':=one w3;have ost:On (LL * 4) ((2 + 80 * i + 2 * j) * 2 ^ 58) (rat ss w.1 + rat ts w.1):=(os.add B4 ott).mono (by rw [<- Nat.add_mul]; exact Nat.mul_le_mul_right _ (by omega));have osl:On (LL * 4) ((3 + 80 * i + 2 * j) * 2 ^ 58) (rat ss w.1 + rat ts w.1 + w.2.2):=(ost.add B4 w3').mono (by rw [<- Nat.add_mul]; exact Nat.mul_le_mul_right _ (by omega));rw [show wD w=PyData.tuple [.int w.1,.int w.2.1,dq w.2.2] from rfl];trivial;refine G9 (W8 w1.1 (by rw [hl]; exact w1.2)) ?_;trivial;refine G9 (W8 w1.1 w1.2) ?_;trivial;refine ⟨_,_,rfl,sq os (by omega),sq ott (by decide),?_⟩;trivial;refine ⟨_,_,rfl,sq ost (by omega),sq w3' (by decide),?_⟩;trivial;refine G9 (W8 w2.1 (by rw [hl]; exact w2.2)) ?_;trivial;refine ⟨_,_,rfl,sq oo (by omega),sq osl (by omega),?_⟩;trivial;refine ite2 (fun h=>?_) (fun h=>?_)
   ·refine ⟨w.2.1.toNat,by rw [hl]; exact S3 w2.1 w2.2,ss.set w.2.1.toNat (rat ss w.1 + rat ts w.1 + w.2.2),_,_,_,_,_,_,_,_,by rw [List.map_set],by rw [List.length_set]; exact hl,fun s hs=>?_⟩;rcases List.mem_or_eq_of_mem_set hs with z | z
    ·exact (hon s z).mono (Nat.mul_le_mul_right _ (by omega))
    ·rw [z]; exact osl.mono (Nat.mul_le_mul_right _ (by omega))
   ·exact ⟨ss,_,_,_,_,_,_,_,_,rfl,hl,fun s hs=>(hon s hs).mono (Nat.mul_le_mul_right _ (by omega))⟩
  ·rintro e ⟨ss,o2,o3,o4,o5,o6,o7,o8,o9,rfl,hl,hon⟩;exact ⟨ss,_,_,_,_,_,_,_,_,rfl,hl,fun s hs=>(hon s hs).mono (Nat.mul_le_mul_right _ (by omega))⟩
 rintro e ⟨ss,o2,o3,o4,o5,o6,o7,o8,o9,rfl,hl,hon⟩;subst hR;trivial;have at1:∀ {i:Nat},i < ts.length->ss[i]?=some (rat ss (i:Int))/\ts[i]?=some (rat ts (i:Int)):=fun {i} h=>by
  unfold rat;rw [Int.toNat_natCast,List.getD_eq_getElem?_getD,List.getD_eq_getElem?_getD,List.getElem?_eq_getElem h,List.getElem?_eq_getElem (show i < ss.length by omega)];exact ⟨rfl,rfl⟩
 refine ⟨by omega,by rw [J8]; omega,O8 (fun i e ys=>∃ o1:Option SV,e=[some (.bor (ss.map dq)),some (.bor (ts.map dq)),o1]/\ys=(((ss.zip ts).take i).map dcn)) ⟨_,rfl,rfl⟩ ?_ ?_⟩
 ·rintro i e ys hi ⟨o1,rfl,rfl⟩;have hit:i < ts.length:=by omega
  obtain ⟨a1,a2⟩:=at1 hit;trivial;refine C1 a1 ?_;trivial;refine C1 a2 ?_;trivial;refine ⟨_,rfl,?_⟩;rw [List.take_add_one,show (ss.zip ts)[i]?=some (rat ss (i:Int),rat ts (i:Int)) from List.getElem?_zip_eq_some.mpr ⟨a1,a2⟩,List.map_append];rfl
 rintro e ys ⟨o1,rfl,rfl⟩;rw [List.take_of_length_le (by rw [List.length_zip,hl,Nat.min_self]; simp)];trivial;refine k (ss.zip ts) (List.map_snd_zip (by omega)) fun p hp=>?_;exact (hon p.1 (List.of_mem_zip hp).1).mono (Nat.le_trans (Nat.mul_le_mul_right _ (show _<=2 ^ 12 by omega)) (by decide))
def A3r:Pu.PSp:=fun as Q=>∃ (xs:List Wk) (ws:LW) (hs:LH) (ps:LR) (pa:List ((Str × Int) × Rat)) (W:Rat),as=[.d (netD xs ws hs []),.d (.list (pa.map paD)),.bor (ps.map dcn),.d (dq W)]/\NP xs.length ws hs/\PB xs.length (vsO ws) (usO hs) pa/\ps.length=xs.length/\1<=xs.length/\(∀ x ∈ xs,Kd x.2.1/\OfG x.2.1 x.2.2 100 54 244 130/\OnC x.2.2/\(x.2.1="straight"->OnP x.2.2))/\(∀ p ∈ ps,On (LL * 4) (2 ^ 70) p.1/\On (LL * 4) (2 ^ 50) p.2)/\(∀ (i:Nat) x p,xs[i]?=some x->ps[i]?=some p->Off x.2.1 x.2.2 p.2)/\0<=W/\On (LL * 4) (2 ^ 72) W/\Q (.d (.bool true))
theorem B2i (T:Txt K mg D):FnOk P w K mg base CX0 9 D.a_c1 D.d_c1 ["_law_net","_law_paper_here","_law_plan","_law_whole"] (Pu.spOf K [.dat,.dat,.vw,.dat] A3r):=by
 refine T.F_c1.ok sc_c1 (Pu.spOf.len rfl) (fun cdv A outer s H vs Q E hr h=>?_);refine ⟨_,(QSs.out (A5 (D9 (E9 (A7 (A8l (K:=K) T) hr.mo rfl T.m_b4 T.F_b4.kp (B3c T) .nil C0 (A0 (qpv 0) (A0 (qpv 2) (A0 (qpv 3) A3)))))
    (A9 (D9 (QW.pt (A0u (E9 (A7 (A0b (K:=K) T) hr.mo rfl T.m_ca T.F_ca.kp (A48 T) .nil C0 (A0 (qpv 0) (A0 (qpv 1) (A0 (qpv 3) A3))))) (U2 (E9 (A7 (J0 (K:=K) T) hr.mo rfl T.m_bc T.F_bc.kp (K6 T) .nil C0 (A0 (A7 (B2j (K:=K) T) hr.mo rfl T.m_c0 T.F_c0.kp (B8m T) .nil C0 (A0 (qpv 0) (A0 (qpv 2) A3))) (A0 (A7 (A5q (K:=K) T) hr.mo rfl T.m_ad T.F_ad.kp (B1f T) .nil C0 (A0 (qpv 0) (A0 (qpv 1) (A0 (qpv 3) A3)))) A3)))))))
     (A9 (C4 J6))
     D1))
    D1)
   (A5 (D9 (M4 (E9 (A7 (A0b (K:=K) T) hr.mo rfl T.m_ca T.F_ca.kp (A48 T) .nil C0 (A0 (qpv 0) (A0 (qpv 1) (A0 (qpv 3) A3))))))
    (A9 (C4 J6))
    D1)
   (A5 (F4 (A7 (P7 (K:=K) T) hr.mo rfl T.m_a9 T.F_a9.kp (S2 T) .nil C0 (A0 (qpv 0) (A0 (qpv 1) A3))) (D0 (K:=K) (n:=3) rfl rfl (B7 (B3 (i:=4) sc_c1.nd rfl (Or.inl rfl) (Or.inl rfl)) (B7 (B3 (i:=5) sc_c1.nd rfl (Or.inl rfl) (Or.inl rfl)) (B7 (B3 (i:=6) sc_c1.nd rfl (Or.inl rfl) (Or.inl rfl)) C9))) rfl rfl))
   (A5 (D9 (M4 (E9 (A7 (A0b (K:=K) T) hr.mo rfl T.m_ca T.F_ca.kp (A48 T) .nil C0 (A0 (qpv 0) (A0 (qpv 1) (A0 (A7 (Q6 (K:=K) T) hr.mo rfl T.m_bb T.F_bb.kp (T7 T) .nil C0 (A0 (qpv 3) (A0 (C7 (A0 A4 (A0 A4 A3))) A3))) A3))))))
    (A9 (C4 J6))
    D1)
   (A9 (C4 (B3j (K4 (P6 (K:=K) rfl hr.units) (qpv 5) (C7 (A0 A4 (A0 A4 A3))) (D4 _)) (M6 (M7 (K4 U7 (B2 (A8 (K:=K) rfl) (qpv 6) A4 (fun _ _=>rfl)) A4 (D4 _)) (M6 (A7 (A0b (K:=K) T) hr.mo rfl T.m_ca T.F_ca.kp (A48 T) .nil C0 (A0 (qpv 0) (A0 (qpv 1) (A0 (A7 (G4 (K:=K) T) hr.mo rfl T.m_c2 T.F_c2.kp (J5 T) .nil C0 (A0 (qpv 3) (A0 (C7 (A0 (C3 U6 A4 A4) (A0 A4 A3))) A3))) A3))))))))))))))),?_⟩
 haveI:=T.c2_NOUGHT
 refine Pu.G3 h ?_;rintro as Qp ⟨xs,ws,hs,ps,pa,W,rfl,np,pb,pl,n0,of,op,off,W0,oW,k⟩;have n1:=np.n1;have of2:∀ x ∈ xs,1<=x.2.2.length/\x.2.2.length<=100/\OnC x.2.2:=fun x hx=>⟨(of x hx).2.1.ok.ne,by have:=(of x hx).2.1.ok.le; omega,(of x hx).2.2.1⟩;have B4:0 < LL * 4:=by decide
 have B9:LL * 4<=2 ^ 1000:=G2 A17 (by decide);have b3:LL * 4<=2 ^ 300:=Nat.le_trans A17 (Nat.pow_le_pow_right (by decide) (by decide));have psz:PSz (LL * 4) 72 ws hs ps:=⟨B4,B9,by decide,by omega,np.wl,np.hl,fun p hp=>⟨(op p hp).1.p2 (by decide),(op p hp).2.p2 (by decide)⟩,fun w hw=>by rw [pl]; exact ⟨(np.w w hw).1,(np.w w hw).2.1,(np.w w hw).2.2.p2 (by decide)⟩,fun h hh=>by rw [pl]; exact ⟨(np.h h hh).1,(np.h h hh).2.1,(np.h h hh).2.2.p2 (by decide)⟩⟩;have B50:0 < B5:=by decide
 have B51:B5<=2 ^ 1000:=G2 (a:=200) (by decide +kernel) (by decide);have sB:∀ {a:Nat} {q:Rat},On B5 (2 ^ a) q->a<=1000->SmQ 3900 q:=fun h g=>onQ h B50 B51 (Nat.pow_le_pow_right (by decide) g);have R0:=C2v pb;obtain ⟨L,eL⟩:∃ L,L=sA pa (wtA ws hs) + sumV (fun v=>FI xs.length (vsO ws) (usO hs) pa v * quV xs v) xs.length:=⟨_,rfl⟩;have bar:∀ {V:Rat} {Bw:Nat} {Q:SV->Prop},0 < Bw->Bw<=2 ^ 300->On Bw (2 ^ 80) V->Q (.d (.bool (decide (sA pa rtA * V < L))))->A2i [.d (netD xs ws hs []),.d (.list (pa.map paD)),.d (dq V)] Q:=fun h1 h2 h3 q=>⟨xs,ws,hs,[],pa,_,_,rfl,np,pb,of2,h1,h2,h3,by rw [<- eL]; exact q⟩;have barW:∀ {Q:SV->Prop},Q (.d (.bool (decide (sA pa rtA * W < L))))->A2i [.d (netD xs ws hs []),.d (.list (pa.map paD)),.d (dq W)] Q:=fun q=>bar B4 b3 (oW.p2 (by decide)) q;have dqi:∀ z:Int,PyData.tuple [.int z,.int 1]=dq (z:Rat):=fun z=>rfl;refine Z0 (fun e=>e=[some (.d (netD xs ws hs [])),some (.d (.list (pa.map paD))),some (.bor (ps.map dcn)),some (.d (dq W)),none,none,none]) (fun R hR=>?_) ?_
 ·trivial;refine ⟨xs,ws,hs,[],ps,some W,LL * 4,72,rfl,psz,fun w e=>by cases e; exact oW,fun b hb=>?_⟩;trivial;refine ite2 (fun hb1=>?_) (fun _=>hR _ rfl);have DD:=dual np pb pl (hb.mp hb1);have noB:¬ (sA pa rtA * W < L):=by
   have h2:sumV (fun v=>FI xs.length (vsO ws) (usO hs) pa v * quV xs v) xs.length<=sumV (fun v=>FI xs.length (vsO ws) (usO hs) pa v * (sat ps (v:Int)).2) xs.length:=A6i fun v hv=>by
    obtain ⟨x,hx⟩:∃ x,xs[v]?=some x:=⟨_,List.getElem?_eq_getElem hv⟩;have hp:=Z1 (ps:=ps) (i:=v) (by omega);obtain ⟨q1,q2,_⟩:=of x (List.mem_of_getElem? hx);exact Rat.mul_le_mul_of_nonneg_left (C2w hx hp q1 q2 (off v x _ hx hp)) (by rw [pb.eq hv]; exact pb.nn)
   rw [eL];exact Rat.not_lt.mpr (by grind)
  refine barW ?_;rw [decide_eq_false noB];trivial;refine ⟨xs,ws,hs,[],ps,rfl,pl,n1,of,fun p hp=>(op p hp).2,off,fun C oC hC=>?_⟩;trivial;refine ⟨xs,ws,hs,[],pa,W,rfl,np,pb,of2,oW,fun X eX oX=>?_⟩;trivial;refine ⟨_,_,rfl,sB oC (by decide),sB oX (by decide),?_⟩;have noU:¬ (C < X):=by
   have h2:=hC (FI xs.length (vsO ws) (usO hs) pa);rw [eX];exact Rat.not_lt.mpr (by grind)
  rw [decide_eq_false noU];trivial;exact hR _ rfl
 rintro e rfl;refine hd fun R hR=>?_;trivial;refine barW ?_;by_cases hb:sA pa rtA * W < L;case neg =>
  rw [decide_eq_false hb];trivial;exact k
 rw [decide_eq_true hb];trivial;subst hR;refine hd fun R hR=>?_;trivial;refine ⟨xs,ws,hs,[],pa,rfl,np,pb,of2,fun P R' L' eP eR eL' oP oR oL=>?_⟩;trivial;subst hR;rw [<- eL] at eL';refine hd fun R hR=>?_;trivial;have o3:On 3 1 (Rat.divInt 1 3):=⟨1,rfl,by decide⟩;have ow3:On (LL * 4 * 3) (2 ^ 72) (W * Rat.divInt 1 3):=(On.mul oW o3).mono (by decide);refine ⟨W,Rat.divInt 1 3,by rw [B1o],onQ oW B4 B9 (Nat.pow_le_pow_right (by decide) (by decide)),onQ o3 (by decide) (by decide) (by decide),?_⟩;trivial;refine bar (Bw:=LL * 4 * 3) (by decide) (Nat.le_trans (show LL * 4 * 3<=2 ^ 110 by decide +kernel) (Nat.pow_le_pow_right (by decide) (by decide))) (ow3.p2 (by decide)) ?_;have f3:(0:Rat)<=Rat.divInt 1 3/\Rat.divInt 1 3<=1:=by decide +kernel
 have b2:sA pa rtA * (W * Rat.divInt 1 3) < L:=by
  have h1:=Rat.mul_nonneg R0 (Rat.mul_nonneg W0 (show 0<=1 - Rat.divInt 1 3 by grind));grind
 rw [decide_eq_true b2];trivial;subst hR;trivial;refine ite2 (fun r0=>?_) (fun _=>k);have r1:sA pa rtA=0:=by rw [<- eR]; exact r0
 have l0:0 < L':=by rw [eL']; rw [r1] at hb; grind
 refine ite2 (fun _=>?_) (fun z=>absurd (A2q l0) z);have o15:On (LL * 4) (2 ^ 72) (((10:Int) ^ (Int.toNat 15):Int):Rat):=A8d B4 (by decide);have oWs:=oW.add2 (b:=73) B4 o15 (by decide);refine ⟨V5 15,W,(((10:Int) ^ (Int.toNat 15):Int):Rat),rfl,onQ oW B4 B9 (Nat.pow_le_pow_right (by decide) (by decide)),onQ o15 B4 B9 (Nat.pow_le_pow_right (by decide) (by decide)),?_⟩;trivial;refine bar B4 b3 (oWs.p2 (by decide)) ?_;rw [decide_eq_true (show sA pa rtA * (W + (((10:Int) ^ (Int.toNat 15):Int):Rat)) < L by rw [r1,Rat.zero_mul,<- eL']; exact l0)];trivial;exact k
theorem C0u (T:Txt K mg D):FnOk P w K mg base CX0 10 D.a_cd D.d_cd ["_law_script"] (B6c K):=by
 refine FnOk.imp (sp:=Pu.spOf K [.vw] Pu.pLaw) ?_ Pu.C1g;refine T.F_cd.ok sc_cd (Pu.spOf.len rfl) (fun cdv A outer s H vs Q E hr h=>?_);refine ⟨_,(QSs.out (A5 (B8 (i:=1) sc_cd.nd rfl (Or.inl rfl) (A7 (A8g (K:=K) T) hr.mo rfl T.m_ba T.F_ba.kp (B27 T) .nil C0 (A0 (qpv 0) (A0 (E6 (A0 D3 (A0 D3 (A0 D3 A3)))) A3))))
   (A5 (B8 (i:=2) sc_cd.nd rfl (Or.inl rfl) (A7 (A8k (K:=K) T) hr.mo rfl T.m_b5 T.F_b5.kp (B3b T) .nil C0 (A0 (qpv 1) (A0 (qpv 0) A3))))
   (A5 (F0 PassesOwn.never rfl (W9 rfl T.z_range (A0 A4 (A0 (C2 (A1v rfl) (by rfl) T.z_max (by rfl) (A0 A4 (A0 (C2 (A1u rfl) (by rfl) T.z_min (by rfl) (A0 (C2 (C5 (K:=K) rfl) (by rfl) T.z_len PySem.boot_len (A0 (qpv 0) A3)) (A0 A4 A3))) A3))) A3))) (B3 (i:=3) sc_cd.nd rfl (Or.inl rfl) (Or.inl rfl))
    (A5 (B8 (i:=4) sc_cd.nd rfl (Or.inl rfl) (A7 (A8i (K:=K) T) hr.mo rfl T.m_b8 T.F_b8.kp (B29 T) .nil C0 (A0 (qpv 1) (A0 (qpv 0) (A0 (qpv 3) A3)))))
    (A5 (B8 (i:=5) sc_cd.nd rfl (Or.inl rfl) (A7 (W2 (K:=K) T) hr.mo rfl T.m_a1 T.F_a1.kp (A0j T) .nil C0 (A0 (qpv 2) (A0 (qpv 0) (A0 (C3 G6 (qpv 3) A4) A3)))))
    (A5 (B8 (i:=6) sc_cd.nd rfl (Or.inl rfl) (A7 (A2p (K:=K) T) hr.mo rfl T.m_a8 T.F_a8.kp (A5y T) .nil C0 (A0 (qpv 2) (A0 (qpv 5) A3))))
    (A5 (B8 (i:=7) sc_cd.nd rfl (Or.inl rfl) (C7 (A0 A4 (A0 A4 A3))))
    (A5 (F0 PassesOwn.never rfl (F7 (K:=K) rfl (qpv 6)) (D0 (K:=K) (n:=2) rfl rfl (B7 (B3 (i:=8) sc_cd.nd rfl (Or.inl rfl) (Or.inl rfl)) (B7 (B3 (i:=9) sc_cd.nd rfl (Or.inl rfl) (Or.inl rfl)) C9)) rfl rfl)
     (A5 (B8 (i:=10) sc_cd.nd rfl (Or.inl rfl) (A7 (G4 (K:=K) T) hr.mo rfl T.m_c2 T.F_c2.kp (J5 T) .nil C0 (A0 (qpv 8) (A0 (qpv 9) A3))))
     (A9 (D9 (E9 (A7 (J0 (K:=K) T) hr.mo rfl T.m_bc T.F_bc.kp (K6 T) .nil C0 (A0 (qpv 7) (A0 (qpv 10) A3))))
      (A9 (B8 (i:=7) sc_cd.nd rfl (Or.inl rfl) (qpv 10)))
      D1))))
    (A5 (B8 (i:=11) sc_cd.nd rfl (Or.inl rfl) (A7 (J7 (K:=K) T) hr.mo rfl T.m_ab T.F_ab.kp (K9 T) .nil C0 (A0 (A7 (K7 (K:=K) T) hr.mo rfl T.m_b3 T.F_b3.kp (M3 T) .nil C0 (A0 (qpv 0) (A0 (C3 G6 (qpv 3) A4) A3))) (A0 J6 (A0 A4 A3)))))
    (A9 (F0 PassesOwn.never rfl (F7 (K:=K) rfl (E6 (A0 (qpv 7) (A0 (qpv 11) (A0 (C7 (A0 A4 (A0 A4 A3))) A3))))) (B3 (i:=12) sc_cd.nd rfl (Or.inl rfl) (Or.inl rfl))
     (A9 (D9 (M4 (E9 (A7 (B2i (K:=K) T) hr.mo rfl T.m_c1 T.F_c1.kp (B8l T) .nil C0 (A0 (qpv 2) (A0 (qpv 4) (A0 (qpv 6) (A0 (qpv 12) A3)))))))
      (A9 (C4 J6))
      D1)))))))))))
   (A9 (C4 J6)))))),?_⟩
 haveI:=T.c2_NOUGHT
 refine Pu.G3 h ?_;rintro as Qp ⟨ns,rfl,hns,k⟩;refine hd fun R hR=>?_;trivial;refine ⟨ns,["straight","straight","steps"],rfl,hns,by decide,by decide,kz3,fun n xs vs us ok=>?_⟩;have ln:=ok.ln;have n1:=ok.n1;have n0:=ok.n0;trivial;subst hR;refine hd fun R hR=>?_;trivial;refine ⟨n,xs,vs,us,ns,rfl,ok,fun ws hs lnn h4 h6=>?_⟩;have np:NP xs.length ws hs:=⟨by omega,lnn.wl,lnn.hl,lnn.w,lnn.h⟩;have held:∀ {pa:List ((Str × Int) × Rat)} {ps:LR} {W:Rat} {Q:SV->Prop},PB n vs us pa->ps.length=xs.length->(∀ p ∈ ps,On (LL * 4) (2 ^ 70) p.1/\On (LL * 4) (2 ^ 50) p.2)->(∀ (i:Nat) x p,xs[i]?=some x->ps[i]?=some p->Off x.2.1 x.2.2 p.2)->0<=W->On (LL * 4) (2 ^ 72) W->Q (.d (.bool true))->A3r [.d (netD xs ws hs []),.d (.list (pa.map paD)),.bor (ps.map dcn),.d (dq W)] Q:=fun pb a1 a2 a3 a4 a5 q=>⟨xs,ws,hs,_,_,_,rfl,np,by rw [ln]; show PB n (ws.map fun w=>(w.1,w.2.1)) (hs.map fun h=>(h.1,h.2.1)) _; rw [h4,h6]; exact pb,a1,by omega,ok.of,a2,a3,a4,a5,q⟩;trivial;subst hR;refine hd fun R hR=>?_;trivial;obtain ⟨M,hM⟩:∃ M,M=(if (if 46 < (ns.length:Int) then 46 else (ns.length:Int)) > 42 then if 46 < (ns.length:Int) then 46 else (ns.length:Int) else 42):=⟨_,rfl⟩;have hM2:42<=M/\M<=46:=by rw [hM]; split <;> split <;> omega
 rw [<- hM];refine ⟨by omega,M9 (fun i e=>∃ o3 o4 o5 o6 o7 o8 o9 o10 o11 o12:Option SV,e=[some (.bor (ns.map .int)),some (.d (shD xs vs us)),some (.d (netD xs ws hs [])),o3,o4,o5,o6,o7,o8,o9,o10,o11,o12]) ⟨_,_,_,_,_,_,_,_,_,_,rfl⟩ ?_ ?_⟩
 ·rintro i e hi ⟨o3,o4,o5,o6,o7,o8,o9,o10,o11,o12,rfl⟩;refine hd fun R hR=>?_;trivial;refine ⟨n,xs,vs,us,ns,_,rfl,by omega,by omega,ok,fun pa pb=>?_⟩;trivial;subst hR;refine hd fun R hR=>?_;trivial;refine ⟨xs,ws,hs,[],ns,_,rfl,by omega,by omega,lnn,fun ts tl ot hof=>?_⟩;trivial;subst hR;refine hd fun R hR=>?_;trivial;refine ⟨xs,ws,hs,[],ts,rfl,by rw [tl]; exact np,fun t ht=>(ot t ht).p2 (by decide),fun ps pm op=>?_⟩;have pl:ps.length=xs.length:=by rw [<- tl,<- pm,List.length_map]
  have op2:∀ p ∈ ps,On (LL * 4) (2 ^ 70) p.1/\On (LL * 4) (2 ^ 50) p.2:=fun p hp=>⟨op p hp,ot p.2 (by rw [<- pm]; exact List.mem_map.mpr ⟨p,hp,rfl⟩)⟩;have off:∀ (i:Nat) x p,xs[i]?=some x->ps[i]?=some p->Off x.2.1 x.2.2 p.2:=fun j x p hx hp=>hof j x p.2 hx (by rw [<- pm,List.getElem?_map,hp]; rfl);have B4:0 < LL * 4:=by decide
  have B9:LL * 4<=2 ^ 1000:=G2 A17 (by decide);trivial;subst hR;refine hd fun R hR=>?_;trivial;subst hR;refine hd fun R hR=>?_;trivial;refine K2 (f:=dcn) (xs:=ps) (fun j e=>∃ (m:Rat) (o5 o8 o9 o10:Option SV),e=[some (.bor (ns.map .int)),some (.d (shD xs vs us)),some (.d (netD xs ws hs [])),some (.d (.int (40 + (i:Int)))),some (.own (pa.map paD)),o5,some (.d (.list (ps.map dcn))),some (.d (dq m)),o8,o9,o10,o11,o12]/\0<=m/\On (LL * 4) (2 ^ 72) m) ⟨0,_,_,_,_,rfl,Rat.le_refl,On.zero.mono (Nat.zero_le _)⟩ ?_ ?_
  ·rintro j p e hj ⟨m,o5,o8,o9,o10,rfl,m0,om⟩;obtain ⟨p1,p2⟩:=op2 p (List.mem_of_getElem? hj);have pe:On (LL * 4) (2 ^ 72) (enD p):=p1.add2 B4 (p2.p2 (by decide)) (by decide);trivial;refine ⟨_,_,rfl,onB p1 B4 B9 (by decide),onB p2 B4 B9 (by decide),?_⟩;trivial;refine ⟨m,enD p,rfl,onB om B4 B9 (by decide),onB pe B4 B9 (by decide),?_⟩;trivial;refine ite2 (fun z=>?_) (fun z=>?_)
   ·exact ⟨enD p,_,_,_,_,rfl,Rat.le_trans m0 (Rat.le_of_lt z),pe⟩
   ·exact ⟨m,_,_,_,_,rfl,m0,om⟩
  rintro e ⟨m,o5,o8,o9,o10,rfl,m0,om⟩;subst hR;dsimp only;refine hd fun R hR=>?_;trivial;refine ⟨ns,_,rfl,by omega,by omega,?_⟩;trivial;refine ⟨false,0,rfl,.inl rfl,fun q q0 _ sq _=>?_⟩;have oq:On (LL * 4) (2 ^ 72) q:=((O0 sq).up (by decide)).p2 (by decide);trivial;subst hR;trivial;refine K2 (f:=dq) (xs:=[m,q,0]) (fun j e=>∃ (sp:SV) (o5 o8 o9 o10 o11 o12:Option SV),e=[some (.bor (ns.map .int)),some (.d (shD xs vs us)),some (.d (netD xs ws hs [])),some (.d (.int (40 + (i:Int)))),some sp,o5,some (.d (.list (ps.map dcn))),some (.d (dq m)),o8,o9,o10,o11,o12]/\(sp=.d (.list (pa.map paD))\/sp=.own (pa.map paD))) ⟨_,_,_,_,_,_,_,rfl,.inr rfl⟩ ?_ ?_
  ·rintro j W e hj ⟨sp,o5,o8,o9,o10,o11,o12,rfl,hsp⟩;have hW:0<=W/\On (LL * 4) (2 ^ 72) W:=by
    have:=List.mem_of_getElem? hj;simp only [List.mem_cons,List.not_mem_nil,or_false] at this;rcases this with rfl | rfl | rfl
    ·exact ⟨m0,om⟩
    ·exact ⟨q0,oq⟩
    ·exact ⟨Rat.le_refl,On.zero.mono (Nat.zero_le _)⟩
   rcases hsp with rfl | rfl
   ·trivial;refine held pb pl op2 off hW.1 hW.2 ?_;trivial;exact ⟨_,_,_,_,_,_,_,rfl,.inl rfl⟩
   ·trivial;refine held pb pl op2 off hW.1 hW.2 ?_;trivial;exact ⟨_,_,_,_,_,_,_,rfl,.inl rfl⟩
  rintro e ⟨sp,o5,o8,o9,o10,o11,o12,rfl,hsp⟩;exact ⟨_,_,_,_,_,_,_,_,_,_,rfl⟩
 rintro e ⟨o3,o4,o5,o6,o7,o8,o9,o10,o11,o12,rfl⟩;subst hR;trivial;exact k
end
theorem all_mk {l:PySem.W.OpenLaw} {w:World} {K:PySem.W.Frag} {h:Heap} {mg:Str->Option Value} {fa:Addr} (X:K.In h) (G:h.Ns mainGlobals mg) (hfa:mg "law"=some (.ref fa))
  {od_b0 an_b0:Option Addr} {sl_b0:Array (Option Value)} {oc_b0 kV_b0 dc_b0 pm_b0 cd_b0 ct_b0:Value} {a_b0:Addr}
  {od_a6 an_a6:Option Addr} {sl_a6:Array (Option Value)} {oc_a6 kV_a6 dc_a6 pm_a6 cd_a6 ct_a6:Value} {a_a6:Addr}
  {od_a2 an_a2:Option Addr} {sl_a2:Array (Option Value)} {oc_a2 kV_a2 dc_a2 pm_a2 cd_a2 ct_a2:Value} {a_a2:Addr}
  {od_af an_af:Option Addr} {sl_af:Array (Option Value)} {oc_af kV_af dc_af pm_af cd_af ct_af:Value} {a_af:Addr}
  {od_cc an_cc:Option Addr} {sl_cc:Array (Option Value)} {oc_cc kV_cc dc_cc pm_cc cd_cc ct_cc:Value} {a_cc:Addr}
  {od_c7 an_c7:Option Addr} {sl_c7:Array (Option Value)} {oc_c7 kV_c7 dc_c7 pm_c7 cd_c7 ct_c7:Value} {a_c7:Addr}
  {od_b1 an_b1:Option Addr} {sl_b1:Array (Option Value)} {oc_b1 kV_b1 dc_b1 pm_b1 cd_b1 ct_b1:Value} {a_b1:Addr}
  {od_bd an_bd:Option Addr} {sl_bd:Array (Option Value)} {oc_bd kV_bd dc_bd pm_bd cd_bd ct_bd:Value} {a_bd:Addr}
  {od_b2 an_b2:Option Addr} {sl_b2:Array (Option Value)} {oc_b2 kV_b2 dc_b2 pm_b2 cd_b2 ct_b2:Value} {a_b2:Addr}
  {od_c8 an_c8:Option Addr} {sl_c8:Array (Option Value)} {oc_c8 kV_c8 dc_c8 pm_c8 cd_c8 ct_c8:Value} {a_c8:Addr}
  {od_a7 an_a7:Option Addr} {sl_a7:Array (Option Value)} {oc_a7 kV_a7 dc_a7 pm_a7 cd_a7 ct_a7:Value} {a_a7:Addr}
  {od_a0 an_a0:Option Addr} {sl_a0:Array (Option Value)} {oc_a0 kV_a0 dc_a0 pm_a0 cd_a0 ct_a0:Value} {a_a0:Addr}
  {od_c6 an_c6:Option Addr} {sl_c6:Array (Option Value)} {oc_c6 kV_c6 dc_c6 pm_c6 cd_c6 ct_c6:Value} {a_c6:Addr}
  {od_a5 an_a5:Option Addr} {sl_a5:Array (Option Value)} {oc_a5 kV_a5 dc_a5 pm_a5 cd_a5 ct_a5:Value} {a_a5:Addr}
  {od_a3 an_a3:Option Addr} {sl_a3:Array (Option Value)} {oc_a3 kV_a3 dc_a3 pm_a3 cd_a3 ct_a3:Value} {a_a3:Addr}
  {od_ae an_ae:Option Addr} {sl_ae:Array (Option Value)} {oc_ae kV_ae dc_ae pm_ae cd_ae ct_ae:Value} {a_ae:Addr}
  {od_ac an_ac:Option Addr} {sl_ac:Array (Option Value)} {oc_ac kV_ac dc_ac pm_ac cd_ac ct_ac:Value} {a_ac:Addr}
  {od_a4 an_a4:Option Addr} {sl_a4:Array (Option Value)} {oc_a4 kV_a4 dc_a4 pm_a4 cd_a4 ct_a4:Value} {a_a4:Addr}
  {od_be an_be:Option Addr} {sl_be:Array (Option Value)} {oc_be kV_be dc_be pm_be cd_be ct_be:Value} {a_be:Addr}
  {od_aa an_aa:Option Addr} {sl_aa:Array (Option Value)} {oc_aa kV_aa dc_aa pm_aa cd_aa ct_aa:Value} {a_aa:Addr}
  {od_a9 an_a9:Option Addr} {sl_a9:Array (Option Value)} {oc_a9 kV_a9 dc_a9 pm_a9 cd_a9 ct_a9:Value} {a_a9:Addr}
  {od_ad an_ad:Option Addr} {sl_ad:Array (Option Value)} {oc_ad kV_ad dc_ad pm_ad cd_ad ct_ad:Value} {a_ad:Addr}
  {od_ca an_ca:Option Addr} {sl_ca:Array (Option Value)} {oc_ca kV_ca dc_ca pm_ca cd_ca ct_ca:Value} {a_ca:Addr}
  {od_b3 an_b3:Option Addr} {sl_b3:Array (Option Value)} {oc_b3 kV_b3 dc_b3 pm_b3 cd_b3 ct_b3:Value} {a_b3:Addr}
  {od_c4 an_c4:Option Addr} {sl_c4:Array (Option Value)} {oc_c4 kV_c4 dc_c4 pm_c4 cd_c4 ct_c4:Value} {a_c4:Addr}
  {od_c9 an_c9:Option Addr} {sl_c9:Array (Option Value)} {oc_c9 kV_c9 dc_c9 pm_c9 cd_c9 ct_c9:Value} {a_c9:Addr}
  {od_c2 an_c2:Option Addr} {sl_c2:Array (Option Value)} {oc_c2 kV_c2 dc_c2 pm_c2 cd_c2 ct_c2:Value} {a_c2:Addr}
  {od_b6 an_b6:Option Addr} {sl_b6:Array (Option Value)} {oc_b6 kV_b6 dc_b6 pm_b6 cd_b6 ct_b6:Value} {a_b6:Addr}
  {od_bb an_bb:Option Addr} {sl_bb:Array (Option Value)} {oc_bb kV_bb dc_bb pm_bb cd_bb ct_bb:Value} {a_bb:Addr}
  {od_bc an_bc:Option Addr} {sl_bc:Array (Option Value)} {oc_bc kV_bc dc_bc pm_bc cd_bc ct_bc:Value} {a_bc:Addr}
  {od_ab an_ab:Option Addr} {sl_ab:Array (Option Value)} {oc_ab kV_ab dc_ab pm_ab cd_ab ct_ab:Value} {a_ab:Addr}
  {od_b7 an_b7:Option Addr} {sl_b7:Array (Option Value)} {oc_b7 kV_b7 dc_b7 pm_b7 cd_b7 ct_b7:Value} {a_b7:Addr}
  {od_ba an_ba:Option Addr} {sl_ba:Array (Option Value)} {oc_ba kV_ba dc_ba pm_ba cd_ba ct_ba:Value} {a_ba:Addr}
  {od_c5 an_c5:Option Addr} {sl_c5:Array (Option Value)} {oc_c5 kV_c5 dc_c5 pm_c5 cd_c5 ct_c5:Value} {a_c5:Addr}
  {od_c3 an_c3:Option Addr} {sl_c3:Array (Option Value)} {oc_c3 kV_c3 dc_c3 pm_c3 cd_c3 ct_c3:Value} {a_c3:Addr}
  {od_b8 an_b8:Option Addr} {sl_b8:Array (Option Value)} {oc_b8 kV_b8 dc_b8 pm_b8 cd_b8 ct_b8:Value} {a_b8:Addr}
  {od_b9 an_b9:Option Addr} {sl_b9:Array (Option Value)} {oc_b9 kV_b9 dc_b9 pm_b9 cd_b9 ct_b9:Value} {a_b9:Addr}
  {od_c0 an_c0:Option Addr} {sl_c0:Array (Option Value)} {oc_c0 kV_c0 dc_c0 pm_c0 cd_c0 ct_c0:Value} {a_c0:Addr}
  {od_b5 an_b5:Option Addr} {sl_b5:Array (Option Value)} {oc_b5 kV_b5 dc_b5 pm_b5 cd_b5 ct_b5:Value} {a_b5:Addr}
  {od_a1 an_a1:Option Addr} {sl_a1:Array (Option Value)} {oc_a1 kV_a1 dc_a1 pm_a1 cd_a1 ct_a1:Value} {a_a1:Addr}
  {od_b4 an_b4:Option Addr} {sl_b4:Array (Option Value)} {oc_b4 kV_b4 dc_b4 pm_b4 cd_b4 ct_b4:Value} {a_b4:Addr}
  {od_a8 an_a8:Option Addr} {sl_a8:Array (Option Value)} {oc_a8 kV_a8 dc_a8 pm_a8 cd_a8 ct_a8:Value} {a_a8:Addr}
  {od_c1 an_c1:Option Addr} {sl_c1:Array (Option Value)} {oc_c1 kV_c1 dc_c1 pm_c1 cd_c1 ct_c1:Value} {a_c1:Addr}
  {od_cd an_cd:Option Addr} {sl_cd:Array (Option Value)} {oc_cd kV_cd dc_cd pm_cd cd_cd ct_cd:Value} {a_cd:Addr}
  {q_NOUGHT:Addr}
  {od_NOUGHT:Option Addr} {its_NOUGHT:Array Value} {n_NOUGHT:Nat} {sl_NOUGHT:Array (Option Value)} {t0_NOUGHT t1_NOUGHT:Tok}
  (g_b0:PySem.W.nsIn K mainGlobals "is_whole"=some (some (.ref a_b0)))
  (l_b0:K.lookup a_b0=some ⟨oc_b0,od_b0,.func (PySem.W.fnOf "is_whole" "is_whole" (B1 s_b0) (B0 s_b0) (A6 s_b0) .none kV_b0 dc_b0 pm_b0 an_b0 cd_b0 ct_b0),sl_b0⟩)
  (c_b0:PySem.W.codeIn K cd_b0 "is_whole"=true)
  (k_b0:PySem.W.keepIn K (.ref a_b0)=true)
  (g_a6:PySem.W.nsIn K mainGlobals "is_tuple_of"=some (some (.ref a_a6)))
  (l_a6:K.lookup a_a6=some ⟨oc_a6,od_a6,.func (PySem.W.fnOf "is_tuple_of" "is_tuple_of" (B1 s_a6) (B0 s_a6) (A6 s_a6) .none kV_a6 dc_a6 pm_a6 an_a6 cd_a6 ct_a6),sl_a6⟩)
  (c_a6:PySem.W.codeIn K cd_a6 "is_tuple_of"=true)
  (k_a6:PySem.W.keepIn K (.ref a_a6)=true)
  (g_a2:PySem.W.nsIn K mainGlobals "common_part"=some (some (.ref a_a2)))
  (l_a2:K.lookup a_a2=some ⟨oc_a2,od_a2,.func (PySem.W.fnOf "common_part" "common_part" (B1 s_a2) (B0 s_a2) (A6 s_a2) .none kV_a2 dc_a2 pm_a2 an_a2 cd_a2 ct_a2),sl_a2⟩)
  (c_a2:PySem.W.codeIn K cd_a2 "common_part"=true)
  (k_a2:PySem.W.keepIn K (.ref a_a2)=true)
  (g_af:PySem.W.nsIn K mainGlobals "is_ratio"=some (some (.ref a_af)))
  (l_af:K.lookup a_af=some ⟨oc_af,od_af,.func (PySem.W.fnOf "is_ratio" "is_ratio" (B1 s_af) (B0 s_af) (A6 s_af) .none kV_af dc_af pm_af an_af cd_af ct_af),sl_af⟩)
  (c_af:PySem.W.codeIn K cd_af "is_ratio"=true)
  (k_af:PySem.W.keepIn K (.ref a_af)=true)
  (g_cc:PySem.W.nsIn K mainGlobals "plus"=some (some (.ref a_cc)))
  (l_cc:K.lookup a_cc=some ⟨oc_cc,od_cc,.func (PySem.W.fnOf "plus" "plus" (B1 s_cc) (B0 s_cc) (A6 s_cc) .none kV_cc dc_cc pm_cc an_cc cd_cc ct_cc),sl_cc⟩)
  (c_cc:PySem.W.codeIn K cd_cc "plus"=true)
  (k_cc:PySem.W.keepIn K (.ref a_cc)=true)
  (g_c7:PySem.W.nsIn K mainGlobals "minus"=some (some (.ref a_c7)))
  (l_c7:K.lookup a_c7=some ⟨oc_c7,od_c7,.func (PySem.W.fnOf "minus" "minus" (B1 s_c7) (B0 s_c7) (A6 s_c7) .none kV_c7 dc_c7 pm_c7 an_c7 cd_c7 ct_c7),sl_c7⟩)
  (c_c7:PySem.W.codeIn K cd_c7 "minus"=true)
  (k_c7:PySem.W.keepIn K (.ref a_c7)=true)
  (g_b1:PySem.W.nsIn K mainGlobals "product"=some (some (.ref a_b1)))
  (l_b1:K.lookup a_b1=some ⟨oc_b1,od_b1,.func (PySem.W.fnOf "product" "product" (B1 s_b1) (B0 s_b1) (A6 s_b1) .none kV_b1 dc_b1 pm_b1 an_b1 cd_b1 ct_b1),sl_b1⟩)
  (c_b1:PySem.W.codeIn K cd_b1 "product"=true)
  (k_b1:PySem.W.keepIn K (.ref a_b1)=true)
  (g_bd:PySem.W.nsIn K mainGlobals "is_less"=some (some (.ref a_bd)))
  (l_bd:K.lookup a_bd=some ⟨oc_bd,od_bd,.func (PySem.W.fnOf "is_less" "is_less" (B1 s_bd) (B0 s_bd) (A6 s_bd) .none kV_bd dc_bd pm_bd an_bd cd_bd ct_bd),sl_bd⟩)
  (c_bd:PySem.W.codeIn K cd_bd "is_less"=true)
  (k_bd:PySem.W.keepIn K (.ref a_bd)=true)
  (g_b2:PySem.W.nsIn K mainGlobals "smaller"=some (some (.ref a_b2)))
  (l_b2:K.lookup a_b2=some ⟨oc_b2,od_b2,.func (PySem.W.fnOf "smaller" "smaller" (B1 s_b2) (B0 s_b2) (A6 s_b2) .none kV_b2 dc_b2 pm_b2 an_b2 cd_b2 ct_b2),sl_b2⟩)
  (c_b2:PySem.W.codeIn K cd_b2 "smaller"=true)
  (k_b2:PySem.W.keepIn K (.ref a_b2)=true)
  (g_c8:PySem.W.nsIn K mainGlobals "sum_of"=some (some (.ref a_c8)))
  (l_c8:K.lookup a_c8=some ⟨oc_c8,od_c8,.func (PySem.W.fnOf "sum_of" "sum_of" (B1 s_c8) (B0 s_c8) (A6 s_c8) .none kV_c8 dc_c8 pm_c8 an_c8 cd_c8 ct_c8),sl_c8⟩)
  (c_c8:PySem.W.codeIn K cd_c8 "sum_of"=true)
  (k_c8:PySem.W.keepIn K (.ref a_c8)=true)
  (g_a7:PySem.W.nsIn K mainGlobals "least_with"=some (some (.ref a_a7)))
  (l_a7:K.lookup a_a7=some ⟨oc_a7,od_a7,.func (PySem.W.fnOf "least_with" "least_with" (B1 s_a7) (B0 s_a7) (A6 s_a7) .none kV_a7 dc_a7 pm_a7 an_a7 cd_a7 ct_a7),sl_a7⟩)
  (c_a7:PySem.W.codeIn K cd_a7 "least_with"=true)
  (k_a7:PySem.W.keepIn K (.ref a_a7)=true)
  (g_a0:PySem.W.nsIn K mainGlobals "is_number_below"=some (some (.ref a_a0)))
  (l_a0:K.lookup a_a0=some ⟨oc_a0,od_a0,.func (PySem.W.fnOf "is_number_below" "is_number_below" (B1 s_a0) (B0 s_a0) (A6 s_a0) .none kV_a0 dc_a0 pm_a0 an_a0 cd_a0 ct_a0),sl_a0⟩)
  (c_a0:PySem.W.codeIn K cd_a0 "is_number_below"=true)
  (k_a0:PySem.W.keepIn K (.ref a_a0)=true)
  (g_c6:PySem.W.nsIn K mainGlobals "is_arc"=some (some (.ref a_c6)))
  (l_c6:K.lookup a_c6=some ⟨oc_c6,od_c6,.func (PySem.W.fnOf "is_arc" "is_arc" (B1 s_c6) (B0 s_c6) (A6 s_c6) .none kV_c6 dc_c6 pm_c6 an_c6 cd_c6 ct_c6),sl_c6⟩)
  (c_c6:PySem.W.codeIn K cd_c6 "is_arc"=true)
  (k_c6:PySem.W.keepIn K (.ref a_c6)=true)
  (g_a5:PySem.W.nsIn K mainGlobals "is_carried"=some (some (.ref a_a5)))
  (l_a5:K.lookup a_a5=some ⟨oc_a5,od_a5,.func (PySem.W.fnOf "is_carried" "is_carried" (B1 s_a5) (B0 s_a5) (A6 s_a5) .none kV_a5 dc_a5 pm_a5 an_a5 cd_a5 ct_a5),sl_a5⟩)
  (c_a5:PySem.W.codeIn K cd_a5 "is_carried"=true)
  (k_a5:PySem.W.keepIn K (.ref a_a5)=true)
  (g_a3:PySem.W.nsIn K mainGlobals "look_at_form"=some (some (.ref a_a3)))
  (l_a3:K.lookup a_a3=some ⟨oc_a3,od_a3,.func (PySem.W.fnOf "look_at_form" "look_at_form" (B1 s_a3) (B0 s_a3) (A6 s_a3) .none kV_a3 dc_a3 pm_a3 an_a3 cd_a3 ct_a3),sl_a3⟩)
  (c_a3:PySem.W.codeIn K cd_a3 "look_at_form"=true)
  (k_a3:PySem.W.keepIn K (.ref a_a3)=true)
  (g_ae:PySem.W.nsIn K mainGlobals "flows_of"=some (some (.ref a_ae)))
  (l_ae:K.lookup a_ae=some ⟨oc_ae,od_ae,.func (PySem.W.fnOf "flows_of" "flows_of" (B1 s_ae) (B0 s_ae) (A6 s_ae) .none kV_ae dc_ae pm_ae an_ae cd_ae ct_ae),sl_ae⟩)
  (c_ae:PySem.W.codeIn K cd_ae "flows_of"=true)
  (k_ae:PySem.W.keepIn K (.ref a_ae)=true)
  (g_ac:PySem.W.nsIn K mainGlobals "add_hold"=some (some (.ref a_ac)))
  (l_ac:K.lookup a_ac=some ⟨oc_ac,od_ac,.func (PySem.W.fnOf "add_hold" "add_hold" (B1 s_ac) (B0 s_ac) (A6 s_ac) .none kV_ac dc_ac pm_ac an_ac cd_ac ct_ac),sl_ac⟩)
  (c_ac:PySem.W.codeIn K cd_ac "add_hold"=true)
  (k_ac:PySem.W.keepIn K (.ref a_ac)=true)
  (g_a4:PySem.W.nsIn K mainGlobals "amounts_of"=some (some (.ref a_a4)))
  (l_a4:K.lookup a_a4=some ⟨oc_a4,od_a4,.func (PySem.W.fnOf "amounts_of" "amounts_of" (B1 s_a4) (B0 s_a4) (A6 s_a4) .none kV_a4 dc_a4 pm_a4 an_a4 cd_a4 ct_a4),sl_a4⟩)
  (c_a4:PySem.W.codeIn K cd_a4 "amounts_of"=true)
  (k_a4:PySem.W.keepIn K (.ref a_a4)=true)
  (g_be:PySem.W.nsIn K mainGlobals "rate_of"=some (some (.ref a_be)))
  (l_be:K.lookup a_be=some ⟨oc_be,od_be,.func (PySem.W.fnOf "rate_of" "rate_of" (B1 s_be) (B0 s_be) (A6 s_be) .none kV_be dc_be pm_be an_be cd_be ct_be),sl_be⟩)
  (c_be:PySem.W.codeIn K cd_be "rate_of"=true)
  (k_be:PySem.W.keepIn K (.ref a_be)=true)
  (g_aa:PySem.W.nsIn K mainGlobals "weight_of"=some (some (.ref a_aa)))
  (l_aa:K.lookup a_aa=some ⟨oc_aa,od_aa,.func (PySem.W.fnOf "weight_of" "weight_of" (B1 s_aa) (B0 s_aa) (A6 s_aa) .none kV_aa dc_aa pm_aa an_aa cd_aa ct_aa),sl_aa⟩)
  (c_aa:PySem.W.codeIn K cd_aa "weight_of"=true)
  (k_aa:PySem.W.keepIn K (.ref a_aa)=true)
  (g_a9:PySem.W.nsIn K mainGlobals "claims_of"=some (some (.ref a_a9)))
  (l_a9:K.lookup a_a9=some ⟨oc_a9,od_a9,.func (PySem.W.fnOf "claims_of" "claims_of" (B1 s_a9) (B0 s_a9) (A6 s_a9) .none kV_a9 dc_a9 pm_a9 an_a9 cd_a9 ct_a9),sl_a9⟩)
  (c_a9:PySem.W.codeIn K cd_a9 "claims_of"=true)
  (k_a9:PySem.W.keepIn K (.ref a_a9)=true)
  (g_ad:PySem.W.nsIn K mainGlobals "claimed"=some (some (.ref a_ad)))
  (l_ad:K.lookup a_ad=some ⟨oc_ad,od_ad,.func (PySem.W.fnOf "claimed" "claimed" (B1 s_ad) (B0 s_ad) (A6 s_ad) .none kV_ad dc_ad pm_ad an_ad cd_ad ct_ad),sl_ad⟩)
  (c_ad:PySem.W.codeIn K cd_ad "claimed"=true)
  (k_ad:PySem.W.keepIn K (.ref a_ad)=true)
  (g_ca:PySem.W.nsIn K mainGlobals "bars"=some (some (.ref a_ca)))
  (l_ca:K.lookup a_ca=some ⟨oc_ca,od_ca,.func (PySem.W.fnOf "bars" "bars" (B1 s_ca) (B0 s_ca) (A6 s_ca) .none kV_ca dc_ca pm_ca an_ca cd_ca ct_ca),sl_ca⟩)
  (c_ca:PySem.W.codeIn K cd_ca "bars"=true)
  (k_ca:PySem.W.keepIn K (.ref a_ca)=true)
  (g_b3:PySem.W.nsIn K mainGlobals "_law_begun"=some (some (.ref a_b3)))
  (l_b3:K.lookup a_b3=some ⟨oc_b3,od_b3,.func (PySem.W.fnOf "_law_begun" "_law_begun" (B1 s_b3) (B0 s_b3) (A6 s_b3) .none kV_b3 dc_b3 pm_b3 an_b3 cd_b3 ct_b3),sl_b3⟩)
  (c_b3:PySem.W.codeIn K cd_b3 "_law_begun"=true)
  (k_b3:PySem.W.keepIn K (.ref a_b3)=true)
  (g_c4:PySem.W.nsIn K mainGlobals "_law_take"=some (some (.ref a_c4)))
  (l_c4:K.lookup a_c4=some ⟨oc_c4,od_c4,.func (PySem.W.fnOf "_law_take" "_law_take" (B1 s_c4) (B0 s_c4) (A6 s_c4) .none kV_c4 dc_c4 pm_c4 an_c4 cd_c4 ct_c4),sl_c4⟩)
  (c_c4:PySem.W.codeIn K cd_c4 "_law_take"=true)
  (k_c4:PySem.W.keepIn K (.ref a_c4)=true)
  (g_c9:PySem.W.nsIn K mainGlobals "_law_low"=some (some (.ref a_c9)))
  (l_c9:K.lookup a_c9=some ⟨oc_c9,od_c9,.func (PySem.W.fnOf "_law_low" "_law_low" (B1 s_c9) (B0 s_c9) (A6 s_c9) .none kV_c9 dc_c9 pm_c9 an_c9 cd_c9 ct_c9),sl_c9⟩)
  (c_c9:PySem.W.codeIn K cd_c9 "_law_low"=true)
  (k_c9:PySem.W.keepIn K (.ref a_c9)=true)
  (g_c2:PySem.W.nsIn K mainGlobals "_law_plus"=some (some (.ref a_c2)))
  (l_c2:K.lookup a_c2=some ⟨oc_c2,od_c2,.func (PySem.W.fnOf "_law_plus" "_law_plus" (B1 s_c2) (B0 s_c2) (A6 s_c2) .none kV_c2 dc_c2 pm_c2 an_c2 cd_c2 ct_c2),sl_c2⟩)
  (c_c2:PySem.W.codeIn K cd_c2 "_law_plus"=true)
  (k_c2:PySem.W.keepIn K (.ref a_c2)=true)
  (g_b6:PySem.W.nsIn K mainGlobals "_law_minus"=some (some (.ref a_b6)))
  (l_b6:K.lookup a_b6=some ⟨oc_b6,od_b6,.func (PySem.W.fnOf "_law_minus" "_law_minus" (B1 s_b6) (B0 s_b6) (A6 s_b6) .none kV_b6 dc_b6 pm_b6 an_b6 cd_b6 ct_b6),sl_b6⟩)
  (c_b6:PySem.W.codeIn K cd_b6 "_law_minus"=true)
  (k_b6:PySem.W.keepIn K (.ref a_b6)=true)
  (g_bb:PySem.W.nsIn K mainGlobals "_law_times"=some (some (.ref a_bb)))
  (l_bb:K.lookup a_bb=some ⟨oc_bb,od_bb,.func (PySem.W.fnOf "_law_times" "_law_times" (B1 s_bb) (B0 s_bb) (A6 s_bb) .none kV_bb dc_bb pm_bb an_bb cd_bb ct_bb),sl_bb⟩)
  (c_bb:PySem.W.codeIn K cd_bb "_law_times"=true)
  (k_bb:PySem.W.keepIn K (.ref a_bb)=true)
  (g_bc:PySem.W.nsIn K mainGlobals "_law_under"=some (some (.ref a_bc)))
  (l_bc:K.lookup a_bc=some ⟨oc_bc,od_bc,.func (PySem.W.fnOf "_law_under" "_law_under" (B1 s_bc) (B0 s_bc) (A6 s_bc) .none kV_bc dc_bc pm_bc an_bc cd_bc ct_bc),sl_bc⟩)
  (c_bc:PySem.W.codeIn K cd_bc "_law_under"=true)
  (k_bc:PySem.W.keepIn K (.ref a_bc)=true)
  (g_ab:PySem.W.nsIn K mainGlobals "_law_amount"=some (some (.ref a_ab)))
  (l_ab:K.lookup a_ab=some ⟨oc_ab,od_ab,.func (PySem.W.fnOf "_law_amount" "_law_amount" (B1 s_ab) (B0 s_ab) (A6 s_ab) .none kV_ab dc_ab pm_ab an_ab cd_ab ct_ab),sl_ab⟩)
  (c_ab:PySem.W.codeIn K cd_ab "_law_amount"=true)
  (k_ab:PySem.W.keepIn K (.ref a_ab)=true)
  (g_b7:PySem.W.nsIn K mainGlobals "_law_offer"=some (some (.ref a_b7)))
  (l_b7:K.lookup a_b7=some ⟨oc_b7,od_b7,.func (PySem.W.fnOf "_law_offer" "_law_offer" (B1 s_b7) (B0 s_b7) (A6 s_b7) .none kV_b7 dc_b7 pm_b7 an_b7 cd_b7 ct_b7),sl_b7⟩)
  (c_b7:PySem.W.codeIn K cd_b7 "_law_offer"=true)
  (k_b7:PySem.W.keepIn K (.ref a_b7)=true)
  (g_ba:PySem.W.nsIn K mainGlobals "_law_shape"=some (some (.ref a_ba)))
  (l_ba:K.lookup a_ba=some ⟨oc_ba,od_ba,.func (PySem.W.fnOf "_law_shape" "_law_shape" (B1 s_ba) (B0 s_ba) (A6 s_ba) .none kV_ba dc_ba pm_ba an_ba cd_ba ct_ba),sl_ba⟩)
  (c_ba:PySem.W.codeIn K cd_ba "_law_shape"=true)
  (k_ba:PySem.W.keepIn K (.ref a_ba)=true)
  (g_c5:PySem.W.nsIn K mainGlobals "_law_walk"=some (some (.ref a_c5)))
  (l_c5:K.lookup a_c5=some ⟨oc_c5,od_c5,.func (PySem.W.fnOf "_law_walk" "_law_walk" (B1 s_c5) (B0 s_c5) (A6 s_c5) .none kV_c5 dc_c5 pm_c5 an_c5 cd_c5 ct_c5),sl_c5⟩)
  (c_c5:PySem.W.codeIn K cd_c5 "_law_walk"=true)
  (k_c5:PySem.W.keepIn K (.ref a_c5)=true)
  (g_c3:PySem.W.nsIn K mainGlobals "_law_rate"=some (some (.ref a_c3)))
  (l_c3:K.lookup a_c3=some ⟨oc_c3,od_c3,.func (PySem.W.fnOf "_law_rate" "_law_rate" (B1 s_c3) (B0 s_c3) (A6 s_c3) .none kV_c3 dc_c3 pm_c3 an_c3 cd_c3 ct_c3),sl_c3⟩)
  (c_c3:PySem.W.codeIn K cd_c3 "_law_rate"=true)
  (k_c3:PySem.W.keepIn K (.ref a_c3)=true)
  (g_b8:PySem.W.nsIn K mainGlobals "_law_paper"=some (some (.ref a_b8)))
  (l_b8:K.lookup a_b8=some ⟨oc_b8,od_b8,.func (PySem.W.fnOf "_law_paper" "_law_paper" (B1 s_b8) (B0 s_b8) (A6 s_b8) .none kV_b8 dc_b8 pm_b8 an_b8 cd_b8 ct_b8),sl_b8⟩)
  (c_b8:PySem.W.codeIn K cd_b8 "_law_paper"=true)
  (k_b8:PySem.W.keepIn K (.ref a_b8)=true)
  (g_b9:PySem.W.nsIn K mainGlobals "_law_price"=some (some (.ref a_b9)))
  (l_b9:K.lookup a_b9=some ⟨oc_b9,od_b9,.func (PySem.W.fnOf "_law_price" "_law_price" (B1 s_b9) (B0 s_b9) (A6 s_b9) .none kV_b9 dc_b9 pm_b9 an_b9 cd_b9 ct_b9),sl_b9⟩)
  (c_b9:PySem.W.codeIn K cd_b9 "_law_price"=true)
  (k_b9:PySem.W.keepIn K (.ref a_b9)=true)
  (g_c0:PySem.W.nsIn K mainGlobals "_law_cost"=some (some (.ref a_c0)))
  (l_c0:K.lookup a_c0=some ⟨oc_c0,od_c0,.func (PySem.W.fnOf "_law_cost" "_law_cost" (B1 s_c0) (B0 s_c0) (A6 s_c0) .none kV_c0 dc_c0 pm_c0 an_c0 cd_c0 ct_c0),sl_c0⟩)
  (c_c0:PySem.W.codeIn K cd_c0 "_law_cost"=true)
  (k_c0:PySem.W.keepIn K (.ref a_c0)=true)
  (g_b5:PySem.W.nsIn K mainGlobals "_law_loose"=some (some (.ref a_b5)))
  (l_b5:K.lookup a_b5=some ⟨oc_b5,od_b5,.func (PySem.W.fnOf "_law_loose" "_law_loose" (B1 s_b5) (B0 s_b5) (A6 s_b5) .none kV_b5 dc_b5 pm_b5 an_b5 cd_b5 ct_b5),sl_b5⟩)
  (c_b5:PySem.W.codeIn K cd_b5 "_law_loose"=true)
  (k_b5:PySem.W.keepIn K (.ref a_b5)=true)
  (g_a1:PySem.W.nsIn K mainGlobals "_law_times_drawn"=some (some (.ref a_a1)))
  (l_a1:K.lookup a_a1=some ⟨oc_a1,od_a1,.func (PySem.W.fnOf "_law_times_drawn" "_law_times_drawn" (B1 s_a1) (B0 s_a1) (A6 s_a1) .none kV_a1 dc_a1 pm_a1 an_a1 cd_a1 ct_a1),sl_a1⟩)
  (c_a1:PySem.W.codeIn K cd_a1 "_law_times_drawn"=true)
  (k_a1:PySem.W.keepIn K (.ref a_a1)=true)
  (g_b4:PySem.W.nsIn K mainGlobals "_law_keeps"=some (some (.ref a_b4)))
  (l_b4:K.lookup a_b4=some ⟨oc_b4,od_b4,.func (PySem.W.fnOf "_law_keeps" "_law_keeps" (B1 s_b4) (B0 s_b4) (A6 s_b4) .none kV_b4 dc_b4 pm_b4 an_b4 cd_b4 ct_b4),sl_b4⟩)
  (c_b4:PySem.W.codeIn K cd_b4 "_law_keeps"=true)
  (k_b4:PySem.W.keepIn K (.ref a_b4)=true)
  (g_a8:PySem.W.nsIn K mainGlobals "_law_soonest"=some (some (.ref a_a8)))
  (l_a8:K.lookup a_a8=some ⟨oc_a8,od_a8,.func (PySem.W.fnOf "_law_soonest" "_law_soonest" (B1 s_a8) (B0 s_a8) (A6 s_a8) .none kV_a8 dc_a8 pm_a8 an_a8 cd_a8 ct_a8),sl_a8⟩)
  (c_a8:PySem.W.codeIn K cd_a8 "_law_soonest"=true)
  (k_a8:PySem.W.keepIn K (.ref a_a8)=true)
  (g_c1:PySem.W.nsIn K mainGlobals "_law_held"=some (some (.ref a_c1)))
  (l_c1:K.lookup a_c1=some ⟨oc_c1,od_c1,.func (PySem.W.fnOf "_law_held" "_law_held" (B1 s_c1) (B0 s_c1) (A6 s_c1) .none kV_c1 dc_c1 pm_c1 an_c1 cd_c1 ct_c1),sl_c1⟩)
  (c_c1:PySem.W.codeIn K cd_c1 "_law_held"=true)
  (k_c1:PySem.W.keepIn K (.ref a_c1)=true)
  (g_cd:PySem.W.nsIn K mainGlobals "law"=some (some (.ref a_cd)))
  (l_cd:K.lookup a_cd=some ⟨oc_cd,od_cd,.func (PySem.W.fnOf "law" "law" (B1 s_cd) (B0 s_cd) (A6 s_cd) .none kV_cd dc_cd pm_cd an_cd cd_cd ct_cd),sl_cd⟩)
  (c_cd:PySem.W.codeIn K cd_cd "law"=true)
  (k_cd:PySem.W.keepIn K (.ref a_cd)=true)
  (gc_NOUGHT:PySem.W.nsIn K mainGlobals "NOUGHT"=some (some (.ref q_NOUGHT)))
  (z_abs:PySem.W.nsIn K mainGlobals "abs"=some none)
  (z_any:PySem.W.nsIn K mainGlobals "any"=some none)
  (z_bool:PySem.W.nsIn K mainGlobals "bool"=some none)
  (z_enumerate:PySem.W.nsIn K mainGlobals "enumerate"=some none)
  (z_int:PySem.W.nsIn K mainGlobals "int"=some none)
  (z_isinstance:PySem.W.nsIn K mainGlobals "isinstance"=some none)
  (z_len:PySem.W.nsIn K mainGlobals "len"=some none)
  (z_list:PySem.W.nsIn K mainGlobals "list"=some none)
  (z_max:PySem.W.nsIn K mainGlobals "max"=some none)
  (z_min:PySem.W.nsIn K mainGlobals "min"=some none)
  (z_range:PySem.W.nsIn K mainGlobals "range"=some none)
  (z_str:PySem.W.nsIn K mainGlobals "str"=some none)
  (z_tuple:PySem.W.nsIn K mainGlobals "tuple"=some none)
  (z_zip:PySem.W.nsIn K mainGlobals "zip"=some none)
  (lq_NOUGHT:K.lookup q_NOUGHT=some ⟨.type "tuple",od_NOUGHT,.seq its_NOUGHT n_NOUGHT,sl_NOUGHT⟩)
  (vq_NOUGHT:its_NOUGHT=#[Value.int 0 t0_NOUGHT,Value.int 1 t1_NOUGHT])
  : ∃ fd:FuncData,(∀ (s:Shared) (v:Value),BindsTo s fd ⟨[v],[]⟩ [("_law_script",v)])/\∀ base:Heap,K.In base->base.Ns mainGlobals mg->FnOk l.prog w K mg base CX0 10 fa fd ["_law_script"] (sp_law K):=by
 have e:=hfa.symm.trans (PySem.W.mg_of X G g_cd);cases e;have T:Txt K mg ⟨a_b0,PySem.W.fnOf "is_whole" "is_whole" (B1 s_b0) (B0 s_b0) (A6 s_b0) .none kV_b0 dc_b0 pm_b0 an_b0 cd_b0 ct_b0,a_a6,PySem.W.fnOf "is_tuple_of" "is_tuple_of" (B1 s_a6) (B0 s_a6) (A6 s_a6) .none kV_a6 dc_a6 pm_a6 an_a6 cd_a6 ct_a6,a_a2,PySem.W.fnOf "common_part" "common_part" (B1 s_a2) (B0 s_a2) (A6 s_a2) .none kV_a2 dc_a2 pm_a2 an_a2 cd_a2 ct_a2,a_af,PySem.W.fnOf "is_ratio" "is_ratio" (B1 s_af) (B0 s_af) (A6 s_af) .none kV_af dc_af pm_af an_af cd_af ct_af,a_cc,PySem.W.fnOf "plus" "plus" (B1 s_cc) (B0 s_cc) (A6 s_cc) .none kV_cc dc_cc pm_cc an_cc cd_cc ct_cc,a_c7,PySem.W.fnOf "minus" "minus" (B1 s_c7) (B0 s_c7) (A6 s_c7) .none kV_c7 dc_c7 pm_c7 an_c7 cd_c7 ct_c7,a_b1,PySem.W.fnOf "product" "product" (B1 s_b1) (B0 s_b1) (A6 s_b1) .none kV_b1 dc_b1 pm_b1 an_b1 cd_b1 ct_b1,a_bd,PySem.W.fnOf "is_less" "is_less" (B1 s_bd) (B0 s_bd) (A6 s_bd) .none kV_bd dc_bd pm_bd an_bd cd_bd ct_bd,a_b2,PySem.W.fnOf "smaller" "smaller" (B1 s_b2) (B0 s_b2) (A6 s_b2) .none kV_b2 dc_b2 pm_b2 an_b2 cd_b2 ct_b2,a_c8,PySem.W.fnOf "sum_of" "sum_of" (B1 s_c8) (B0 s_c8) (A6 s_c8) .none kV_c8 dc_c8 pm_c8 an_c8 cd_c8 ct_c8,a_a7,PySem.W.fnOf "least_with" "least_with" (B1 s_a7) (B0 s_a7) (A6 s_a7) .none kV_a7 dc_a7 pm_a7 an_a7 cd_a7 ct_a7,a_a0,PySem.W.fnOf "is_number_below" "is_number_below" (B1 s_a0) (B0 s_a0) (A6 s_a0) .none kV_a0 dc_a0 pm_a0 an_a0 cd_a0 ct_a0,a_c6,PySem.W.fnOf "is_arc" "is_arc" (B1 s_c6) (B0 s_c6) (A6 s_c6) .none kV_c6 dc_c6 pm_c6 an_c6 cd_c6 ct_c6,a_a5,PySem.W.fnOf "is_carried" "is_carried" (B1 s_a5) (B0 s_a5) (A6 s_a5) .none kV_a5 dc_a5 pm_a5 an_a5 cd_a5 ct_a5,a_a3,PySem.W.fnOf "look_at_form" "look_at_form" (B1 s_a3) (B0 s_a3) (A6 s_a3) .none kV_a3 dc_a3 pm_a3 an_a3 cd_a3 ct_a3,a_ae,PySem.W.fnOf "flows_of" "flows_of" (B1 s_ae) (B0 s_ae) (A6 s_ae) .none kV_ae dc_ae pm_ae an_ae cd_ae ct_ae,a_ac,PySem.W.fnOf "add_hold" "add_hold" (B1 s_ac) (B0 s_ac) (A6 s_ac) .none kV_ac dc_ac pm_ac an_ac cd_ac ct_ac,a_a4,PySem.W.fnOf "amounts_of" "amounts_of" (B1 s_a4) (B0 s_a4) (A6 s_a4) .none kV_a4 dc_a4 pm_a4 an_a4 cd_a4 ct_a4,a_be,PySem.W.fnOf "rate_of" "rate_of" (B1 s_be) (B0 s_be) (A6 s_be) .none kV_be dc_be pm_be an_be cd_be ct_be,a_aa,PySem.W.fnOf "weight_of" "weight_of" (B1 s_aa) (B0 s_aa) (A6 s_aa) .none kV_aa dc_aa pm_aa an_aa cd_aa ct_aa,a_a9,PySem.W.fnOf "claims_of" "claims_of" (B1 s_a9) (B0 s_a9) (A6 s_a9) .none kV_a9 dc_a9 pm_a9 an_a9 cd_a9 ct_a9,a_ad,PySem.W.fnOf "claimed" "claimed" (B1 s_ad) (B0 s_ad) (A6 s_ad) .none kV_ad dc_ad pm_ad an_ad cd_ad ct_ad,a_ca,PySem.W.fnOf "bars" "bars" (B1 s_ca) (B0 s_ca) (A6 s_ca) .none kV_ca dc_ca pm_ca an_ca cd_ca ct_ca,a_b3,PySem.W.fnOf "_law_begun" "_law_begun" (B1 s_b3) (B0 s_b3) (A6 s_b3) .none kV_b3 dc_b3 pm_b3 an_b3 cd_b3 ct_b3,a_c4,PySem.W.fnOf "_law_take" "_law_take" (B1 s_c4) (B0 s_c4) (A6 s_c4) .none kV_c4 dc_c4 pm_c4 an_c4 cd_c4 ct_c4,a_c9,PySem.W.fnOf "_law_low" "_law_low" (B1 s_c9) (B0 s_c9) (A6 s_c9) .none kV_c9 dc_c9 pm_c9 an_c9 cd_c9 ct_c9,a_c2,PySem.W.fnOf "_law_plus" "_law_plus" (B1 s_c2) (B0 s_c2) (A6 s_c2) .none kV_c2 dc_c2 pm_c2 an_c2 cd_c2 ct_c2,a_b6,PySem.W.fnOf "_law_minus" "_law_minus" (B1 s_b6) (B0 s_b6) (A6 s_b6) .none kV_b6 dc_b6 pm_b6 an_b6 cd_b6 ct_b6,a_bb,PySem.W.fnOf "_law_times" "_law_times" (B1 s_bb) (B0 s_bb) (A6 s_bb) .none kV_bb dc_bb pm_bb an_bb cd_bb ct_bb,a_bc,PySem.W.fnOf "_law_under" "_law_under" (B1 s_bc) (B0 s_bc) (A6 s_bc) .none kV_bc dc_bc pm_bc an_bc cd_bc ct_bc,a_ab,PySem.W.fnOf "_law_amount" "_law_amount" (B1 s_ab) (B0 s_ab) (A6 s_ab) .none kV_ab dc_ab pm_ab an_ab cd_ab ct_ab,a_b7,PySem.W.fnOf "_law_offer" "_law_offer" (B1 s_b7) (B0 s_b7) (A6 s_b7) .none kV_b7 dc_b7 pm_b7 an_b7 cd_b7 ct_b7,a_ba,PySem.W.fnOf "_law_shape" "_law_shape" (B1 s_ba) (B0 s_ba) (A6 s_ba) .none kV_ba dc_ba pm_ba an_ba cd_ba ct_ba,a_c5,PySem.W.fnOf "_law_walk" "_law_walk" (B1 s_c5) (B0 s_c5) (A6 s_c5) .none kV_c5 dc_c5 pm_c5 an_c5 cd_c5 ct_c5,a_c3,PySem.W.fnOf "_law_rate" "_law_rate" (B1 s_c3) (B0 s_c3) (A6 s_c3) .none kV_c3 dc_c3 pm_c3 an_c3 cd_c3 ct_c3,a_b8,PySem.W.fnOf "_law_paper" "_law_paper" (B1 s_b8) (B0 s_b8) (A6 s_b8) .none kV_b8 dc_b8 pm_b8 an_b8 cd_b8 ct_b8,a_b9,PySem.W.fnOf "_law_price" "_law_price" (B1 s_b9) (B0 s_b9) (A6 s_b9) .none kV_b9 dc_b9 pm_b9 an_b9 cd_b9 ct_b9,a_c0,PySem.W.fnOf "_law_cost" "_law_cost" (B1 s_c0) (B0 s_c0) (A6 s_c0) .none kV_c0 dc_c0 pm_c0 an_c0 cd_c0 ct_c0,a_b5,PySem.W.fnOf "_law_loose" "_law_loose" (B1 s_b5) (B0 s_b5) (A6 s_b5) .none kV_b5 dc_b5 pm_b5 an_b5 cd_b5 ct_b5,a_a1,PySem.W.fnOf "_law_times_drawn" "_law_times_drawn" (B1 s_a1) (B0 s_a1) (A6 s_a1) .none kV_a1 dc_a1 pm_a1 an_a1 cd_a1 ct_a1,a_b4,PySem.W.fnOf "_law_keeps" "_law_keeps" (B1 s_b4) (B0 s_b4) (A6 s_b4) .none kV_b4 dc_b4 pm_b4 an_b4 cd_b4 ct_b4,a_a8,PySem.W.fnOf "_law_soonest" "_law_soonest" (B1 s_a8) (B0 s_a8) (A6 s_a8) .none kV_a8 dc_a8 pm_a8 an_a8 cd_a8 ct_a8,a_c1,PySem.W.fnOf "_law_held" "_law_held" (B1 s_c1) (B0 s_c1) (A6 s_c1) .none kV_c1 dc_c1 pm_c1 an_c1 cd_c1 ct_c1,fa,PySem.W.fnOf "law" "law" (B1 s_cd) (B0 s_cd) (A6 s_cd) .none kV_cd dc_cd pm_cd an_cd cd_cd ct_cd,q_NOUGHT⟩:=⟨D6 (st:=s_b0) l_b0 c_b0 k_b0,PySem.W.mg_of X G g_b0,D6 (st:=s_a6) l_a6 c_a6 k_a6,PySem.W.mg_of X G g_a6,D6 (st:=s_a2) l_a2 c_a2 k_a2,PySem.W.mg_of X G g_a2,D6 (st:=s_af) l_af c_af k_af,PySem.W.mg_of X G g_af,D6 (st:=s_cc) l_cc c_cc k_cc,PySem.W.mg_of X G g_cc,D6 (st:=s_c7) l_c7 c_c7 k_c7,PySem.W.mg_of X G g_c7,D6 (st:=s_b1) l_b1 c_b1 k_b1,PySem.W.mg_of X G g_b1,D6 (st:=s_bd) l_bd c_bd k_bd,PySem.W.mg_of X G g_bd,D6 (st:=s_b2) l_b2 c_b2 k_b2,PySem.W.mg_of X G g_b2,D6 (st:=s_c8) l_c8 c_c8 k_c8,PySem.W.mg_of X G g_c8,D6 (st:=s_a7) l_a7 c_a7 k_a7,PySem.W.mg_of X G g_a7,D6 (st:=s_a0) l_a0 c_a0 k_a0,PySem.W.mg_of X G g_a0,D6 (st:=s_c6) l_c6 c_c6 k_c6,PySem.W.mg_of X G g_c6,D6 (st:=s_a5) l_a5 c_a5 k_a5,PySem.W.mg_of X G g_a5,D6 (st:=s_a3) l_a3 c_a3 k_a3,PySem.W.mg_of X G g_a3,D6 (st:=s_ae) l_ae c_ae k_ae,PySem.W.mg_of X G g_ae,D6 (st:=s_ac) l_ac c_ac k_ac,PySem.W.mg_of X G g_ac,D6 (st:=s_a4) l_a4 c_a4 k_a4,PySem.W.mg_of X G g_a4,D6 (st:=s_be) l_be c_be k_be,PySem.W.mg_of X G g_be,D6 (st:=s_aa) l_aa c_aa k_aa,PySem.W.mg_of X G g_aa,D6 (st:=s_a9) l_a9 c_a9 k_a9,PySem.W.mg_of X G g_a9,D6 (st:=s_ad) l_ad c_ad k_ad,PySem.W.mg_of X G g_ad,D6 (st:=s_ca) l_ca c_ca k_ca,PySem.W.mg_of X G g_ca,D6 (st:=s_b3) l_b3 c_b3 k_b3,PySem.W.mg_of X G g_b3,D6 (st:=s_c4) l_c4 c_c4 k_c4,PySem.W.mg_of X G g_c4,D6 (st:=s_c9) l_c9 c_c9 k_c9,PySem.W.mg_of X G g_c9,D6 (st:=s_c2) l_c2 c_c2 k_c2,PySem.W.mg_of X G g_c2,D6 (st:=s_b6) l_b6 c_b6 k_b6,PySem.W.mg_of X G g_b6,D6 (st:=s_bb) l_bb c_bb k_bb,PySem.W.mg_of X G g_bb,D6 (st:=s_bc) l_bc c_bc k_bc,PySem.W.mg_of X G g_bc,D6 (st:=s_ab) l_ab c_ab k_ab,PySem.W.mg_of X G g_ab,D6 (st:=s_b7) l_b7 c_b7 k_b7,PySem.W.mg_of X G g_b7,D6 (st:=s_ba) l_ba c_ba k_ba,PySem.W.mg_of X G g_ba,D6 (st:=s_c5) l_c5 c_c5 k_c5,PySem.W.mg_of X G g_c5,D6 (st:=s_c3) l_c3 c_c3 k_c3,PySem.W.mg_of X G g_c3,D6 (st:=s_b8) l_b8 c_b8 k_b8,PySem.W.mg_of X G g_b8,D6 (st:=s_b9) l_b9 c_b9 k_b9,PySem.W.mg_of X G g_b9,D6 (st:=s_c0) l_c0 c_c0 k_c0,PySem.W.mg_of X G g_c0,D6 (st:=s_b5) l_b5 c_b5 k_b5,PySem.W.mg_of X G g_b5,D6 (st:=s_a1) l_a1 c_a1 k_a1,PySem.W.mg_of X G g_a1,D6 (st:=s_b4) l_b4 c_b4 k_b4,PySem.W.mg_of X G g_b4,D6 (st:=s_a8) l_a8 c_a8 k_a8,PySem.W.mg_of X G g_a8,D6 (st:=s_c1) l_c1 c_c1 k_c1,PySem.W.mg_of X G g_c1,D6 (st:=s_cd) l_cd c_cd k_cd,PySem.W.mg_of X G g_cd,PySem.W.mg_of X G gc_NOUGHT,PySem.W.mg_none_of X G z_abs,PySem.W.mg_none_of X G z_any,PySem.W.mg_none_of X G z_bool,PySem.W.mg_none_of X G z_enumerate,PySem.W.mg_none_of X G z_int,PySem.W.mg_none_of X G z_isinstance,PySem.W.mg_none_of X G z_len,PySem.W.mg_none_of X G z_list,PySem.W.mg_none_of X G z_max,PySem.W.mg_none_of X G z_min,PySem.W.mg_none_of X G z_range,PySem.W.mg_none_of X G z_str,PySem.W.mg_none_of X G z_tuple,PySem.W.mg_none_of X G z_zip,⟨fun H=>.tup ⟨.inr ⟨_,its_NOUGHT,n_NOUGHT,lq_NOUGHT,rfl,rfl,by rw [vq_NOUGHT]; show 2<=sizeLine; decide,by rw [vq_NOUGHT]; exact .cons ⟨_,rfl⟩ (.cons ⟨_,rfl⟩ .nil)⟩,.inr L2.C04⟩ (.cons (.int _) (.cons (.int _) .nil))⟩⟩;exact ⟨PySem.W.fnOf "law" "law" (B1 s_cd) (B0 s_cd) (A6 s_cd) .none kV_cd dc_cd pm_cd an_cd cd_cd ct_cd,fun s v=>.of_eq rfl,fun base _ _=>C0u T⟩
theorem walk {l:PySem.W.OpenLaw} {q:Program} {loose:List Str} {XP:(Str->Option Value)->Heap->Prop} {YP:World->Heap->Prop} {d:DefRec} {K:Params->PySem.W.Frag} (hn:l.most=some 63) (hdf:d.params.defaults=[])
  (hY:∀ (w:World) (h:Heap),YP w h->(K w.params).In h)
  (F:∀ (w:World) (mg:Str->Option Value) (fa:Addr) (h:Heap),(K w.params).In h->h.Ns mainGlobals mg->mg d.name=some (.ref fa) ->
   ∃ fd:FuncData,(∀ (s:Shared) (u:Value),BindsTo s fd ⟨[u],[]⟩ [("_law_script",u)])/\∀ base:Heap,(K w.params).In base->base.Ns mainGlobals mg->FnOk l.prog w (K w.params) mg base CX0 10 fa fd ["_law_script"] (sp_law (K w.params))) :
  PySem.W.WalkO q loose XP YP l.row.toRowW d [] (fun f vs=>PySem.call f vs) :=
 L2.B5w (n:=63) (k:=10) (x:="_law_script") (CX:=fun _=>CX0) (sp:=fun w=>sp_law (K w.params)) hn (by decide) hdf ⟨rfl,rfl,by decide,by decide⟩ hY F (fun _ _ a ns hl _ hS=>⟨a,ns,rfl,hS,hl,fun _=>rfl⟩) fun _ _ _ _ _ z=>z
end Prf
open PySem PySem.W PyProof.Rows
set_option maxRecDepth 100000 in
set_option maxHeartbeats 0 in
theorem PySem.Challenge.cw_hurryprice_k22_whole_bars_leave_none_holds : PySem.Challenge.rw_hurryprice_k22_whole_bars_leave_none.Holds := by
 refine holds_law Prf.said fun ws=>?_;refine holds_open (q:=Prf.qq) (loose:=[]) (Xt:=Prf.xt) (XP:=XL Prf.qq []) (Yf:=Prf.hh.obs)
  (Ya:=Prf.hh.val) (YP:=Prf.hh.says) (N:=4442) Prf.left Prf.hh.of Prf.hh.keeps
  (fun s e=>xl_of s (Bool.and_eq_true_iff.mp e).1) XL.keeps
  (by rfl) (by rfl) (by rfl) (fun s e=>recFacts_of (Bool.and_eq_true_iff.mp e).2)
  (by rfl) ws (by decide +kernel)
  ⟨rfl,rfl,rfl,rfl,rfl,by decide +kernel⟩ ?hw ?hc
 case hw=>w_witness2
 refine Prf.walk (l:=PySem.Challenge.rw_hurryprice_k22_whole_bars_leave_none) (K:=Prf.kk) rfl rfl (fun w h Y=>PySem.W.kIn_of Y) ?F;case F =>
  intro w mg fa h KX G hmg
  k_fill
  refine' Prf.all_mk KX G hmg ?g_b0 ?l_b0 ?c_b0 ?k_b0 ?g_a6 ?l_a6 ?c_a6 ?k_a6 ?g_a2 ?l_a2 ?c_a2 ?k_a2 ?g_af ?l_af ?c_af ?k_af ?g_cc ?l_cc ?c_cc ?k_cc ?g_c7 ?l_c7 ?c_c7 ?k_c7 ?g_b1 ?l_b1 ?c_b1 ?k_b1 ?g_bd ?l_bd ?c_bd ?k_bd ?g_b2 ?l_b2 ?c_b2 ?k_b2 ?g_c8 ?l_c8 ?c_c8 ?k_c8 ?g_a7 ?l_a7 ?c_a7 ?k_a7 ?g_a0 ?l_a0 ?c_a0 ?k_a0 ?g_c6 ?l_c6 ?c_c6 ?k_c6 ?g_a5 ?l_a5 ?c_a5 ?k_a5 ?g_a3 ?l_a3 ?c_a3 ?k_a3 ?g_ae ?l_ae ?c_ae ?k_ae ?g_ac ?l_ac ?c_ac ?k_ac ?g_a4 ?l_a4 ?c_a4 ?k_a4 ?g_be ?l_be ?c_be ?k_be ?g_aa ?l_aa ?c_aa ?k_aa ?g_a9 ?l_a9 ?c_a9 ?k_a9 ?g_ad ?l_ad ?c_ad ?k_ad ?g_ca ?l_ca ?c_ca ?k_ca ?g_b3 ?l_b3 ?c_b3 ?k_b3 ?g_c4 ?l_c4 ?c_c4 ?k_c4 ?g_c9 ?l_c9 ?c_c9 ?k_c9 ?g_c2 ?l_c2 ?c_c2 ?k_c2 ?g_b6 ?l_b6 ?c_b6 ?k_b6 ?g_bb ?l_bb ?c_bb ?k_bb ?g_bc ?l_bc ?c_bc ?k_bc ?g_ab ?l_ab ?c_ab ?k_ab ?g_b7 ?l_b7 ?c_b7 ?k_b7 ?g_ba ?l_ba ?c_ba ?k_ba ?g_c5 ?l_c5 ?c_c5 ?k_c5 ?g_c3 ?l_c3 ?c_c3 ?k_c3 ?g_b8 ?l_b8 ?c_b8 ?k_b8 ?g_b9 ?l_b9 ?c_b9 ?k_b9 ?g_c0 ?l_c0 ?c_c0 ?k_c0 ?g_b5 ?l_b5 ?c_b5 ?k_b5 ?g_a1 ?l_a1 ?c_a1 ?k_a1 ?g_b4 ?l_b4 ?c_b4 ?k_b4 ?g_a8 ?l_a8 ?c_a8 ?k_a8 ?g_c1 ?l_c1 ?c_c1 ?k_c1 ?g_cd ?l_cd ?c_cd ?k_cd ?gc_NOUGHT ?z_abs ?z_any ?z_bool ?z_enumerate ?z_int ?z_isinstance ?z_len ?z_list ?z_max ?z_min ?z_range ?z_str ?z_tuple ?z_zip ?lq_NOUGHT ?vq_NOUGHT
  (case g_b0=>k_is)
  (case l_b0=>k_is)
  (case c_b0=>k_is)
  (case k_b0=>k_is)
  (case g_a6=>k_is)
  (case l_a6=>k_is)
  (case c_a6=>k_is)
  (case k_a6=>k_is)
  (case g_a2=>k_is)
  (case l_a2=>k_is)
  (case c_a2=>k_is)
  (case k_a2=>k_is)
  (case g_af=>k_is)
  (case l_af=>k_is)
  (case c_af=>k_is)
  (case k_af=>k_is)
  (case g_cc=>k_is)
  (case l_cc=>k_is)
  (case c_cc=>k_is)
  (case k_cc=>k_is)
  (case g_c7=>k_is)
  (case l_c7=>k_is)
  (case c_c7=>k_is)
  (case k_c7=>k_is)
  (case g_b1=>k_is)
  (case l_b1=>k_is)
  (case c_b1=>k_is)
  (case k_b1=>k_is)
  (case g_bd=>k_is)
  (case l_bd=>k_is)
  (case c_bd=>k_is)
  (case k_bd=>k_is)
  (case g_b2=>k_is)
  (case l_b2=>k_is)
  (case c_b2=>k_is)
  (case k_b2=>k_is)
  (case g_c8=>k_is)
  (case l_c8=>k_is)
  (case c_c8=>k_is)
  (case k_c8=>k_is)
  (case g_a7=>k_is)
  (case l_a7=>k_is)
  (case c_a7=>k_is)
  (case k_a7=>k_is)
  (case g_a0=>k_is)
  (case l_a0=>k_is)
  (case c_a0=>k_is)
  (case k_a0=>k_is)
  (case g_c6=>k_is)
  (case l_c6=>k_is)
  (case c_c6=>k_is)
  (case k_c6=>k_is)
  (case g_a5=>k_is)
  (case l_a5=>k_is)
  (case c_a5=>k_is)
  (case k_a5=>k_is)
  (case g_a3=>k_is)
  (case l_a3=>k_is)
  (case c_a3=>k_is)
  (case k_a3=>k_is)
  (case g_ae=>k_is)
  (case l_ae=>k_is)
  (case c_ae=>k_is)
  (case k_ae=>k_is)
  (case g_ac=>k_is)
  (case l_ac=>k_is)
  (case c_ac=>k_is)
  (case k_ac=>k_is)
  (case g_a4=>k_is)
  (case l_a4=>k_is)
  (case c_a4=>k_is)
  (case k_a4=>k_is)
  (case g_be=>k_is)
  (case l_be=>k_is)
  (case c_be=>k_is)
  (case k_be=>k_is)
  (case g_aa=>k_is)
  (case l_aa=>k_is)
  (case c_aa=>k_is)
  (case k_aa=>k_is)
  (case g_a9=>k_is)
  (case l_a9=>k_is)
  (case c_a9=>k_is)
  (case k_a9=>k_is)
  (case g_ad=>k_is)
  (case l_ad=>k_is)
  (case c_ad=>k_is)
  (case k_ad=>k_is)
  (case g_ca=>k_is)
  (case l_ca=>k_is)
  (case c_ca=>k_is)
  (case k_ca=>k_is)
  (case g_b3=>k_is)
  (case l_b3=>k_is)
  (case c_b3=>k_is)
  (case k_b3=>k_is)
  (case g_c4=>k_is)
  (case l_c4=>k_is)
  (case c_c4=>k_is)
  (case k_c4=>k_is)
  (case g_c9=>k_is)
  (case l_c9=>k_is)
  (case c_c9=>k_is)
  (case k_c9=>k_is)
  (case g_c2=>k_is)
  (case l_c2=>k_is)
  (case c_c2=>k_is)
  (case k_c2=>k_is)
  (case g_b6=>k_is)
  (case l_b6=>k_is)
  (case c_b6=>k_is)
  (case k_b6=>k_is)
  (case g_bb=>k_is)
  (case l_bb=>k_is)
  (case c_bb=>k_is)
  (case k_bb=>k_is)
  (case g_bc=>k_is)
  (case l_bc=>k_is)
  (case c_bc=>k_is)
  (case k_bc=>k_is)
  (case g_ab=>k_is)
  (case l_ab=>k_is)
  (case c_ab=>k_is)
  (case k_ab=>k_is)
  (case g_b7=>k_is)
  (case l_b7=>k_is)
  (case c_b7=>k_is)
  (case k_b7=>k_is)
  (case g_ba=>k_is)
  (case l_ba=>k_is)
  (case c_ba=>k_is)
  (case k_ba=>k_is)
  (case g_c5=>k_is)
  (case l_c5=>k_is)
  (case c_c5=>k_is)
  (case k_c5=>k_is)
  (case g_c3=>k_is)
  (case l_c3=>k_is)
  (case c_c3=>k_is)
  (case k_c3=>k_is)
  (case g_b8=>k_is)
  (case l_b8=>k_is)
  (case c_b8=>k_is)
  (case k_b8=>k_is)
  (case g_b9=>k_is)
  (case l_b9=>k_is)
  (case c_b9=>k_is)
  (case k_b9=>k_is)
  (case g_c0=>k_is)
  (case l_c0=>k_is)
  (case c_c0=>k_is)
  (case k_c0=>k_is)
  (case g_b5=>k_is)
  (case l_b5=>k_is)
  (case c_b5=>k_is)
  (case k_b5=>k_is)
  (case g_a1=>k_is)
  (case l_a1=>k_is)
  (case c_a1=>k_is)
  (case k_a1=>k_is)
  (case g_b4=>k_is)
  (case l_b4=>k_is)
  (case c_b4=>k_is)
  (case k_b4=>k_is)
  (case g_a8=>k_is)
  (case l_a8=>k_is)
  (case c_a8=>k_is)
  (case k_a8=>k_is)
  (case g_c1=>k_is)
  (case l_c1=>k_is)
  (case c_c1=>k_is)
  (case k_c1=>k_is)
  (case g_cd=>k_is)
  (case l_cd=>k_is)
  (case c_cd=>k_is)
  (case k_cd=>k_is)
  (case gc_NOUGHT=>k_is)
  (case z_abs=>k_is)
  (case z_any=>k_is)
  (case z_bool=>k_is)
  (case z_enumerate=>k_is)
  (case z_int=>k_is)
  (case z_isinstance=>k_is)
  (case z_len=>k_is)
  (case z_list=>k_is)
  (case z_max=>k_is)
  (case z_min=>k_is)
  (case z_range=>k_is)
  (case z_str=>k_is)
  (case z_tuple=>k_is)
  (case z_zip=>k_is)
  (case lq_NOUGHT=>k_is)
  (case vq_NOUGHT=>exact rfl)